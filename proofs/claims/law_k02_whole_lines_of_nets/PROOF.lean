import PyProof.Rows.All
import Wide.All
import OpenK.AllK
import Wide.FinOn
import HandS.ForMost
import HandS.Exc
import HandS.WordsExc
import HandS.Walk
import HandS.Deep
import KE.GoesNew
import HandS.IsInst
import HandS.TupLe
import HandS.TupAny
import HandS.TupMul
import HandS.More
import KE.SortData
import PyProof.P3In
import HandS.TryOnly
import HandS.ExcOwn
import HandS.Conv
import HandS.Text
import HandS.StrMore
import HandS.FStr
import PySem.Challenge.RW_singlegates_k02_whole_lines_of_nets
set_option Elab.async false
set_option linter.all false
set_option maxRecDepth 100000
namespace Pu
open PySem PySem.Spec PyProof.Rows L2
abbrev D := PyData
def kD : Key → D
  | .inl i => .int i
  | .inr x => .str x
mutual
def Den (K : PySem.W.Frag) (F : Hp) : D → V → Prop
  | .none, v => v = .non
  | .bool b, v => v = .bl b
  | .int i, v => v = .int i
  | .str x, v => v = .str x
  | .list ds, v => ∃ a xs, v = .ref a ∧ F a = some (.lst xs) ∧ Dens K F ds xs
  | .tuple ds, v => ∃ a xs, v = .ref a ∧ SqT K F a xs ∧ Dens K F ds xs
  | .dict es, v => ∃ a kvs, v = .ref a ∧ F a = some (.dK kvs) ∧ DenKV K F es kvs
def Dens (K : PySem.W.Frag) (F : Hp) : List D → List V → Prop
  | [], vs => vs = []
  | d :: ds, vs => ∃ v r, vs = v :: r ∧ Den K F d v ∧ Dens K F ds r
def DenKV (K : PySem.W.Frag) (F : Hp) : List (D × D) → List (Key × V) → Prop
  | [], l => l = []
  | (k, d) :: es, l => ∃ k' v r, l = (k', v) :: r ∧ k = kD k' ∧ Den K F d v ∧ DenKV K F es r
end
def Ex (H H' : Hp) : Prop := ∀ a o, H a = some o → H' a = some o
theorem Ex.refl (H : Hp) : Ex H H := fun _ _ h => h
theorem Ex.trans {H H1 H2 : Hp} (a : Ex H H1) (b : Ex H1 H2) : Ex H H2 := fun x o h => b x o (a x o h)
/-- what stands at the modules' place is tracked, and no list -/
def SyF (F : Hp) : Prop := ∃ o, F sysModules = some o ∧ ∀ xs, o ≠ .lst xs
theorem SyF.mono {F F' : Hp} (h : SyF F) (e : Ex F F') : SyF F' := let ⟨o, h1, h2⟩ := h; ⟨o, e _ _ h1, h2⟩
theorem SyF.ne {F : Hp} (h : SyF F) {a : Addr} {xs : List V} (e : F a = some (.lst xs)) : sysModules ≠ a := fun z => by
  obtain ⟨o, h1, h2⟩ := h
  rw [z, e] at h1
  exact h2 xs (Option.some.inj h1).symm
theorem Ex.new {H : Hp} {p : Addr} {o : HO} (h : H p = none) : Ex H (upd H p o) := fun a u e => by
  rw [upd_ne (ne_of_none e h)]
  exact e
theorem ex_rd {H H' : Hp} {a : Addr} {u : HO} (e : Ex H H') (h : Rd H a u) : Rd H' a u := by
  rcases h with h | ⟨o, h⟩
  · exact Or.inl (e a _ h)
  · exact Or.inr ⟨o, e a _ h⟩
theorem ex_l {K : PySem.W.Frag} {H H' : Hp} {a : Addr} {xs : List V} (e : Ex H H') (h : SqL K H a xs) : SqL K H' a xs := by
  rcases h with h | h
  · exact Or.inl (ex_rd e h)
  · exact Or.inr h
theorem ex_t {K : PySem.W.Frag} {H H' : Hp} {a : Addr} {xs : List V} (e : Ex H H') (h : SqT K H a xs) : SqT K H' a xs := by
  rcases h with h | h
  · exact Or.inl (ex_rd e h)
  · exact Or.inr h
section
variable {K : PySem.W.Frag} {F F' : Hp}
mutual
theorem den_mono (e : Ex F F') : ∀ (d : D) (v : V), Den K F d v → Den K F' d v
  | .none, _, h => by simpa only [Den] using h
  | .bool _, _, h => by simpa only [Den] using h
  | .int _, _, h => by simpa only [Den] using h
  | .str _, _, h => by simpa only [Den] using h
  | .list ds, v, h => by
    simp only [Den] at h ⊢
    obtain ⟨a, xs, h1, h2, h3⟩ := h
    exact ⟨a, xs, h1, e _ _ h2, dens_mono e ds xs h3⟩
  | .tuple ds, v, h => by
    simp only [Den] at h ⊢
    obtain ⟨a, xs, h1, h2, h3⟩ := h
    exact ⟨a, xs, h1, ex_t e h2, dens_mono e ds xs h3⟩
  | .dict es, v, h => by
    simp only [Den] at h ⊢
    obtain ⟨a, xs, h1, h2, h3⟩ := h
    exact ⟨a, xs, h1, e _ _ h2, denkv_mono e es xs h3⟩
theorem dens_mono (e : Ex F F') : ∀ (ds : List D) (vs : List V), Dens K F ds vs → Dens K F' ds vs
  | [], vs, h => by simpa only [Dens] using h
  | d :: ds, vs, h => by
    simp only [Dens] at h ⊢
    obtain ⟨v, r, h1, h2, h3⟩ := h
    exact ⟨v, r, h1, den_mono e d v h2, dens_mono e ds r h3⟩
theorem denkv_mono (e : Ex F F') : ∀ (es : List (D × D)) (l : List (Key × V)), DenKV K F es l → DenKV K F' es l
  | [], l, h => by simpa only [DenKV] using h
  | (k, d) :: es, l, h => by
    simp only [DenKV] at h ⊢
    obtain ⟨k', v, r, h1, h2, h3, h4⟩ := h
    exact ⟨k', v, r, h1, h2, den_mono e d v h3, denkv_mono e es r h4⟩
end
end
end Pu

namespace Pu
open PySem PySem.Spec PyProof.Rows L2
/-- owned things that are handed on and changed in place -/
inductive Ab where
  | deck (k1 k2 : Str) (far : List Nat) (st : Fin 2305843009213693952)
inductive SV where
  | im (d : D)
  | ls (ds : List D)
  | ab (t : Ab)
abbrev PEnv := List (Option SV)
structure Exn where
  cls : Value
  fs : Option (List (Str × D))
inductive Opd where
  | val (d : D)
  | slot (i : Nat)
  | tmp (ds : List D)
  | tab (t : Ab)
inductive Res (α : Type) where
  | ok (a : α) (e : PEnv)
  | exc (x : Exn) (e : PEnv)
  | bad
abbrev PM (α : Type) := PEnv → Res α
def bnd {α β : Type} (m : PM α) (f : α → PM β) : PM β := fun e => match m e with
  | .ok a e' => f a e'
  | .exc x e' => .exc x e'
  | .bad => .bad
def ret {α : Type} (a : α) : PM α := fun e => .ok a e
def oops {α : Type} : PM α := fun _ => .bad
def lift {α : Type} : Option α → PM α
  | some a => ret a
  | none => oops
def AbAt (H : Hp) : Ab → V → List Addr → Prop
  | .deck k1 k2 far st, v, fp => ∃ a b, v = .ref a ∧ fp = [a, b] ∧ a ≠ b ∧ H a = some (.dK [(Sum.inr k1, .ref b), (Sum.inr k2, .int (st.val : Int))]) ∧ H b = some (.lst (far.map fun (n : Nat) => V.int (n : Int)))
theorem abAt_keep {H H' : Hp} {t : Ab} {v : V} {fp : List Addr} (h : AbAt H t v fp) (k : ∀ a o, a ∈ fp → H a = some o → H' a = some o) : AbAt H' t v fp := by
  cases t with
  | deck k1 k2 far st =>
    obtain ⟨a, b, h1, h2, h3, h4, h5⟩ := h
    subst h2
    exact ⟨a, b, h1, rfl, h3, k _ _ (by simp) h4, k _ _ (by simp) h5⟩
theorem abAt_in {H : Hp} {t : Ab} {v : V} {fp : List Addr} (h : AbAt H t v fp) : ∀ a ∈ fp, H a ≠ none := by
  cases t with
  | deck k1 k2 far st =>
    obtain ⟨a, b, h1, h2, h3, h4, h5⟩ := h
    subst h2
    intro c hc
    simp only [List.mem_cons, List.not_mem_nil, or_false] at hc
    rcases hc with rfl | rfl
    · rw [h4]; simp
    · rw [h5]; simp
/-- what a slot stands for -/
def Sl (K : PySem.W.Frag) (F H : Hp) (fp : List Addr) : SV → V → Prop
  | .im d, v => Den K F d v
  | .ls ds, v => ∃ a xs, v = .ref a ∧ fp = [a] ∧ H a = some (.lst xs) ∧ Dens K F ds xs
  | .ab t, v => AbAt H t v fp
/-- what a run starts from: the heap, its frozen part; what stood there and may be changed, may be frozen; the thing that slot 0 has borrowed -/
structure Ct where
  H0 : Hp
  F0 : Hp
  mu : Addr → Prop
  fz : Addr → Prop
  br : Option (Addr × List Addr)
structure Rel (K : PySem.W.Frag) (c : Ct) (fp : Nat → List Addr) (F : Hp) (env : PEnv) (σ : L2.St) (H : Hp) : Prop where
  f0 : Ex c.F0 F
  sy : SyF F
  fh : Ex F H
  kp : ∀ q o, c.H0 q = some o → ¬ c.mu q → H q = some o
  al : ∀ q, c.H0 q ≠ none → H q ≠ none
  nw : ∀ q, F q ≠ none → c.F0 q ≠ none ∨ c.H0 q = none ∨ c.fz q
  ln : env.length = σ.length
  sl : ∀ i o, env[i]? = some (some o) → ∃ v, σ[i]? = some (some v) ∧ Sl K F H (fp i) o v
  ow : ∀ i a, a ∈ fp i → F a = none ∧ H a ≠ none ∧ (c.mu a ∨ c.H0 a = none)
  lf : ∀ i ds a, env[i]? = some (some (.ls ds)) → a ∈ fp i → c.H0 a = none ∨ c.fz a
  ds : ∀ i j a, a ∈ fp i → a ∈ fp j → i = j
  bb : ∀ p, c.br = some p → σ[0]? = some (some (.ref p.1)) ∧ fp 0 = p.2 ∧ ∃ t, env[0]? = some (some (.ab t))
def OpdOk (K : PySem.W.Frag) (c : Ct) (fp : Nat → List Addr) (F : Hp) (σ : L2.St) (H : Hp) : Opd → V → Prop
  | .val d, v => Den K F d v
  | .slot i, v => σ[i]? = some (some v)
  | .tmp ds, v => ∃ p xs, v = .ref p ∧ H p = some (.lst xs) ∧ F p = none ∧ c.H0 p = none ∧ (∀ i, p ∉ fp i) ∧ Dens K F ds xs
  | .tab t, v => ∃ fT, AbAt H t v fT ∧ ∀ a ∈ fT, F a = none ∧ c.H0 a = none ∧ ∀ i, a ∉ fp i
/-- the outcome of a basic step on values: the heap as it was, or one new object -/
inductive Got (K : PySem.W.Frag) (F H : Hp) : Opd → V → Hp → Prop where
  | same {d v} : Den K F d v → Got K F H (.val d) v H
  | tup {ds xs p} : H p = none → Dens K F ds xs → Got K F H (.val (.tuple ds)) (.ref p) (upd H p (.tup xs))
  | lst {ds xs p} : H p = none → Dens K F ds xs → Got K F H (.tmp ds) (.ref p) (upd H p (.lst xs))
  | dic {es kvs p} : H p = none → DenKV K F es kvs → Got K F H (.val (.dict es)) (.ref p) (upd H p (.dK kvs))
section
variable {K : PySem.W.Frag} {c : Ct} {fp : Nat → List Addr} {F F' : Hp} {env env' : PEnv} {σ : L2.St} {H H' : Hp}
theorem none_of_ex (e : Ex F H) {p : Addr} (h : H p = none) : F p = none := by
  cases q : F p with
  | none => rfl
  | some o => rw [e p o q] at h; cases h
theorem Rel.free (R : Rel K c fp F env σ H) {p : Addr} (h : H p = none) : F p = none ∧ c.H0 p = none ∧ ∀ i, p ∉ fp i := by
  refine ⟨none_of_ex R.fh h, ?_, fun i hi => (R.ow i p hi).2.1 h⟩
  cases q : c.H0 p with
  | none => rfl
  | some o => exact absurd h (R.al p (by rw [q]; simp))
theorem sl_keep {fq : List Addr} {o : SV} {v : V} (e : Ex F F') (k : ∀ a o, a ∈ fq → H a = some o → H' a = some o) (h : Sl K F H fq o v) : Sl K F' H' fq o v := by
  cases o with
  | im d => exact den_mono e d v h
  | ls ds =>
    obtain ⟨a, xs, h1, h2, h3, h4⟩ := h
    exact ⟨a, xs, h1, h2, k _ _ (by rw [h2]; simp) h3, dens_mono e ds xs h4⟩
  | ab t => exact abAt_keep h k
/-- the general step: the frozen part grows by what is new or was not owned, what was there stays -/
theorem Rel.grow (R : Rel K c fp F env σ H) (e : Ex F F') (eh : Ex F' H') (k : Ex H H') (nw : ∀ q, F' q ≠ none → F q ≠ none ∨ (c.H0 q = none ∧ ∀ i, q ∉ fp i)) : Rel K c fp F' env σ H' where
  lf := R.lf
  f0 := R.f0.trans e
  sy := R.sy.mono e
  fh := eh
  kp := fun q o h1 h2 => k q o (R.kp q o h1 h2)
  al := fun q h => by
    have := R.al q h
    cases z : H q with
    | none => exact absurd z this
    | some o => rw [k q o z]; simp
  nw := fun q h => (nw q h).elim (R.nw q) fun z => .inr (.inl z.1)
  ln := R.ln
  sl := fun i o h => let ⟨v, h1, h2⟩ := R.sl i o h; ⟨v, h1, sl_keep e (fun a u _ z => k a u z) h2⟩
  ow := fun i a h => by
    obtain ⟨h1, h2, h3⟩ := R.ow i a h
    refine ⟨?_, ?_, h3⟩
    · cases z : F' a with
      | none => rfl
      | some u =>
        rcases nw a (by rw [z]; simp) with q | q
        · exact absurd h1 q
        · exact absurd h (q.2 i)
    · cases z : H a with
      | none => exact absurd z h2
      | some o => rw [k a o z]; simp
  ds := R.ds
  bb := R.bb
theorem upd_some {H : Hp} {p q : Addr} {o : HO} (h : upd H p o q ≠ none) : q = p ∨ H q ≠ none := by
  by_cases e : q = p
  · exact .inl e
  · rw [upd_ne e] at h; exact .inr h
theorem ex_upd2 {p : Addr} {o : HO} (e : Ex F H) (h : H p = none) : Ex (upd F p o) (upd H p o) := fun q u z => by
  by_cases hq : q = p
  · subst hq; rw [upd_same] at z ⊢; exact z
  · rw [upd_ne hq] at z ⊢; exact e q u z
/-- a new frozen object -/
theorem Rel.new (R : Rel K c fp F env σ H) {p : Addr} {o : HO} (h : H p = none) : Rel K c fp (upd F p o) env σ (upd H p o) := by
  obtain ⟨h1, h2, h3⟩ := R.free h
  refine R.grow (Ex.new h1) (ex_upd2 R.fh h) (Ex.new h) fun q z => ?_
  rcases upd_some z with rfl | z
  · exact .inr ⟨h2, h3⟩
  · exact .inl z
/-- a new object that is not frozen -/
theorem Rel.newH (R : Rel K c fp F env σ H) {p : Addr} {o : HO} (h : H p = none) : Rel K c fp F env σ (upd H p o) :=
  R.grow (Ex.refl F) (R.fh.trans (Ex.new h)) (Ex.new h) fun q z => .inl z
theorem Rel.got (R : Rel K c fp F env σ H) {o : Opd} {v : V} (g : Got K F H o v H') : ∃ F', Rel K c fp F' env σ H' ∧ Ex F F' ∧ OpdOk K c fp F' σ H' o v := by
  cases g with
  | same h => exact ⟨F, R, Ex.refl F, h⟩
  | @tup ds xs p h1 h2 =>
    obtain ⟨n1, n2, n3⟩ := R.free h1
    refine ⟨_, R.new h1, Ex.new n1, ?_⟩
    show Den K _ (.tuple ds) _
    simp only [Den]
    exact ⟨p, xs, rfl, .inl (.inl upd_same), dens_mono (Ex.new n1) _ _ h2⟩
  | @lst ds xs p h1 h2 =>
    obtain ⟨n1, n2, n3⟩ := R.free h1
    exact ⟨F, R.newH h1, Ex.refl F, p, xs, rfl, upd_same, n1, n2, n3, h2⟩
  | @dic es kvs p h1 h2 =>
    obtain ⟨n1, n2, n3⟩ := R.free h1
    refine ⟨_, R.new h1, Ex.new n1, ?_⟩
    show Den K _ (.dict es) _
    simp only [Den]
    exact ⟨p, kvs, rfl, upd_same, denkv_mono (Ex.new n1) _ _ h2⟩
/-- a new list is frozen -/
theorem Rel.freezeTmp (R : Rel K c fp F env σ H) {ds : List D} {v : V} (h : OpdOk K c fp F σ H (.tmp ds) v) : ∃ F', Rel K c fp F' env σ H ∧ Ex F F' ∧ Den K F' (.list ds) v := by
  obtain ⟨p, xs, h1, h2, h3, h4, h5, h6⟩ := h
  refine ⟨upd F p (.lst xs), R.grow (Ex.new h3) (fun q u z => ?_) (Ex.refl H) (fun q z => ?_), Ex.new h3, ?_⟩
  · by_cases hq : q = p
    · subst hq; rw [upd_same] at z; cases z; exact h2
    · rw [upd_ne hq] at z; exact R.fh q u z
  · rcases upd_some z with rfl | z
    · exact .inr ⟨h4, h5⟩
    · exact .inl z
  · simp only [Den]
    exact ⟨p, xs, h1, upd_same, dens_mono (Ex.new h3) _ _ h6⟩
def fpSet (fp : Nat → List Addr) (i : Nat) (l : List Addr) : Nat → List Addr := fun j => if j = i then l else fp j
theorem fpSet_same {i : Nat} {l : List Addr} : fpSet fp i l i = l := if_pos rfl
theorem fpSet_ne {i j : Nat} {l : List Addr} (h : j ≠ i) : fpSet fp i l j = fp j := if_neg h
theorem get_set_ne' {α : Type} {l : List α} {i j : Nat} {x : α} (h : j ≠ i) : (l.set i x)[j]? = l[j]? := List.getElem?_set_ne (Ne.symm h)
theorem set_some {α : Type} {l : List α} {i : Nat} {x y : α} (h : (l.set i x)[i]? = some y) : y = x ∧ i < l.length := by
  have hl : i < l.length := by
    have := (List.getElem?_eq_some_iff.mp h).1
    simpa using this
  rw [List.getElem?_set_self hl] at h
  exact ⟨(Option.some.inj h).symm, hl⟩
/-- a slot is forgotten, or holds data -/
theorem Rel.put (R : Rel K c fp F env σ H) {i : Nat} {d : D} {v : V} (hb : c.br ≠ none → i ≠ 0) (h : Den K F d v) : Rel K c (fpSet fp i []) F (env.set i (some (.im d))) (σ.set i (some v)) H where
  f0 := R.f0
  sy := R.sy
  fh := R.fh
  kp := R.kp
  al := R.al
  nw := R.nw
  ln := by simp [R.ln]
  sl := fun j o hj => by
    by_cases e : j = i
    · subst e
      obtain ⟨h1, h2⟩ := set_some hj
      cases h1
      refine ⟨v, by rw [List.getElem?_set_self (by rw [← R.ln]; exact h2)], ?_⟩
      exact h
    · rw [get_set_ne' e] at hj ⊢
      rw [fpSet_ne e]
      exact R.sl j o hj
  ow := fun j a ha => by
    by_cases e : j = i
    · subst e; rw [fpSet_same] at ha; cases ha
    · rw [fpSet_ne e] at ha; exact R.ow j a ha
  ds := fun j k a h1 h2 => by
    by_cases e : j = i
    · subst e; rw [fpSet_same] at h1; cases h1
    · by_cases e2 : k = i
      · subst e2; rw [fpSet_same] at h2; cases h2
      · rw [fpSet_ne e] at h1; rw [fpSet_ne e2] at h2; exact R.ds j k a h1 h2
  lf := fun j ds' a hj ha => by
    by_cases e : j = i
    · subst e
      obtain ⟨h1, _⟩ := set_some hj
      cases h1
    · rw [get_set_ne' e] at hj
      rw [fpSet_ne e] at ha
      exact R.lf j ds' a hj ha
  bb := fun a ha => by
    have h0 : 0 ≠ i := fun z => hb (by rw [ha]; simp) z.symm
    rw [get_set_ne' h0, get_set_ne' h0, fpSet_ne h0]
    exact R.bb a ha
/-- a slot takes an owned thing -/
theorem Rel.putOwn (R : Rel K c fp F env σ H) {i : Nat} {o : SV} {v : V} {l : List Addr} (hb : c.br ≠ none → i ≠ 0) (h : Sl K F H l o v) (hl : ∀ a ∈ l, F a = none ∧ H a ≠ none ∧ c.H0 a = none ∧ ∀ j, a ∉ fp j) :
    Rel K c (fpSet fp i l) F (env.set i (some o)) (σ.set i (some v)) H where
  f0 := R.f0
  sy := R.sy
  fh := R.fh
  kp := R.kp
  al := R.al
  nw := R.nw
  ln := by simp [R.ln]
  sl := fun j o' hj => by
    by_cases e : j = i
    · subst e
      obtain ⟨h1, h2⟩ := set_some hj
      cases h1
      refine ⟨v, by rw [List.getElem?_set_self (by rw [← R.ln]; exact h2)], ?_⟩
      rw [fpSet_same]
      exact h
    · rw [get_set_ne' e] at hj ⊢
      rw [fpSet_ne e]
      exact R.sl j o' hj
  ow := fun j a ha => by
    by_cases e : j = i
    · subst e
      rw [fpSet_same] at ha
      obtain ⟨h1, h2, h3, _⟩ := hl a ha
      exact ⟨h1, h2, .inr h3⟩
    · rw [fpSet_ne e] at ha; exact R.ow j a ha
  ds := fun j k a h1 h2 => by
    by_cases e : j = i
    · by_cases e2 : k = i
      · rw [e, e2]
      · subst e; rw [fpSet_same] at h1; rw [fpSet_ne e2] at h2; exact absurd h2 ((hl a h1).2.2.2 k)
    · by_cases e2 : k = i
      · subst e2; rw [fpSet_same] at h2; rw [fpSet_ne e] at h1; exact absurd h1 ((hl a h2).2.2.2 j)
      · rw [fpSet_ne e] at h1; rw [fpSet_ne e2] at h2; exact R.ds j k a h1 h2
  lf := fun j ds' a hj ha => by
    by_cases e : j = i
    · subst e
      rw [fpSet_same] at ha
      exact .inl (hl a ha).2.2.1
    · rw [get_set_ne' e] at hj
      rw [fpSet_ne e] at ha
      exact R.lf j ds' a hj ha
  bb := fun a ha => by
    have h0 : 0 ≠ i := fun z => hb (by rw [ha]; simp) z.symm
    rw [get_set_ne' h0, get_set_ne' h0, fpSet_ne h0]
    exact R.bb a ha
/-- an owned thing is changed in place: the slot's footprint stays, what stands outside stays -/
theorem Rel.mutate (R : Rel K c fp F env σ H) {i : Nat} {o o' : SV} {v : V} (hi : env[i]? = some (some o)) (hv : σ[i]? = some (some v)) (hF : Ex F F') (hFH : Ex F' H') (k : ∀ q u, q ∉ fp i → H q = some u → H' q = some u) (al : ∀ q, H q ≠ none → H' q ≠ none)
    (nw : ∀ q, F' q ≠ none → F q ≠ none ∨ (c.H0 q = none ∧ ∀ i, q ∉ fp i)) (h : Sl K F' H' (fp i) o' v) (hk : (∃ t, o = .ab t) → ∃ t, o' = .ab t) (hk2 : (∃ l, o' = .ls l) → ∃ l, o = .ls l) : Rel K c fp F' (env.set i (some o')) σ H' where
  f0 := R.f0.trans hF
  sy := R.sy.mono hF
  fh := hFH
  kp := fun q u h1 h2 => k q u (fun z => by
    rcases (R.ow i q z).2.2 with y | y
    · exact h2 y
    · rw [y] at h1; cases h1) (R.kp q u h1 h2)
  al := fun q hq => al q (R.al q hq)
  nw := fun q hq => (nw q hq).elim (R.nw q) fun z => .inr (.inl z.1)
  lf := fun j ds' a hj ha => by
    by_cases e : j = i
    · subst e
      obtain ⟨h1, _⟩ := set_some hj
      cases h1
      obtain ⟨l, hl⟩ := hk2 ⟨_, rfl⟩
      subst hl
      exact R.lf _ l a hi ha
    · rw [get_set_ne' e] at hj
      exact R.lf j ds' a hj ha
  ln := by simp [R.ln]
  sl := fun j u hj => by
    by_cases e : j = i
    · subst e
      obtain ⟨h1, h2⟩ := set_some hj
      cases h1
      exact ⟨v, hv, h⟩
    · rw [get_set_ne' e] at hj
      obtain ⟨w, h1, h2⟩ := R.sl j u hj
      exact ⟨w, h1, sl_keep hF (fun a x ha z => k a x (fun q => e (R.ds j i a ha q)) z) h2⟩
  ow := fun j a ha => by
    obtain ⟨h1, h2, h3⟩ := R.ow j a ha
    refine ⟨?_, al a h2, h3⟩
    cases z : F' a with
    | none => rfl
    | some u =>
      rcases nw a (by rw [z]; simp) with q | q
      · exact absurd h1 q
      · exact absurd ha (q.2 j)
  ds := R.ds
  bb := fun a ha => by
    obtain ⟨h1, h2, t, h3⟩ := R.bb a ha
    refine ⟨h1, h2, ?_⟩
    by_cases e : 0 = i
    · subst e
      rw [hi] at h3
      have h4 := Option.some.inj (Option.some.inj h3)
      obtain ⟨t', ht⟩ := hk ⟨t, h4⟩
      refine ⟨t', ?_⟩
      rw [ht, List.getElem?_set_self (List.getElem?_eq_some_iff.mp hi).1]
    · rw [get_set_ne' e]
      exact ⟨t, h3⟩
/-- an owned list is frozen -/
theorem Rel.freeze (R : Rel K c fp F env σ H) {i : Nat} {ds : List D} {v : V} (hi : env[i]? = some (some (.ls ds))) (hv : σ[i]? = some (some v)) :
    ∃ F', Rel K c (fpSet fp i []) F' (env.set i (some (.im (.list ds)))) σ H ∧ Ex F F' ∧ Den K F' (.list ds) v := by
  obtain ⟨w, h1, a, xs, h2, h3, h4, h5⟩ := R.sl i _ hi
  have hw : w = v := by rw [hv] at h1; exact (Option.some.inj (Option.some.inj h1)).symm
  subst hw
  have ha : a ∈ fp i := by rw [h3]; simp
  have h0 : c.br ≠ none → i ≠ 0 := fun z e => by
    subst e
    obtain ⟨b, hb⟩ := Option.ne_none_iff_exists'.mp z
    obtain ⟨_, _, t, q⟩ := R.bb b hb
    rw [hi] at q
    cases q
  obtain ⟨n1, n2, n3⟩ := R.ow i a ha
  have n4 := R.lf i ds a hi ha
  have only : ∀ j, j ≠ i → a ∉ fp j := fun j hj z => hj (R.ds j i a z ha)
  have e1 : Ex F (upd F a (.lst xs)) := Ex.new n1
  refine ⟨upd F a (.lst xs), ⟨R.f0.trans e1, R.sy.mono e1, fun q u z => ?_, R.kp, R.al, fun q z => ?_, by simp [R.ln], fun j o hj => ?_, fun j b hb => ?_, fun j ds' b hj hb => ?_, fun j k b p q => ?_, fun b hb => ?_⟩, e1, ?_⟩
  · by_cases hq : q = a
    · subst hq; rw [upd_same] at z; cases z; exact h4
    · rw [upd_ne hq] at z; exact R.fh q u z
  · rcases upd_some z with rfl | z
    · exact .inr n4
    · exact R.nw q z
  · by_cases e : j = i
    · subst e
      obtain ⟨z1, z2⟩ := set_some hj
      cases z1
      refine ⟨w, hv, ?_⟩
      show Den K _ (.list ds) w
      simp only [Den]
      exact ⟨a, xs, h2, upd_same, dens_mono e1 _ _ h5⟩
    · rw [get_set_ne' e] at hj
      rw [fpSet_ne e]
      obtain ⟨w', z1, z2⟩ := R.sl j o hj
      exact ⟨w', z1, sl_keep e1 (fun _ _ _ z => z) z2⟩
  · by_cases e : j = i
    · subst e; rw [fpSet_same] at hb; cases hb
    · rw [fpSet_ne e] at hb
      obtain ⟨z1, z2, z3⟩ := R.ow j b hb
      refine ⟨?_, z2, z3⟩
      have hne : b ≠ a := fun z => only j e (z ▸ hb)
      rw [upd_ne hne]
      exact z1
  · by_cases e : j = i
    · subst e
      obtain ⟨z1, _⟩ := set_some hj
      cases z1
    · rw [get_set_ne' e] at hj
      rw [fpSet_ne e] at hb
      exact R.lf j ds' b hj hb
  · by_cases e : j = i
    · subst e; rw [fpSet_same] at p; cases p
    · by_cases e2 : k = i
      · subst e2; rw [fpSet_same] at q; cases q
      · rw [fpSet_ne e] at p; rw [fpSet_ne e2] at q; exact R.ds j k b p q
  · have hi0 : 0 ≠ i := fun z => h0 (by rw [hb]; simp) z.symm
    rw [get_set_ne' hi0, fpSet_ne hi0]
    exact R.bb b hb
  · simp only [Den]
    exact ⟨a, xs, h2, upd_same, dens_mono e1 _ _ h5⟩
/-- a piece of code that runs on its own: it starts from the state as it stands -/
def Ct.sub (c : Ct) (fp : Nat → List Addr) (F H : Hp) : Ct := ⟨H, F, fun a => ∃ i, a ∈ fp i, fun a => ∃ i, a ∈ fp i ∧ (c.H0 a = none ∨ c.fz a), c.br⟩
theorem Rel.into (R : Rel K c fp F env σ H) : Rel K (c.sub fp F H) fp F env σ H where
  f0 := Ex.refl F
  sy := R.sy
  fh := R.fh
  kp := fun q o h _ => h
  al := fun q h => h
  nw := fun q h => .inl h
  ln := R.ln
  sl := R.sl
  ow := fun i a h => ⟨(R.ow i a h).1, (R.ow i a h).2.1, .inl ⟨i, h⟩⟩
  lf := fun i ds a h1 h2 => .inr ⟨i, h2, R.lf i ds a h1 h2⟩
  ds := R.ds
  bb := R.bb
theorem Rel.outof {fp' : Nat → List Addr} {env' : PEnv} {σ' : L2.St} (R : Rel K c fp F env σ H) (R' : Rel K (c.sub fp F H) fp' F' env' σ' H') : Rel K c fp' F' env' σ' H' where
  f0 := R.f0.trans R'.f0
  sy := R'.sy
  fh := R'.fh
  kp := fun q o h1 h2 => R'.kp q o (R.kp q o h1 h2) fun ⟨i, z⟩ => by
    rcases (R.ow i q z).2.2 with y | y
    · exact h2 y
    · rw [y] at h1; cases h1
  al := fun q h => R'.al q (R.al q h)
  nw := fun q h => by
    rcases R'.nw q h with z | z | z
    · exact R.nw q z
    · refine .inr (.inl ?_)
      cases e : c.H0 q with
      | none => rfl
      | some o => exact absurd z (R.al q (by rw [e]; simp))
    · obtain ⟨_, _, z⟩ := z
      exact .inr z
  ln := R'.ln
  sl := R'.sl
  ow := fun i a h => by
    obtain ⟨h1, h2, h3⟩ := R'.ow i a h
    refine ⟨h1, h2, ?_⟩
    rcases h3 with ⟨j, z⟩ | z
    · exact (R.ow j a z).2.2
    · refine .inr ?_
      cases e : c.H0 a with
      | none => rfl
      | some o => exact absurd z (R.al a (by rw [e]; simp))
  lf := fun i ds a h1 h2 => by
    rcases R'.lf i ds a h1 h2 with z | z
    · refine .inl ?_
      cases e : c.H0 a with
      | none => rfl
      | some o => exact absurd z (R.al a (by rw [e]; simp))
    · obtain ⟨_, _, z⟩ := z
      exact z
  ds := R'.ds
  bb := R'.bb
/-- what stands outside of all that is owned stays, and stays outside -/
theorem Rel.aside {fp' : Nat → List Addr} {env' : PEnv} {σ' : L2.St} (R' : Rel K (c.sub fp F H) fp' F' env' σ' H') {q : Addr} {o : HO} (h1 : H q = some o) (h2 : F q = none) (h3 : ∀ i, q ∉ fp i) : H' q = some o ∧ F' q = none ∧ ∀ i, q ∉ fp' i := by
  refine ⟨R'.kp q o h1 fun ⟨i, z⟩ => h3 i z, ?_, fun i z => ?_⟩
  · cases e : F' q with
    | none => rfl
    | some u =>
      rcases R'.nw q (by rw [e]; simp) with z | z | ⟨i, z, _⟩
      · exact absurd h2 z
      · have z' : H q = none := z
        rw [h1] at z'; cases z'
      · exact absurd z (h3 i)
  · rcases (R'.ow i q z).2.2 with ⟨j, y⟩ | y
    · exact h3 j y
    · have y' : H q = none := y
      rw [h1] at y'; cases y'
end
end Pu

namespace Pu
open PySem PySem.Spec PyProof.Rows L2
/-! ### judgements -/
def FieldsOk (K : PySem.W.Frag) (F : Hp) : List (Str × D) → List (Str × V) → Prop
  | [], l => l = []
  | (k, d) :: es, l => ∃ v r, l = (k, v) :: r ∧ Den K F d v ∧ FieldsOk K F es r
def ExnOk (K : PySem.W.Frag) (F H : Hp) (x : Exn) (d : Option Addr) : Prop :=
  match x.fs with
  | none => d = none
  | some fs => ∃ a l, d = some a ∧ H a = some (.xd l) ∧ FieldsOk K F fs l
/-- the state behind a piece of code -/
def Goes {α : Type} (K : PySem.W.Frag) (c : Ct) (W : WX) (σ : L2.St) (F : Hp) (r : Res α) (G : (Nat → List Addr) → Hp → PEnv → Hp → α → Prop) : Prop :=
  match r with
  | .ok a env' => ∀ fp' F' H', Rel K c fp' F' env' σ H' → Ex F F' → G fp' F' env' H' a
  | .exc x env' => ∀ fp' F' H' d, Rel K c fp' F' env' σ H' → Ex F F' → ExnOk K F' H' x d → W x.cls d σ H'
  | .bad => False
section
variable {K : PySem.W.Frag} {c : Ct} {W : WX} {σ : L2.St} {F F' : Hp} {α β : Type}
theorem Goes.mono {r : Res α} {G G' : (Nat → List Addr) → Hp → PEnv → Hp → α → Prop} (h : Goes K c W σ F r G) (e : Ex F F') (k : ∀ fp1 F1 env1 H1 a, Ex F' F1 → Rel K c fp1 F1 env1 σ H1 → G fp1 F1 env1 H1 a → G' fp1 F1 env1 H1 a) : Goes K c W σ F' r G' := by
  cases r with
  | ok a env' => exact fun fp1 F1 H1 R e1 => k _ _ _ _ _ e1 R (h fp1 F1 H1 R (e.trans e1))
  | exc x env' => exact fun fp1 F1 H1 d R e1 => h fp1 F1 H1 d R (e.trans e1)
  | bad => exact h
theorem Goes.bnd {m : PM α} {k : α → PM β} {env : PEnv} {G : (Nat → List Addr) → Hp → PEnv → Hp → β → Prop} (h : Goes K c W σ F (bnd m k env) G) :
    Goes K c W σ F (m env) fun fp' F' env' H' a => Goes K c W σ F' (k a env') G := by
  unfold Pu.bnd at h
  cases e : m env with
  | ok a env' =>
    rw [e] at h
    exact fun fp1 F1 H1 R e1 => h.mono e1 fun _ _ _ _ _ _ _ g => g
  | exc x env' => rw [e] at h; exact h
  | bad => rw [e] at h; exact h
/-- a step that leaves the environment -/
theorem Goes.lift {o : Option α} {env : PEnv} {G : (Nat → List Addr) → Hp → PEnv → Hp → α → Prop} (h : Goes K c W σ F (lift o env) G) :
    ∃ a, o = some a ∧ ∀ fp' F' H', Rel K c fp' F' env σ H' → Ex F F' → G fp' F' env H' a := by
  cases o with
  | none => exact h.elim
  | some a => exact ⟨a, rfl, h⟩
end
abbrev OkC (c : Ct) (bo : Bool) : Prop := c.br ≠ none → bo = true
/-- an expression: what it gives, by the environment -/
def PX (X : Cx) (bo : Bool) (W : WX) (e : Expr) (f : PM Opd) : Prop :=
  ∃ t, PE X e t ∧ ∀ c fp F env σ H (Q : VK), OkC c bo → Rel X.K c fp F env σ H →
    Goes X.K c W σ F (f env) (fun fp' F' env' H' o => ∀ v, OpdOk X.K c fp' F' σ H' o v → Q v H') → t σ H Q
def PTX (X : Cx) (bo : Bool) (W : WX) (e : Expr) (f : PM Bool) : Prop :=
  ∃ t, PT X e t ∧ ∀ c fp F env σ H (Q : Bool → Hp → Prop), OkC c bo → Rel X.K c fp F env σ H →
    Goes X.K c W σ F (f env) (fun fp' F' env' H' b => Q b H') → t σ H Q
def PWX (X : Cx) (bo : Bool) (W : WX) (e : Expr) (f : PM Bool) : Prop :=
  ∃ t, PW X e t ∧ ∀ c fp F env σ H (Q : Bool → Hp → Prop), OkC c bo → Rel X.K c fp F env σ H →
    Goes X.K c W σ F (f env) (fun fp' F' env' H' b => Q b H') → t σ H Q
def OpdsOk (K : PySem.W.Frag) (c : Ct) (fp : Nat → List Addr) (F : Hp) (σ : L2.St) (H : Hp) : List Opd → List V → Prop
  | [], vs => vs = []
  | o :: os, vs => ∃ v r, vs = v :: r ∧ (match o with | .tmp _ => False | .tab _ => False | _ => True) ∧ OpdOk K c fp F σ H o v ∧ OpdsOk K c fp F σ H os r
/-- arguments that are read: data, or slots -/
def PAX (X : Cx) (bo : Bool) (W : WX) (es : List Expr) (f : PM (List Opd)) : Prop :=
  ∃ t, PA X es t ∧ ∀ c fp F env σ H (Q : List V → Hp → Prop), OkC c bo → Rel X.K c fp F env σ H →
    Goes X.K c W σ F (f env) (fun fp' F' env' H' os => ∀ vs, OpdsOk X.K c fp' F' σ H' os vs → Q vs H') → t σ H Q
/-- arguments that are kept: data -/
def PAF (X : Cx) (bo : Bool) (W : WX) (es : List Expr) (f : PM (List D)) : Prop :=
  ∃ t, PA X es t ∧ ∀ c fp F env σ H (Q : List V → Hp → Prop), OkC c bo → Rel X.K c fp F env σ H →
    Goes X.K c W σ F (f env) (fun fp' F' env' H' ds => ∀ vs, vs.length = es.length → Dens X.K F' ds vs → Q vs H') → t σ H Q
/-! ### reading, keeping -/
/-- a new list is laid down as data -/
def thaw : Opd → PM Opd
  | .tmp ds => ret (.val (.list ds))
  | .tab _ => oops
  | o => ret o
def opn (f : PM Opd) : PM Opd := bnd f thaw
/-- what an operand reads as, now -/
def rsv : Opd → PM D
  | .val d => ret d
  | .slot i => fun env => match env[i]? with
    | some (some (.im d)) => .ok d env
    | some (some (.ls ds)) => .ok (.list ds) env
    | _ => .bad
  | _ => oops
def frz : Opd → PM D
  | .val d => ret d
  | .tmp ds => ret (.list ds)
  | .slot i => fun env => match env[i]? with
    | some (some (.im d)) => .ok d env
    | some (some (.ls ds)) => .ok (.list ds) (env.set i (some (.im (.list ds))))
    | _ => .bad
  | .tab _ => oops
def kept (f : PM Opd) : PM D := bnd f frz
/-- data by its outer form over the heap as it stands -/
def BDen (K : PySem.W.Frag) (F H : Hp) : D → V → Prop
  | .list ds, v => ∃ a xs, v = .ref a ∧ H a = some (.lst xs) ∧ Dens K F ds xs
  | .dict es, v => ∃ a kvs, v = .ref a ∧ H a = some (.dK kvs) ∧ DenKV K F es kvs
  | d, v => Den K F d v
section
variable {K : PySem.W.Frag} {c : Ct} {fp : Nat → List Addr} {F F' : Hp} {env env' : PEnv} {σ : L2.St} {H H' : Hp} {W : WX}
theorem bden_of (e : Ex F H) : ∀ {d : D} {v : V}, Den K F d v → BDen K F H d v
  | .none, _, h => h
  | .bool _, _, h => h
  | .int _, _, h => h
  | .str _, _, h => h
  | .list ds, v, h => by
    simp only [Den] at h
    obtain ⟨a, xs, h1, h2, h3⟩ := h
    exact ⟨a, xs, h1, e _ _ h2, h3⟩
  | .tuple ds, v, h => h
  | .dict ds, v, h => by
    simp only [Den] at h
    obtain ⟨a, xs, h1, h2, h3⟩ := h
    exact ⟨a, xs, h1, e _ _ h2, h3⟩
theorem rsv_ok (R : Rel K c fp F env σ H) {o : Opd} {v : V} (h : OpdOk K c fp F σ H o v) {β : Type} {k : D → PM β} {G : (Nat → List Addr) → Hp → PEnv → Hp → β → Prop} (g : Goes K c W σ F (bnd (rsv o) k env) G) :
    ∃ d, BDen K F H d v ∧ Goes K c W σ F (k d env) G := by
  cases o with
  | val d => exact ⟨d, bden_of R.fh h, g⟩
  | slot i =>
    have h' : σ[i]? = some (some v) := h
    cases e : env[i]? with
    | none => simp only [bnd, rsv, e] at g; exact g.elim
    | some x =>
      cases x with
      | none => simp only [bnd, rsv, e] at g; exact g.elim
      | some s =>
        obtain ⟨w, h1, h2⟩ := R.sl i s e
        rw [h'] at h1
        cases h1
        cases s with
        | im d => simp only [bnd, rsv, e] at g; exact ⟨d, bden_of R.fh h2, g⟩
        | ls ds =>
          simp only [bnd, rsv, e] at g
          obtain ⟨a, xs, q1, q2, q3, q4⟩ := h2
          exact ⟨.list ds, ⟨a, xs, q1, q3, q4⟩, g⟩
        | ab t => simp only [bnd, rsv, e] at g; exact g.elim
  | tmp ds => exact g.elim
  | tab t => exact g.elim
theorem frz_ok (R : Rel K c fp F env σ H) {o : Opd} {v : V} (h : OpdOk K c fp F σ H o v) {β : Type} {k : D → PM β} {G : (Nat → List Addr) → Hp → PEnv → Hp → β → Prop} (g : Goes K c W σ F (bnd (frz o) k env) G) :
    ∃ d fp' F' env', Rel K c fp' F' env' σ H ∧ Ex F F' ∧ Den K F' d v ∧ Goes K c W σ F (k d env') G := by
  cases o with
  | val d => exact ⟨d, fp, F, env, R, Ex.refl F, h, g⟩
  | tmp ds =>
    obtain ⟨F1, R1, e1, d1⟩ := R.freezeTmp h
    exact ⟨.list ds, fp, F1, env, R1, e1, d1, g⟩
  | slot i =>
    have h' : σ[i]? = some (some v) := h
    cases e : env[i]? with
    | none => simp only [bnd, frz, e] at g; exact g.elim
    | some x =>
      cases x with
      | none => simp only [bnd, frz, e] at g; exact g.elim
      | some s =>
        obtain ⟨w, h1, h2⟩ := R.sl i s e
        rw [h'] at h1
        cases h1
        cases s with
        | im d => simp only [bnd, frz, e] at g; exact ⟨d, fp, F, env, R, Ex.refl F, h2, g⟩
        | ls ds =>
          simp only [bnd, frz, e] at g
          obtain ⟨F1, R1, e1, d1⟩ := R.freeze e h'
          exact ⟨.list ds, _, F1, _, R1, e1, d1, g⟩
        | ab t => simp only [bnd, frz, e] at g; exact g.elim
  | tab t => exact g.elim
theorem thaw_ok (R : Rel K c fp F env σ H) {o : Opd} {v : V} (h : OpdOk K c fp F σ H o v) {G : (Nat → List Addr) → Hp → PEnv → Hp → Opd → Prop} (g : Goes K c W σ F (thaw o env) G) :
    ∃ o' F', Rel K c fp F' env σ H ∧ Ex F F' ∧ OpdOk K c fp F' σ H o' v ∧ (match o' with | .tmp _ => False | .tab _ => False | _ => True) ∧ G fp F' env H o' := by
  cases o with
  | val d => exact ⟨.val d, F, R, Ex.refl F, h, trivial, g fp F H R (Ex.refl F)⟩
  | slot i => exact ⟨.slot i, F, R, Ex.refl F, h, trivial, g fp F H R (Ex.refl F)⟩
  | tmp ds =>
    obtain ⟨F1, R1, e1, d1⟩ := R.freezeTmp h
    exact ⟨.val (.list ds), F1, R1, e1, d1, trivial, g fp F1 H R1 e1⟩
  | tab t => exact g.elim
theorem opd_ex (e : Ex F F') {o : Opd} {v : V} {fp' : Nat → List Addr} {H' : Hp} (hn : match o with | .tmp _ => False | .tab _ => False | _ => True) (h : OpdOk K c fp F σ H o v) : OpdOk K c fp' F' σ H' o v := by
  cases o with
  | val d => exact den_mono e d v h
  | slot i => exact h
  | tmp ds => exact hn.elim
  | tab t => exact hn.elim
end
/-! ### expressions -/
section
variable {X : Cx} {bo : Bool} {W : WX} {e a b : Expr} {es : List Expr} {pos p : Pos} {x : Str}
/-- an operand that stays -/
theorem px_opn {f : PM Opd} (h : PX X bo W e f) : ∃ t, PE X e t ∧ ∀ c fp F env σ H (Q : VK), OkC c bo → Rel X.K c fp F env σ H →
    Goes X.K c W σ F (opn f env) (fun fp' F' env' H' o => ∀ v, (match o with | .tmp _ => False | .tab _ => False | _ => True) → OpdOk X.K c fp' F' σ H' o v → Q v H') → t σ H Q := by
  obtain ⟨t, h1, h2⟩ := h
  refine ⟨t, h1, fun c fp F env σ H Q hc R g => h2 c fp F env σ H Q hc R ?_⟩
  refine (Goes.bnd g).mono (Ex.refl F) fun fp1 F1 env1 H1 o e1 R1 g1 v hv => ?_
  obtain ⟨o', F2, R2, e2, h3, h4, h5⟩ := thaw_ok R1 hv g1
  exact h5 v h4 h3
def eVar (i : Nat) : PM Opd := fun env => match env[i]? with
      | some (some (.im d)) => .ok (.val d) env
      | some (some _) => .ok (.slot i) env
      | _ => .bad
theorem px_var (i : Nat) (hN : X.N[i]? = some x := by rfl) (hv : Vis X.env.scope x := by first | exact Or.inl rfl | exact Or.inr (Or.inl rfl) | exact Or.inr (Or.inr rfl)) (hd : (x == ("__debug__" : Str)) = false := by decide)
    (hcd : (x == ("__classdict__" : Str)) = false := by decide) : PX X bo W (.Name x pos) (eVar i) := by
  refine ⟨_, pe_var hN hv hd hcd, fun c fp F env σ H Q hc R g => ?_⟩
  unfold eVar at g
  cases e : env[i]? with
  | none => simp only [e] at g; exact g.elim
  | some s =>
    cases s with
    | none => simp only [e] at g; exact g.elim
    | some s =>
      obtain ⟨v, h1, h2⟩ := R.sl i s e
      refine ⟨v, h1, ?_⟩
      cases s with
      | im d => simp only [e] at g; exact g fp F H R (Ex.refl F) v h2
      | ls ds => simp only [e] at g; exact g fp F H R (Ex.refl F) v h1
      | ab t => simp only [e] at g; exact g fp F H R (Ex.refl F) v h1
theorem px_const {t : TE} {d : D} {v : V} (h : PE X e (tC v)) (hd : ∀ K F, Den K F d v) : PX X bo W e (ret (.val d)) :=
  ⟨_, h, fun c fp F env σ H Q hc R g => g fp F H R (Ex.refl F) v (hd _ _)⟩
theorem px_int {i : Int} {j : Nat} : PX X bo W (.Constant (.int i) j pos) (ret (.val (.int i))) := px_const (t := tC (.int i)) pe_int fun _ _ => by simp only [Den]
theorem px_bl {i : Bool} {j : Nat} : PX X bo W (.Constant (.bool i) j pos) (ret (.val (.bool i))) := px_const (t := tC (.bl i)) pe_bl fun _ _ => by simp only [Den]
theorem px_non {j : Nat} : PX X bo W (.Constant .none j pos) (ret (.val .none)) := px_const (t := tC .non) pe_non fun _ _ => by simp only [Den]
theorem px_str {i : Str} {j : Nat} : PX X bo W (.Constant (.str i) j pos) (ret (.val (.str i))) := px_const (t := tC (.str i)) pe_str fun _ _ => by simp only [Den]
/-- a module's int -/
theorem px_glob {i : Int} {t : Tok} (hg : Gl X x) (hm : X.mg x = some (.int i t)) (hd : (x == ("__debug__" : Str)) = false := by decide) : PX X bo W (.Name x pos) (ret (.val (.int i))) :=
  px_const (t := tC (.int i)) (pe_glob (v := .int i) hg hm ⟨_, rfl⟩ hd) fun _ _ => by simp only [Den]
theorem paf_nil : PAF X bo W [] (ret []) := ⟨_, pa_nil, fun c fp F env σ H Q hc R g => g fp F H R (Ex.refl F) [] rfl (by simp only [Dens])⟩
theorem paf_cons {f : PM Opd} {fs : PM (List D)} (ha : PX X bo W e f) (hr : PAF X bo W es fs) (hs : starEach (e :: es) X.env = (false, eval e X.env) :: starEach es X.env := by rfl) :
    PAF X bo W (e :: es) (bnd (kept f) fun d => bnd fs fun ds => ret (d :: ds)) := by
  obtain ⟨t1, h1, h2⟩ := ha
  obtain ⟨t2, h3, h4⟩ := hr
  refine ⟨_, pa_cons h1 h3 hs, fun c fp F env σ H Q hc R g => ?_⟩
  refine h2 c fp F env σ H _ hc R ?_
  have g' : Goes X.K c W σ F (bnd f (fun o => bnd (frz o) fun d => bnd fs fun ds => ret (d :: ds)) env) (fun fp' F' env' H' ds => ∀ vs, vs.length = (e :: es).length → Dens X.K F' ds vs → Q vs H') := by
    have : bnd (kept f) (fun d => bnd fs fun ds => ret (d :: ds)) env = bnd f (fun o => bnd (frz o) fun d => bnd fs fun ds => ret (d :: ds)) env := by
      unfold kept bnd
      cases f env <;> rfl
    rw [← this]
    exact g
  refine (Goes.bnd g').mono (Ex.refl F) fun fp1 F1 env1 H1 o e1 R1 g1 v hv => ?_
  obtain ⟨d, fp2, F2, env2, R2, e2, hd, g2⟩ := frz_ok R1 hv g1
  refine h4 c fp2 F2 env2 σ H1 _ hc R2 ?_
  refine (Goes.bnd g2).mono e2 fun fp3 F3 env3 H3 ds e3 R3 g3 vs hl hds => ?_
  refine g3 fp3 F3 H3 R3 (Ex.refl F3) (v :: vs) (by simp [hl]) ?_
  simp only [Dens]
  exact ⟨v, vs, rfl, den_mono e3 d v hd, hds⟩
theorem pax_nil : PAX X bo W [] (ret []) := ⟨_, pa_nil, fun c fp F env σ H Q hc R g => g fp F H R (Ex.refl F) [] rfl⟩
end
end Pu

namespace Pu
open PySem PySem.Spec PyProof.Rows L2
/-! ### operations on values -/
/-- a two-place operation: on data it gives g -/
def Op2 (X : Cx) (f : Value → Value → Sem Value) (g : D → D → Option Opd) : Prop :=
  ∃ r, OpR X f r ∧ ∀ F H x y dx dy o (Q : VK), Ex F H → BDen X.K F H dx x → BDen X.K F H dy y → g dx dy = some o → (∀ v H', Got X.K F H o v H' → Q v H') → r x y H Q
def Un1 (X : Cx) (f : Value → Sem Value) (g : D → Option Opd) : Prop :=
  ∃ r, UnR X f r ∧ ∀ F H x dx o (Q : VK), Ex F H → BDen X.K F H dx x → g dx = some o → (∀ v H', Got X.K F H o v H' → Q v H') → r x H Q
def BDens (K : PySem.W.Frag) (F H : Hp) : List D → List V → Prop
  | [], vs => vs = []
  | d :: ds, vs => ∃ v r, vs = v :: r ∧ BDen K F H d v ∧ BDens K F H ds r
/-- a built-in called with values -/
def Bi (X : Cx) (f : Value) (g : List D → Option Opd) : Prop :=
  ∃ r, CallR X f r ∧ ∀ F H xs ds o (Q : VK), Ex F H → SyF F → BDens X.K F H ds xs → g ds = some o → (∀ v H', Got X.K F H o v H' → Q v H') → r xs H Q
/-- a subscript by values -/
def Ix2 (X : Cx) (g : D → D → Option Opd) : Prop :=
  ∃ r, IxR X r ∧ ∀ F H x y dx dy o (Q : VK), Ex F H → BDen X.K F H dx x → BDen X.K F H dy y → g dx dy = some o → (∀ v H', Got X.K F H o v H' → Q v H') → r x y H Q
def Sl2 (X : Cx) (g : D → Option Int → Option Int → Option Opd) : Prop :=
  ∃ r, SlR X r ∧ ∀ F H x dx lo hi o (Q : VK), Ex F H → BDen X.K F H dx x → g dx lo hi = some o → (∀ v H', Got X.K F H o v H' → Q v H') → r x lo hi H Q
theorem Op2.or {X : Cx} {f : Value → Value → Sem Value} {g g' : D → D → Option Opd} (h : Op2 X f g) (h' : Op2 X f g') (k : D → D → Option Opd) (hk : ∀ x y o, k x y = some o → g x y = some o ∨ g' x y = some o) : Op2 X f k := by
  obtain ⟨r, h1, h2⟩ := h
  obtain ⟨r', h3, h4⟩ := h'
  refine ⟨_, OpR.or h1 h3, fun F H x y dx dy o Q e bx by' hg q => ?_⟩
  rcases hk _ _ _ hg with z | z
  · exact .inl (h2 F H x y dx dy o Q e bx by' z q)
  · exact .inr (h4 F H x y dx dy o Q e bx by' z q)
section
variable {X : Cx} {bo : Bool} {W : WX} {e a b : Expr} {es : List Expr} {pos p : Pos} {x : Str}
theorem goes_lift_bnd {K : PySem.W.Frag} {c : Ct} {σ : L2.St} {F : Hp} {α β : Type} {o : Option α} {k : α → PM β} {env : PEnv} {G : (Nat → List Addr) → Hp → PEnv → Hp → β → Prop} (h : Goes K c W σ F (bnd (lift o) k env) G) : ∃ a, o = some a ∧ Goes K c W σ F (k a env) G := by
  cases o with
  | none => exact h.elim
  | some a => exact ⟨a, rfl, h⟩
/-- a value has come: the wished end at it -/
theorem fin_got {K : PySem.W.Frag} {c : Ct} {fp : Nat → List Addr} {σ : L2.St} {F H H' : Hp} {env : PEnv} {o : Opd} {v : V} {Q : VK} {oo : Option Opd} (R : Rel K c fp F env σ H)
    (g : Goes K c W σ F (lift oo env) (fun fp' F' env' H' o => ∀ v, OpdOk K c fp' F' σ H' o v → Q v H')) (ho : oo = some o) (h : Got K F H o v H') : Q v H' := by
  obtain ⟨F1, R1, e1, k1⟩ := R.got h
  obtain ⟨o', h1, h2⟩ := g.lift
  rw [ho] at h1
  cases h1
  exact h2 fp F1 H' R1 e1 v k1
def eBin (g : D → D → Option Opd) (fa fb : PM Opd) : PM Opd := bnd (opn fa) fun x => bnd (opn fb) fun y => bnd (rsv x) fun dx => bnd (rsv y) fun dy => lift (g dx dy)
theorem rd_bin {op : R2} {g : D → D → Option Opd} {fa fb : PM Opd} (ha : PX X bo W a fa) (hb : PX X bo W b fb)
    (h2 : ∀ F H x y dx dy o (Q : VK), Ex F H → BDen X.K F H dx x → BDen X.K F H dy y → g dx dy = some o → (∀ v H', Got X.K F H o v H' → Q v H') → op x y H Q) :
    ∃ ta tb, PE X a ta ∧ PE X b tb ∧ ∀ c fp F env σ H (Q : VK), OkC c bo → Rel X.K c fp F env σ H →
      Goes X.K c W σ F (eBin g fa fb env) (fun fp' F' env' H' o => ∀ v, OpdOk X.K c fp' F' σ H' o v → Q v H') → tOp op ta tb σ H Q := by
  obtain ⟨ta, a1, a2⟩ := px_opn ha
  obtain ⟨tb, b1, b2⟩ := px_opn hb
  refine ⟨ta, tb, a1, b1, fun c fp F env σ H Q hc R gg => ?_⟩
  refine a2 c fp F env σ H _ hc R ((Goes.bnd gg).mono (Ex.refl F) fun fp1 F1 env1 H1 ox e1 R1 g1 v hn hv => ?_)
  refine b2 c fp1 F1 env1 σ H1 _ hc R1 ((Goes.bnd g1).mono (Ex.refl F1) fun fp2 F2 env2 H2 oy e2 R2 g2 u hm hu => ?_)
  obtain ⟨dx, k1, g3⟩ := rsv_ok R2 (opd_ex e2 hn hv) g2
  obtain ⟨dy, k2, g4⟩ := rsv_ok R2 hu g3
  obtain ⟨o, ho, _⟩ := g4.lift
  exact h2 F2 H2 v u dx dy o Q R2.fh k1 k2 ho fun v' H' got => fin_got R2 g4 ho got
theorem px_op {op : Operator} {g : D → D → Option Opd} {fa fb : PM Opd} (h : Op2 X (binaryOp op) g) (ha : PX X bo W a fa) (hb : PX X bo W b fb) : PX X bo W (.BinOp a op b pos) (eBin g fa fb) := by
  obtain ⟨r, h1, h2⟩ := h
  obtain ⟨ta, tb, a1, b1, k⟩ := rd_bin ha hb h2
  exact ⟨_, pe_op h1 a1 b1, k⟩
theorem px_cmp {op : CmpOp} {g : D → D → Option Opd} {fa fb : PM Opd} (h : Op2 X (compareOp op) g) (ha : PX X bo W a fa) (hb : PX X bo W b fb) (hm : behindInMarks op b = false) : PX X bo W (.Compare a [op] [b] pos) (eBin g fa fb) := by
  obtain ⟨r, h1, h2⟩ := h
  obtain ⟨ta, tb, a1, b1, k⟩ := rd_bin ha hb h2
  exact ⟨_, pe_cmpR h1 a1 b1 hm, k⟩
theorem px_ix {g : D → D → Option Opd} {fa fb : PM Opd} (h : Ix2 X g) (ha : PX X bo W a fa) (hb : PX X bo W b fb) (hs : PlainIx b) : PX X bo W (.Subscript a b pos) (eBin g fa fb) := by
  obtain ⟨r, h1, h2⟩ := h
  obtain ⟨ta, tb, a1, b1, k⟩ := rd_bin ha hb h2
  exact ⟨_, pe_ix h1 a1 b1 hs, k⟩
def toB : Opd → PM Bool
  | .val (.bool b) => ret b
  | _ => oops
def eTest (f : PM Opd) : PM Bool := bnd f toB
theorem toB_ok {K : PySem.W.Frag} {c : Ct} {fp : Nat → List Addr} {σ : L2.St} {F H : Hp} {env : PEnv} {o : Opd} {v : V} {G : (Nat → List Addr) → Hp → PEnv → Hp → Bool → Prop} (h : OpdOk K c fp F σ H o v) (g : Goes K c W σ F (toB o env) G) :
    ∃ b, v = .bl b ∧ Goes K c W σ F (ret b env) G := by
  cases o with
  | val d =>
    cases d with
    | bool b =>
      have h' : Den K F (.bool b) v := h
      simp only [Den] at h'
      exact ⟨b, h', g⟩
    | _ => exact g.elim
  | _ => exact g.elim
theorem ptx_cmp {op : CmpOp} {g : D → D → Option Opd} {fa fb : PM Opd} (h : Op2 X (compareOp op) g) (ha : PX X bo W a fa) (hb : PX X bo W b fb) (hm : behindInMarks op b = false) : PTX X bo W (.Compare a [op] [b] pos) (eTest (eBin g fa fb)) := by
  obtain ⟨r, h1, h2⟩ := h
  obtain ⟨ta, tb, a1, b1, k⟩ := rd_bin ha hb h2
  refine ⟨_, pt_cmpR h1 a1 b1 hm, fun c fp F env σ H Q hc R g => ?_⟩
  refine k c fp F env σ H _ hc R ((Goes.bnd g).mono (Ex.refl F) fun fp1 F1 env1 H1 o e1 R1 g1 v hv => ?_)
  obtain ⟨b, e, g2⟩ := toB_ok hv g1
  exact ⟨b, e, g2 fp1 F1 H1 R1 (Ex.refl F1)⟩
/-- a op1 b op2 c -/
def eChain (g g' : D → D → Option Opd) (fa fb fc : PM Opd) : PM Opd := bnd (opn fa) fun x => bnd (opn fb) fun y => bnd (rsv x) fun dx => bnd (rsv y) fun dy => bnd (lift (g dx dy)) fun o => bnd (toB o) fun k =>
  if k = true then bnd (opn fc) fun z => bnd (rsv y) fun dy => bnd (rsv z) fun dz => lift (g' dy dz) else ret (.val (.bool false))
theorem rd_chain {r r' : R2} {g g' : D → D → Option Opd} {cc : Expr} {fa fb fc : PM Opd} (ha : PX X bo W a fa) (hb : PX X bo W b fb) (hcc : PX X bo W cc fc)
    (h2 : ∀ F H x y dx dy o (Q : VK), Ex F H → BDen X.K F H dx x → BDen X.K F H dy y → g dx dy = some o → (∀ v H', Got X.K F H o v H' → Q v H') → r x y H Q)
    (h3 : ∀ F H x y dx dy o (Q : VK), Ex F H → BDen X.K F H dx x → BDen X.K F H dy y → g' dx dy = some o → (∀ v H', Got X.K F H o v H' → Q v H') → r' x y H Q) :
    ∃ ta tb tc, PE X a ta ∧ PE X b tb ∧ PE X cc tc ∧ ∀ c fp F env σ H (Q : VK), OkC c bo → Rel X.K c fp F env σ H →
      Goes X.K c W σ F (eChain g g' fa fb fc env) (fun fp' F' env' H' o => ∀ v, OpdOk X.K c fp' F' σ H' o v → Q v H') → tChain r r' ta tb tc σ H Q := by
  obtain ⟨ta, a1, a2⟩ := px_opn ha
  obtain ⟨tb, b1, b2⟩ := px_opn hb
  obtain ⟨tc, c1, c2⟩ := px_opn hcc
  refine ⟨ta, tb, tc, a1, b1, c1, fun c fp F env σ H Q hc R gg => ?_⟩
  refine a2 c fp F env σ H _ hc R ((Goes.bnd gg).mono (Ex.refl F) fun fp1 F1 env1 H1 ox e1 R1 g1 v hn hv => ?_)
  refine b2 c fp1 F1 env1 σ H1 _ hc R1 ((Goes.bnd g1).mono (Ex.refl F1) fun fp2 F2 env2 H2 oy e2 R2 g2 u hm hu => ?_)
  obtain ⟨dx, k1, g3⟩ := rsv_ok R2 (opd_ex e2 hn hv) g2
  obtain ⟨dy, k2, g4⟩ := rsv_ok R2 hu g3
  obtain ⟨o, ho, g5⟩ := goes_lift_bnd g4
  refine h2 F2 H2 v u dx dy o _ R2.fh k1 k2 ho fun v' H' got => ?_
  obtain ⟨F3, R3, e3, k3⟩ := R2.got got
  have g5' := g5.mono e3 fun _ _ _ _ _ _ _ q => q
  have g6 := Goes.bnd g5'
  obtain ⟨k, ek, g7⟩ := toB_ok k3 g6
  refine ⟨k, ek, ?_⟩
  cases k with
  | false =>
    rw [if_neg Bool.false_ne_true]
    have := g7 fp2 F3 H' R3 (Ex.refl F3)
    simp only [Bool.false_eq_true, if_false] at this
    exact this fp2 F3 H' R3 (Ex.refl F3) _ (by show Den _ _ _ _; simp only [Den])
  | true =>
    rw [if_pos rfl]
    have g9 := g7 fp2 F3 H' R3 (Ex.refl F3)
    simp only [if_true] at g9
    refine c2 c fp2 F3 env2 σ H' _ hc R3 ((Goes.bnd g9).mono (Ex.refl F3) fun fp4 F4 env4 H4 oz e4 R4 g10 w hz hw => ?_)
    obtain ⟨dy', k4, g11⟩ := rsv_ok R4 (opd_ex (e3.trans e4) hm hu) g10
    obtain ⟨dz, k5, g12⟩ := rsv_ok R4 hw g11
    obtain ⟨o', ho', _⟩ := g12.lift
    exact h3 F4 H4 u w dy' dz o' Q R4.fh k4 k5 ho' fun v'' H'' got' => fin_got R4 g12 ho' got'
theorem px_chain {op op' : CmpOp} {g g' : D → D → Option Opd} {cc : Expr} {fa fb fc : PM Opd} (h : Op2 X (compareOp op) g) (h' : Op2 X (compareOp op') g') (ha : PX X bo W a fa) (hb : PX X bo W b fb) (hcc : PX X bo W cc fc)
    (hm : lastMarks [op, op'] [b, cc] = false := by with_unfolding_all rfl) : PX X bo W (.Compare a [op, op'] [b, cc] pos) (eChain g g' fa fb fc) := by
  obtain ⟨r, h1, h2⟩ := h
  obtain ⟨r', h3, h4⟩ := h'
  obtain ⟨ta, tb, tc, a1, b1, c1, k⟩ := rd_chain ha hb hcc h2 h4
  exact ⟨_, pe_chain h1 h3 a1 b1 c1 hm, k⟩
theorem ptx_chain {op op' : CmpOp} {g g' : D → D → Option Opd} {cc : Expr} {fa fb fc : PM Opd} (h : Op2 X (compareOp op) g) (h' : Op2 X (compareOp op') g') (ha : PX X bo W a fa) (hb : PX X bo W b fb) (hcc : PX X bo W cc fc)
    (hm : lastMarks [op, op'] [b, cc] = false := by with_unfolding_all rfl) : PTX X bo W (.Compare a [op, op'] [b, cc] pos) (eTest (eChain g g' fa fb fc)) := by
  obtain ⟨r, h1, h2⟩ := h
  obtain ⟨r', h3, h4⟩ := h'
  obtain ⟨ta, tb, tc, a1, b1, c1, k⟩ := rd_chain ha hb hcc h2 h4
  refine ⟨_, pt_chain h1 h3 a1 b1 c1 hm, fun c fp F env σ H Q hc R g => ?_⟩
  refine k c fp F env σ H _ hc R ((Goes.bnd g).mono (Ex.refl F) fun fp1 F1 env1 H1 o e1 R1 g1 v hv => ?_)
  obtain ⟨b, e, g2⟩ := toB_ok hv g1
  exact ⟨b, e, g2 fp1 F1 H1 R1 (Ex.refl F1)⟩
/-! and, or, not, if -/
theorem ptx_pw {f : PM Bool} (h : PWX X bo W e f) : PTX X bo W e f := by
  obtain ⟨t, h1, h2⟩ := h
  exact ⟨t, h1.pt, h2⟩
theorem pwx_and1 {f : PM Bool} (h : PTX X bo W a f) : PWX X bo W (.BoolOp .And [a] pos) f := by
  obtain ⟨t, h1, h2⟩ := h
  exact ⟨t, pw_and1 h1, h2⟩
theorem pwx_or1 {f : PM Bool} (h : PTX X bo W a f) : PWX X bo W (.BoolOp .Or [a] pos) f := by
  obtain ⟨t, h1, h2⟩ := h
  exact ⟨t, pw_or1 h1, h2⟩
def bAnd (f g : PM Bool) : PM Bool := bnd f fun k => if k = true then g else ret false
def bOr (f g : PM Bool) : PM Bool := bnd f fun k => if k = true then ret true else g
def bNot (f : PM Bool) : PM Bool := bnd f fun k => ret (!k)
theorem pwx_and {f g : PM Bool} (ha : PTX X bo W a f) (hb : PWX X bo W (.BoolOp .And (b :: es) pos) g) : PWX X bo W (.BoolOp .And (a :: b :: es) pos) (bAnd f g) := by
  obtain ⟨t, h1, h2⟩ := ha
  obtain ⟨u, h3, h4⟩ := hb
  refine ⟨_, pw_and h1 h3, fun c fp F env σ H Q hc R gg => ?_⟩
  refine h2 c fp F env σ H _ hc R ((Goes.bnd gg).mono (Ex.refl F) fun fp1 F1 env1 H1 k e1 R1 g1 => ?_)
  cases k with
  | false =>
    rw [if_neg Bool.false_ne_true] at g1 ⊢
    exact g1 fp1 F1 H1 R1 (Ex.refl F1)
  | true =>
    rw [if_pos rfl] at g1 ⊢
    exact h4 c fp1 F1 env1 σ H1 Q hc R1 g1
theorem pwx_or {f g : PM Bool} (ha : PTX X bo W a f) (hb : PWX X bo W (.BoolOp .Or (b :: es) pos) g) : PWX X bo W (.BoolOp .Or (a :: b :: es) pos) (bOr f g) := by
  obtain ⟨t, h1, h2⟩ := ha
  obtain ⟨u, h3, h4⟩ := hb
  refine ⟨_, pw_or h1 h3, fun c fp F env σ H Q hc R gg => ?_⟩
  refine h2 c fp F env σ H _ hc R ((Goes.bnd gg).mono (Ex.refl F) fun fp1 F1 env1 H1 k e1 R1 g1 => ?_)
  cases k with
  | true =>
    rw [if_pos rfl] at g1 ⊢
    exact g1 fp1 F1 H1 R1 (Ex.refl F1)
  | false =>
    rw [if_neg Bool.false_ne_true] at g1 ⊢
    exact h4 c fp1 F1 env1 σ H1 Q hc R1 g1
theorem ptx_not {f : PM Bool} (ha : PTX X bo W a f) : PTX X bo W (.UnaryOp .Not a pos) (bNot f) := by
  obtain ⟨t, h1, h2⟩ := ha
  refine ⟨_, pt_not h1, fun c fp F env σ H Q hc R gg => ?_⟩
  exact h2 c fp F env σ H _ hc R ((Goes.bnd gg).mono (Ex.refl F) fun fp1 F1 env1 H1 k e1 R1 g1 => g1 fp1 F1 H1 R1 (Ex.refl F1))
/-- truth of data -/
def truth : D → Option Bool
  | .none => some false
  | .bool b => some b
  | .int i => some (i != 0)
  | .str y => if y.length ≤ sizeLine then some ((y.length : Int) != 0) else none
  | .list ds => some (!ds.isEmpty)
  | .tuple ds => some (!ds.isEmpty)
  | .dict es => some (!es.isEmpty)
def eTruth (f : PM Opd) : PM Bool := bnd (opn f) fun o => bnd (rsv o) fun d => lift (truth d)
theorem dens_empty {K : PySem.W.Frag} {F : Hp} {ds : List D} {xs : List V} (h : Dens K F ds xs) : (!xs.isEmpty) = !ds.isEmpty := by
  cases ds with
  | nil => simp only [Dens] at h; subst h; rfl
  | cons d ds => simp only [Dens] at h; obtain ⟨v, r, rfl, _⟩ := h; rfl
theorem denkv_empty {K : PySem.W.Frag} {F : Hp} {ds : List (D × D)} {xs : List (Key × V)} (h : DenKV K F ds xs) : (!xs.isEmpty) = !ds.isEmpty := by
  cases ds with
  | nil => simp only [DenKV] at h; subst h; rfl
  | cons d ds => obtain ⟨d1, d2⟩ := d; simp only [DenKV] at h; obtain ⟨k, v, r, rfl, _⟩ := h; rfl
theorem truth_ok {F H : Hp} {d : D} {v : V} {k : Bool} (e : Ex F H) (h : BDen X.K F H d v) (hk : truth d = some k) : TruV X.K v H k := by
  cases d with
  | none => simp only [BDen, Den] at h; subst h; cases hk; rfl
  | bool b => simp only [BDen, Den] at h; subst h; cases hk; rfl
  | int i => simp only [BDen, Den] at h; subst h; cases hk; rfl
  | str y =>
    simp only [BDen, Den] at h
    subst h
    have hk' : (if y.length ≤ sizeLine then some ((y.length : Int) != 0) else none) = some k := hk
    by_cases hl : y.length ≤ sizeLine
    · rw [if_pos hl] at hk'; cases hk'; exact ⟨hl, rfl⟩
    · rw [if_neg hl] at hk'; cases hk'
  | list ds =>
    obtain ⟨a, xs, rfl, h1, h2⟩ := h
    cases hk
    exact .inl ⟨xs, .inl (.inl h1), (dens_empty h2).symm⟩
  | tuple ds =>
    simp only [BDen, Den] at h
    obtain ⟨a, xs, rfl, h1, h2⟩ := h
    cases hk
    exact .inr (.inl ⟨xs, ex_t e h1, (dens_empty h2).symm⟩)
  | dict es =>
    obtain ⟨a, xs, rfl, h1, h2⟩ := h
    cases hk
    exact .inr (.inr ⟨xs, h1, (denkv_empty h2).symm⟩)
theorem ptx_truth {f : PM Opd} (ha : PX X bo W a f) (he : ∀ whole, isTrue a X.env whole = (do let v ← whole; standAt a.pos; holding [v] (truthy v)) := by intro _; rfl) : PTX X bo W a (eTruth f) := by
  obtain ⟨t, h1, h2⟩ := px_opn ha
  refine ⟨_, pt_truth h1 he, fun c fp F env σ H Q hc R gg => ?_⟩
  refine h2 c fp F env σ H _ hc R ((Goes.bnd gg).mono (Ex.refl F) fun fp1 F1 env1 H1 o e1 R1 g1 v hn hv => ?_)
  obtain ⟨d, k1, g2⟩ := rsv_ok R1 hv g1
  obtain ⟨k, hk, g3⟩ := g2.lift
  exact ⟨k, truth_ok R1.fh k1 hk, g3 fp1 F1 H1 R1 (Ex.refl F1)⟩
/-- and, or, not as values: of bools -/
def eBool (f : PM Bool) : PM Opd := bnd f fun k => ret (.val (.bool k))
def vAnd (f g : PM Opd) : PM Opd := bnd (eTest f) fun k => if k = true then g else ret (.val (.bool false))
def vOr (f g : PM Opd) : PM Opd := bnd (eTest f) fun k => if k = true then ret (.val (.bool true)) else g
def vNot (f : PM Opd) : PM Opd := bnd (eTest f) fun k => ret (.val (.bool (!k)))
theorem den_bl {K : PySem.W.Frag} {F : Hp} {k : Bool} : Den K F (.bool k) (.bl k) := by simp only [Den]
theorem px_test {f : PM Opd} (h : PX X bo W e f) : ∃ t, PE X e t ∧ ∀ c fp F env σ H (Q : VK), OkC c bo → Rel X.K c fp F env σ H →
    Goes X.K c W σ F (eTest f env) (fun fp' F' env' H' k => Q (.bl k) H') → t σ H Q := by
  obtain ⟨t, h1, h2⟩ := h
  refine ⟨t, h1, fun c fp F env σ H Q hc R g => h2 c fp F env σ H Q hc R ((Goes.bnd g).mono (Ex.refl F) fun fp1 F1 env1 H1 o e1 R1 g1 v hv => ?_)⟩
  obtain ⟨b, rfl, g2⟩ := toB_ok hv g1
  exact g2 fp1 F1 H1 R1 (Ex.refl F1)
theorem px_one {op : BoolOp} {f : PM Opd} (h : PX X bo W a f) : PX X bo W (.BoolOp op [a] pos) f := by
  obtain ⟨t, h1, h2⟩ := h
  exact ⟨t, pe_one h1, h2⟩
theorem px_and {f g : PM Opd} (ha : PX X bo W a f) (hb : PX X bo W (.BoolOp .And (b :: es) pos) g) : PX X bo W (.BoolOp .And (a :: b :: es) pos) (vAnd f g) := by
  obtain ⟨t, h1, h2⟩ := px_test ha
  obtain ⟨u, h3, h4⟩ := hb
  refine ⟨_, pe_and h1 h3, fun c fp F env σ H Q hc R gg => ?_⟩
  refine h2 c fp F env σ H _ hc R ((Goes.bnd gg).mono (Ex.refl F) fun fp1 F1 env1 H1 k e1 R1 g1 => ⟨k, rfl, ?_⟩)
  cases k with
  | false =>
    rw [if_neg Bool.false_ne_true] at g1 ⊢
    exact g1 fp1 F1 H1 R1 (Ex.refl F1) _ (den_bl (K := X.K) (F := F1))
  | true =>
    rw [if_pos rfl] at g1 ⊢
    exact h4 c fp1 F1 env1 σ H1 Q hc R1 g1
theorem px_or {f g : PM Opd} (ha : PX X bo W a f) (hb : PX X bo W (.BoolOp .Or (b :: es) pos) g) : PX X bo W (.BoolOp .Or (a :: b :: es) pos) (vOr f g) := by
  obtain ⟨t, h1, h2⟩ := px_test ha
  obtain ⟨u, h3, h4⟩ := hb
  refine ⟨_, pe_or h1 h3, fun c fp F env σ H Q hc R gg => ?_⟩
  refine h2 c fp F env σ H _ hc R ((Goes.bnd gg).mono (Ex.refl F) fun fp1 F1 env1 H1 k e1 R1 g1 => ⟨k, rfl, ?_⟩)
  cases k with
  | true =>
    rw [if_pos rfl] at g1 ⊢
    exact g1 fp1 F1 H1 R1 (Ex.refl F1) _ (den_bl (K := X.K) (F := F1))
  | false =>
    rw [if_neg Bool.false_ne_true] at g1 ⊢
    exact h4 c fp1 F1 env1 σ H1 Q hc R1 g1
theorem px_not {f : PM Opd} (ha : PX X bo W a f) : PX X bo W (.UnaryOp .Not a pos) (vNot f) := by
  obtain ⟨t, h1, h2⟩ := px_test ha
  refine ⟨_, pe_not h1, fun c fp F env σ H Q hc R gg => ?_⟩
  exact h2 c fp F env σ H _ hc R ((Goes.bnd gg).mono (Ex.refl F) fun fp1 F1 env1 H1 k e1 R1 g1 => ⟨k, rfl, g1 fp1 F1 H1 R1 (Ex.refl F1) _ (den_bl (K := X.K) (F := F1))⟩)
def eIf (f : PM Bool) (g h : PM Opd) : PM Opd := bnd f fun k => if k = true then g else h
theorem px_if {cc : Expr} {f : PM Bool} {g h : PM Opd} (hc : PTX X bo W cc f) (ha : PX X bo W a g) (hb : PX X bo W b h) : PX X bo W (.IfExp cc a b pos) (eIf f g h) := by
  obtain ⟨t, h1, h2⟩ := hc
  obtain ⟨u, h3, h4⟩ := ha
  obtain ⟨v, h5, h6⟩ := hb
  refine ⟨_, pe_ifExp h1 h3 h5, fun c fp F env σ H Q hc R gg => ?_⟩
  refine h2 c fp F env σ H _ hc R ((Goes.bnd gg).mono (Ex.refl F) fun fp1 F1 env1 H1 k e1 R1 g1 => ?_)
  cases k with
  | true =>
    rw [if_pos rfl] at g1 ⊢
    exact h4 c fp1 F1 env1 σ H1 Q hc R1 g1
  | false =>
    rw [if_neg Bool.false_ne_true] at g1 ⊢
    exact h6 c fp1 F1 env1 σ H1 Q hc R1 g1
/-! displays -/
def eTup (fs : PM (List D)) : PM Opd := bnd fs fun ds => ret (.val (.tuple ds))
def eLst (fs : PM (List D)) : PM Opd := bnd fs fun ds => ret (.tmp ds)
theorem len_line {n : Nat} (h : n ≤ 1000) : n ≤ sizeLine := Nat.le_of_lt (small1000 h)
theorem px_tup {k : Nat} {fs : PM (List D)} (h : PAF X bo W es fs) (hl : es.length ≤ 1000 := by decide) : PX X bo W (.Tuple es k pos) (eTup fs) := by
  obtain ⟨t, h1, h2⟩ := h
  refine ⟨_, pe_tup h1, fun c fp F env σ H Q hc R gg => ?_⟩
  refine h2 c fp F env σ H _ hc R ((Goes.bnd gg).mono (Ex.refl F) fun fp1 F1 env1 H1 ds e1 R1 g1 vs hv hd => ⟨len_line (by omega), fun p hp => ?_⟩)
  obtain ⟨F2, R2, e2, k2⟩ := R1.got (Got.tup hp hd)
  exact g1 fp1 F2 _ R2 e2 _ k2
theorem px_lst {fs : PM (List D)} (h : PAF X bo W es fs) (hl : es.length ≤ 1000 := by decide) : PX X bo W (.List es pos) (eLst fs) := by
  obtain ⟨t, h1, h2⟩ := h
  refine ⟨_, pe_lst h1, fun c fp F env σ H Q hc R gg => ?_⟩
  refine h2 c fp F env σ H _ hc R ((Goes.bnd gg).mono (Ex.refl F) fun fp1 F1 env1 H1 ds e1 R1 g1 vs hv hd => ⟨len_line (by omega), fun p hp => ?_⟩)
  obtain ⟨F2, R2, e2, k2⟩ := R1.got (Got.lst hp hd)
  exact g1 fp1 F2 _ R2 e2 _ k2
/-! calls of built-ins -/
theorem pax_cons {f : PM Opd} {fs : PM (List Opd)} (ha : PX X bo W e f) (hr : PAX X bo W es fs) (hs : starEach (e :: es) X.env = (false, eval e X.env) :: starEach es X.env := by rfl) :
    PAX X bo W (e :: es) (bnd (opn f) fun o => bnd fs fun os => ret (o :: os)) := by
  obtain ⟨t1, h1, h2⟩ := px_opn ha
  obtain ⟨t2, h3, h4⟩ := hr
  refine ⟨_, pa_cons h1 h3 hs, fun c fp F env σ H Q hc R g => ?_⟩
  refine h2 c fp F env σ H _ hc R ((Goes.bnd g).mono (Ex.refl F) fun fp1 F1 env1 H1 o e1 R1 g1 v hn hv => ?_)
  refine h4 c fp1 F1 env1 σ H1 _ hc R1 ((Goes.bnd g1).mono (Ex.refl F1) fun fp2 F2 env2 H2 os e2 R2 g2 vs hvs => ?_)
  exact g2 fp2 F2 H2 R2 (Ex.refl F2) (v :: vs) ⟨v, vs, rfl, hn, opd_ex e2 hn hv, hvs⟩
def rsvs : List Opd → PM (List D)
  | [] => ret []
  | o :: os => bnd (rsv o) fun d => bnd (rsvs os) fun ds => ret (d :: ds)
theorem bnd_assoc {α β γ : Type} (m : PM α) (f : α → PM β) (g : β → PM γ) : bnd (bnd m f) g = bnd m fun a => bnd (f a) g := by
  funext env
  unfold bnd
  cases m env <;> rfl
theorem ret_bnd {α β : Type} (a : α) (f : α → PM β) : bnd (ret a) f = f a := rfl
theorem rsvs_ok {K : PySem.W.Frag} {c : Ct} {fp : Nat → List Addr} {F : Hp} {env : PEnv} {σ : L2.St} {H : Hp} (R : Rel K c fp F env σ H) : ∀ {os : List Opd} {vs : List V}, OpdsOk K c fp F σ H os vs → ∀ {β : Type} {k : List D → PM β} {G : (Nat → List Addr) → Hp → PEnv → Hp → β → Prop},
    Goes K c W σ F (bnd (rsvs os) k env) G → ∃ ds, BDens K F H ds vs ∧ Goes K c W σ F (k ds env) G
  | [], vs, h, _, k, G, g => ⟨[], h, g⟩
  | o :: os, vs, h, _, k, G, g => by
    obtain ⟨v, r, rfl, _, h1, h2⟩ := h
    unfold rsvs at g
    rw [bnd_assoc] at g
    obtain ⟨d, k1, g1⟩ := rsv_ok R h1 g
    rw [bnd_assoc] at g1
    obtain ⟨ds, k2, g2⟩ := rsvs_ok R h2 g1
    exact ⟨d :: ds, ⟨v, r, rfl, k1, k2⟩, g2⟩
def eBi (g : List D → Option Opd) (fs : PM (List Opd)) : PM Opd := bnd fs fun os => bnd (rsvs os) fun ds => lift (g ds)
theorem px_bi {id : String} {g : List D → Option Opd} {fs : PM (List Opd)} (h : Bi X (.builtin id) g) (ha : PAX X bo W (e :: es) fs) (hg : Gl X x) (hm : X.mg x = none) (hv : bootBuiltins x = some (.builtin id)) (hn : x ≠ "__name__" := by decide) (hdb : (x == ("__debug__" : Str)) = false := by decide)
    (he : starEach (e :: es) X.env = (false, eval e X.env) :: starEach es X.env := by rfl) (hpl : (backTo pos (starEach es X.env)).any (·.1) = false := by rfl) : PX X bo W (.Call (.Name x p) (e :: es) [] pos) (eBi g fs) := by
  obtain ⟨r, h1, h2⟩ := h
  obtain ⟨t, h3, h4⟩ := ha
  refine ⟨_, pe_callB h1 hg hm hv h3 hn hdb he hpl, fun c fp F env σ H Q hc R gg => ?_⟩
  refine h4 c fp F env σ H _ hc R ((Goes.bnd gg).mono (Ex.refl F) fun fp1 F1 env1 H1 os e1 R1 g1 vs hvs => ?_)
  obtain ⟨ds, k1, g2⟩ := rsvs_ok R1 hvs g1
  obtain ⟨o, ho, _⟩ := g2.lift
  exact h2 F1 H1 vs ds o Q R1.fh R1.sy k1 ho fun v' H' got => fin_got R1 g2 ho got
theorem px_ty {T : String} {g : List D → Option Opd} {fs : PM (List Opd)} (h : Bi X (.type T) g) (ha : PAX X bo W (e :: es) fs) (hg : Gl X x) (hm : X.mg x = none) (hv : bootBuiltins x = some (.type T)) (hn : x ≠ "__name__" := by decide) (hdb : (x == ("__debug__" : Str)) = false := by decide)
    (he : starEach (e :: es) X.env = (false, eval e X.env) :: starEach es X.env := by rfl) (hpl : (backTo pos (starEach es X.env)).any (·.1) = false := by rfl) : PX X bo W (.Call (.Name x p) (e :: es) [] pos) (eBi g fs) := by
  obtain ⟨r, h1, h2⟩ := h
  obtain ⟨t, h3, h4⟩ := ha
  refine ⟨_, pe_callTy h1 hg hm hv h3 hn hdb he hpl, fun c fp F env σ H Q hc R gg => ?_⟩
  refine h4 c fp F env σ H _ hc R ((Goes.bnd gg).mono (Ex.refl F) fun fp1 F1 env1 H1 os e1 R1 g1 vs hvs => ?_)
  obtain ⟨ds, k1, g2⟩ := rsvs_ok R1 hvs g1
  obtain ⟨o, ho, _⟩ := g2.lift
  exact h2 F1 H1 vs ds o Q R1.fh R1.sy k1 ho fun v' H' got => fin_got R1 g2 ho got
/-! slices -/
def toPart : Opd → PM (Option Int)
  | .val (.int i) => ret (some i)
  | _ => oops
def eSl (g : D → Option Int → Option Int → Option Opd) (f : PM Opd) (lo hi : PM (Option Int)) : PM Opd := bnd (opn f) fun o => bnd lo fun l => bnd hi fun h => bnd (rsv o) fun d => lift (g d l h)
def POX (X : Cx) (bo : Bool) (W : WX) (e : Option Expr) (f : PM (Option Int)) : Prop :=
  ∃ t, PO X e t ∧ ∀ c fp F env σ H (Q : Option Int → Hp → Prop), OkC c bo → Rel X.K c fp F env σ H →
    Goes X.K c W σ F (f env) (fun fp' F' env' H' o => Q o H') → t σ H Q
theorem pox_none : POX X bo W none (ret none) := ⟨_, po_none, fun c fp F env σ H Q hc R g => g fp F H R (Ex.refl F)⟩
theorem pox_some {f : PM Opd} (h : PX X bo W e f) : POX X bo W (some e) (bnd f toPart) := by
  obtain ⟨t, h1, h2⟩ := h
  refine ⟨_, po_some h1, fun c fp F env σ H Q hc R g => ?_⟩
  refine h2 c fp F env σ H _ hc R ((Goes.bnd g).mono (Ex.refl F) fun fp1 F1 env1 H1 o e1 R1 g1 v hv => ?_)
  cases o with
  | val d =>
    cases d with
    | int i =>
      have hv' : Den X.K F1 (.int i) v := hv
      simp only [Den] at hv'
      exact ⟨i, hv', g1 fp1 F1 H1 R1 (Ex.refl F1)⟩
    | _ => exact g1.elim
  | _ => exact g1.elim
theorem px_slice {lo hi : Option Expr} {p2 : Pos} {g : D → Option Int → Option Int → Option Opd} {f : PM Opd} {fl fh : PM (Option Int)} (h : Sl2 X g) (ha : PX X bo W a f) (hl : POX X bo W lo fl) (hh : POX X bo W hi fh) :
    PX X bo W (.Subscript a (.Slice lo hi none p2) pos) (eSl g f fl fh) := by
  obtain ⟨r, r1, r2⟩ := h
  obtain ⟨t, h1, h2⟩ := px_opn ha
  obtain ⟨tl, h3, h4⟩ := hl
  obtain ⟨th, h5, h6⟩ := hh
  refine ⟨_, pe_slice r1 h1 h3 h5, fun c fp F env σ H Q hc R gg => ?_⟩
  refine h2 c fp F env σ H _ hc R ((Goes.bnd gg).mono (Ex.refl F) fun fp1 F1 env1 H1 o e1 R1 g1 v hn hv => ?_)
  refine h4 c fp1 F1 env1 σ H1 _ hc R1 ((Goes.bnd g1).mono (Ex.refl F1) fun fp2 F2 env2 H2 l e2 R2 g2 => ?_)
  refine h6 c fp2 F2 env2 σ H2 _ hc R2 ((Goes.bnd g2).mono (Ex.refl F2) fun fp3 F3 env3 H3 u e3 R3 g3 => ?_)
  obtain ⟨d, k1, g4⟩ := rsv_ok R3 (opd_ex (e2.trans e3) hn hv) g3
  obtain ⟨o', ho, _⟩ := g4.lift
  exact r2 F3 H3 v d l u o' Q R3.fh k1 ho fun v' H' got => fin_got R3 g4 ho got
end
end Pu

namespace Pu
open PySem PySem.Spec PyProof.Rows L2
inductive Out where
  | next
  | brk
  | cont
  | ret (o : Opd)
def OutOk (K : PySem.W.Frag) (c : Ct) (fp : Nat → List Addr) (F : Hp) (σ : L2.St) (H : Hp) (D : Ends) : Out → Prop
  | .next => D.nx σ H
  | .brk => D.bk σ H
  | .cont => D.ct σ H
  | .ret o => ∀ v, OpdOk K c fp F σ H o v → D.rt v H
def GoesS (K : PySem.W.Frag) (c : Ct) (W : WX) (F : Hp) (r : Res Out) (D : Ends) : Prop :=
  match r with
  | .ok out env' => ∀ fp' F' σ' H', Rel K c fp' F' env' σ' H' → Ex F F' → OutOk K c fp' F' σ' H' D out
  | .exc x env' => ∀ fp' F' σ' H' d, Rel K c fp' F' env' σ' H' → Ex F F' → ExnOk K F' H' x d → W x.cls d σ' H'
  | .bad => False
theorem GoesS.mono {K : PySem.W.Frag} {c : Ct} {W : WX} {F F' : Hp} {r : Res Out} {D : Ends} (h : GoesS K c W F r D) (e : Ex F F') : GoesS K c W F' r D := by
  cases r with
  | ok a env' => exact fun fp1 F1 σ1 H1 R e1 => h fp1 F1 σ1 H1 R (e.trans e1)
  | exc x env' => exact fun fp1 F1 σ1 H1 d R e1 => h fp1 F1 σ1 H1 d R (e.trans e1)
  | bad => exact h
/-- an expression's part, then a statement's -/
theorem GoesS.bnd {K : PySem.W.Frag} {c : Ct} {W : WX} {F : Hp} {σ : L2.St} {α : Type} {m : PM α} {k : α → PM Out} {env : PEnv} {D : Ends} (h : GoesS K c W F (bnd m k env) D) :
    Goes K c W σ F (m env) fun fp' F' env' H' a => GoesS K c W F' (k a env') D := by
  unfold Pu.bnd at h
  cases e : m env with
  | ok a env' =>
    rw [e] at h
    exact fun fp1 F1 H1 R e1 => h.mono e1
  | exc x env' =>
    rw [e] at h
    exact fun fp1 F1 H1 d R e1 z => h fp1 F1 σ H1 d R e1 z
  | bad => rw [e] at h; exact h
def PSX (X : Cx) (bo : Bool) (W : WX) (st : Stmt) (g : PM Out) : Prop :=
  ∃ t, PS X st t ∧ ∀ c fp F env σ H (D : Ends), OkC c bo → Rel X.K c fp F env σ H → GoesS X.K c W F (g env) D → t D σ H
def PSsX (X : Cx) (bo : Bool) (W : WX) (st : List Stmt) (g : PM Out) : Prop :=
  ∃ t, PSs X st t ∧ ∀ c fp F env σ H (D : Ends), OkC c bo → Rel X.K c fp F env σ H → GoesS X.K c W F (g env) D → t D σ H
def sSeq (g1 g2 : PM Out) : PM Out := bnd g1 fun o => match o with
  | .next => g2
  | o => ret o
section
variable {X : Cx} {bo : Bool} {W : WX} {st : Stmt} {rest : List Stmt} {e a b : Expr} {pos p : Pos} {x : Str}
theorem pssx_nil : PSsX X bo W [] (ret .next) := ⟨_, pss_nil, fun c fp F env σ H D hc R g => g fp F σ H R (Ex.refl F)⟩
theorem pssx_cons {g1 g2 : PM Out} (h1 : PSX X bo W st g1) (h2 : PSsX X bo W rest g2) : PSsX X bo W (st :: rest) (sSeq g1 g2) := by
  obtain ⟨t1, a1, a2⟩ := h1
  obtain ⟨t2, b1, b2⟩ := h2
  refine ⟨_, pss_cons a1 b1, fun c fp F env σ H D hc R g => ?_⟩
  refine a2 c fp F env σ H _ hc R ?_
  unfold sSeq Pu.bnd at g
  cases e : g1 env with
  | ok o env' =>
    rw [e] at g
    intro fp1 F1 σ1 H1 R1 e1
    cases o with
    | next => exact b2 c fp1 F1 env' σ1 H1 D hc R1 (GoesS.mono g e1)
    | brk => exact g fp1 F1 σ1 H1 R1 e1
    | cont => exact g fp1 F1 σ1 H1 R1 e1
    | ret o => exact g fp1 F1 σ1 H1 R1 e1
  | exc x env' => rw [e] at g; exact g
  | bad => rw [e] at g; exact g
theorem pssx_one {g1 : PM Out} (h1 : PSX X bo W st g1) : PSsX X bo W [st] g1 := by
  obtain ⟨t1, a1, a2⟩ := h1
  exact ⟨_, pss_one a1, a2⟩
def sPass : PM Out := ret .next
theorem psx_pass : PSX X bo W (.Pass pos) sPass := ⟨_, ps_pass, fun c fp F env σ H D hc R g => g fp F σ H R (Ex.refl F)⟩
theorem psx_break : PSX X bo W (.Break pos) (ret .brk) := ⟨_, ps_break, fun c fp F env σ H D hc R g => g fp F σ H R (Ex.refl F)⟩
theorem psx_continue : PSX X bo W (.Continue pos) (ret .cont) := ⟨_, ps_continue, fun c fp F env σ H D hc R g => g fp F σ H R (Ex.refl F)⟩
theorem psx_doc {i : Str} {j : Nat} {pos' : Pos} : PSX X bo W (.Expr (.Constant (.str i) j pos) pos') sPass := ⟨_, ps_doc, fun c fp F env σ H D hc R g => g fp F σ H R (Ex.refl F)⟩
def sExpr (f : PM Opd) : PM Out := bnd f fun _ => ret .next
theorem psx_expr {f : PM Opd} (h : PX X bo W e f) (hs : swapsWith e none pos.line X.env = pure false := by rfl) : PSX X bo W (.Expr e pos) (sExpr f) := by
  obtain ⟨t, h1, h2⟩ := h
  refine ⟨_, ps_expr h1 hs, fun c fp F env σ H D hc R g => ?_⟩
  exact h2 c fp F env σ H _ hc R ((GoesS.bnd (σ := σ) g).mono (Ex.refl F) fun fp1 F1 env1 H1 o e1 R1 g1 v hv => g1 fp1 F1 σ H1 R1 (Ex.refl F1))
def sRet (f : PM Opd) : PM Out := bnd f fun o => ret (.ret o)
theorem psx_ret {f : PM Opd} (h : PX X bo W e f) : PSX X bo W (.Return (some e) pos) (sRet f) := by
  obtain ⟨t, h1, h2⟩ := h
  refine ⟨_, ps_ret h1, fun c fp F env σ H D hc R g => ?_⟩
  exact h2 c fp F env σ H _ hc R ((GoesS.bnd (σ := σ) g).mono (Ex.refl F) fun fp1 F1 env1 H1 o e1 R1 g1 v hv => g1 fp1 F1 σ H1 R1 (Ex.refl F1) v hv)
theorem psx_retN : PSX X bo W (.Return none pos) (ret (.ret (.val .none))) :=
  ⟨_, ps_retN, fun c fp F env σ H D hc R g => g fp F σ H R (Ex.refl F) .non (by show Den _ _ _ _; simp only [Den])⟩
def sIf (f : PM Bool) (g h : PM Out) : PM Out := bnd f fun k => if k = true then g else h
theorem psx_if {cc : Expr} {u w : List Stmt} {f : PM Bool} {g h : PM Out} (hc : PTX X bo W cc f) (ha : PSsX X bo W u g) (hb : PSsX X bo W w h) : PSX X bo W (.If cc u w pos) (sIf f g h) := by
  obtain ⟨t, h1, h2⟩ := hc
  obtain ⟨t2, h3, h4⟩ := ha
  obtain ⟨t3, h5, h6⟩ := hb
  refine ⟨_, ps_if h1 h3 h5, fun c fp F env σ H D hc R gg => ?_⟩
  refine h2 c fp F env σ H _ hc R ((GoesS.bnd (σ := σ) gg).mono (Ex.refl F) fun fp1 F1 env1 H1 k e1 R1 g1 => ?_)
  cases k with
  | true =>
    simp only [if_true] at g1 ⊢
    exact h4 c fp1 F1 env1 σ H1 D hc R1 g1
  | false =>
    simp only [Bool.false_eq_true, if_false] at g1 ⊢
    exact h6 c fp1 F1 env1 σ H1 D hc R1 g1
/-! ### assignments -/
def putS (i : Nat) (s : SV) : PM Unit := fun env => .ok () (env.set i (some s))
def asg (i : Nat) : Opd → PM Unit
  | .val d => putS i (.im d)
  | .tmp ds => putS i (.ls ds)
  | .tab t => putS i (.ab t)
  | .slot j => bnd (frz (.slot j)) fun d => putS i (.im d)
theorem asg_ok {K : PySem.W.Frag} {c : Ct} {fp : Nat → List Addr} {F : Hp} {env : PEnv} {σ : L2.St} {H : Hp} {D : Ends} {i : Nat} {o : Opd} {v : V} {k : PM Out} (hi : c.br ≠ none → i ≠ 0) (R : Rel K c fp F env σ H) (h : OpdOk K c fp F σ H o v)
    (g : GoesS K c W F (bnd (asg i o) (fun _ => k) env) D) : ∃ fp' F' env', Rel K c fp' F' env' (σ.set i (some v)) H ∧ Ex F F' ∧ GoesS K c W F' (k env') D := by
  cases o with
  | val d => exact ⟨_, F, _, R.put hi h, Ex.refl F, g⟩
  | tmp ds =>
    obtain ⟨p, xs, h1, h2, h3, h4, h5, h6⟩ := h
    refine ⟨_, F, _, R.putOwn (o := .ls ds) (v := v) (l := [p]) hi ⟨p, xs, h1, rfl, h2, h6⟩ (fun a ha => ?_), Ex.refl F, g⟩
    simp only [List.mem_cons, List.not_mem_nil, or_false] at ha
    subst ha
    exact ⟨h3, by rw [h2]; simp, h4, h5⟩
  | tab t =>
    obtain ⟨fT, h1, h2⟩ := h
    exact ⟨_, F, _, R.putOwn (o := .ab t) (v := v) (l := fT) hi h1 (fun a ha => ⟨(h2 a ha).1, abAt_in h1 a ha, (h2 a ha).2⟩), Ex.refl F, g⟩
  | slot j =>
    have g' : GoesS K c W F (bnd (frz (.slot j)) (fun d => bnd (putS i (.im d)) fun _ => k) env) D := by
      have : bnd (asg i (.slot j)) (fun _ => k) = bnd (frz (.slot j)) (fun d => bnd (putS i (.im d)) fun _ => k) := bnd_assoc _ _ _
      rw [← this]
      exact g
    have h' : σ[j]? = some (some v) := h
    cases e : env[j]? with
    | none => simp only [bnd, frz, e] at g'; exact g'.elim
    | some s =>
      cases s with
      | none => simp only [bnd, frz, e] at g'; exact g'.elim
      | some s =>
        obtain ⟨w, h1, h2⟩ := R.sl j s e
        rw [h'] at h1
        cases h1
        cases s with
        | im d => simp only [bnd, frz, e] at g'; exact ⟨_, F, _, R.put hi h2, Ex.refl F, g'⟩
        | ls ds =>
          simp only [bnd, frz, e] at g'
          obtain ⟨F1, R1, e1, d1⟩ := R.freeze e h'
          exact ⟨_, F1, _, R1.put hi d1, e1, g'.mono e1⟩
        | ab t => simp only [bnd, frz, e] at g'; exact g'.elim
def sSet (i : Nat) (f : PM Opd) : PM Out := bnd f fun o => bnd (asg i o) fun _ => ret .next
theorem psx_set {i : Nat} {pos' : Pos} {f : PM Opd} (hN : X.N.Nodup) (h : PX X bo W e f) (hi : X.N[i]? = some x := by rfl) (hb : (bo && i == 0) = false := by rfl) (hx : Loc X.env.scope x := by first | exact Or.inl rfl | exact Or.inr rfl) (hs : swapsWith e (some (.Name x pos')) pos.line X.env = pure false := by rfl) (hf : X.fn x = true ∨ X.env.scope.names.lookup x = some .local := by first | exact .inl rfl | exact .inr rfl | assumption) :
    PSX X bo W (.Assign [.Name x pos'] e pos) (sSet i f) := by
  obtain ⟨t, h1, h2⟩ := h
  refine ⟨_, ps_set hN hi hx h1 hs hf, fun c fp F env σ H D hc R g => ?_⟩
  have hi0 : c.br ≠ none → i ≠ 0 := fun z w => by
    rw [hc z, w] at hb
    cases hb
  refine h2 c fp F env σ H _ hc R ((GoesS.bnd (σ := σ) g).mono (Ex.refl F) fun fp1 F1 env1 H1 o e1 R1 g1 v hv => ?_)
  obtain ⟨fp2, F2, env2, R2, e2, g2⟩ := asg_ok hi0 R1 hv g1
  exact g2 fp2 F2 _ H1 R2 (Ex.refl F2)
/-! targets -/
def Sets (js : List Nat) (σ σ' : L2.St) : Prop := ∀ vs : List Nat, (∀ j ∈ js, j ∈ vs) → wipe σ' vs = wipe σ vs
def TGX (X : Cx) (bo : Bool) (tg : Expr) (js : List Nat) (s : D → PEnv → Option PEnv) : Prop :=
  ∃ t, PG X tg t ∧ ∀ c fp F env σ H v d env' (Q : L2.St → Hp → Prop), OkC c bo → Rel X.K c fp F env σ H → Den X.K F d v → s d env = some env' →
    (∀ fp' σ', Rel X.K c fp' F env' σ' H → Sets js σ σ' → Q σ' H) → t v σ H Q
def TGsX (X : Cx) (bo : Bool) (ts : List Expr) (js : List Nat) (s : List D → PEnv → Option PEnv) : Prop :=
  ∃ t, PGs X ts t ∧ ∀ c fp F env σ H vs ds env' (Q : L2.St → Hp → Prop), OkC c bo → Rel X.K c fp F env σ H → Dens X.K F ds vs → s ds env = some env' →
    (∀ fp' σ', Rel X.K c fp' F env' σ' H → Sets js σ σ' → Q σ' H) → t vs σ H Q
theorem wipe_set (i : Nat) (x : Option V) (σ : L2.St) : ∀ vs : List Nat, i ∈ vs → wipe (σ.set i x) vs = wipe σ vs := by
  have get : ∀ (τ : L2.St) (vs : List Nat) (j : Nat), (wipe τ vs)[j]? = if j ∈ vs then (if j < τ.length then some none else none) else τ[j]? := by
    intro τ vs
    induction vs with
    | nil => intro j; simp [wipe]
    | cons v vs ih =>
      intro j
      unfold wipe
      by_cases e : v = j
      · subst e
        rw [List.getElem?_set_self']
        rw [ih v]
        by_cases hl : v < τ.length
        · by_cases hm : v ∈ vs
          · simp [hm, hl]
          · simp [hm, hl, List.getElem?_eq_getElem hl]
        · by_cases hm : v ∈ vs
          · simp [hm, hl]
          · simp [hm, hl, List.getElem?_eq_none (Nat.le_of_not_lt hl)]
      · rw [List.getElem?_set_ne e, ih j]
        have : (j ∈ v :: vs) ↔ j ∈ vs := by simp [Ne.symm e]
        simp only [this]
  intro vs hi
  apply List.ext_getElem?
  intro j
  rw [get, get]
  by_cases hj : j ∈ vs
  · simp [hj]
  · have : i ≠ j := fun e => hj (e ▸ hi)
    simp only [hj, if_false]
    rw [List.getElem?_set_ne this]
theorem sets_one (i : Nat) (x : Option V) (σ : L2.St) : Sets [i] σ (σ.set i x) := fun vs h => wipe_set i x σ vs (h i (by simp))
def tgName (i : Nat) : D → PEnv → Option PEnv := fun d env => some (env.set i (some (.im d)))
theorem tgx_name {i : Nat} (hN : X.N.Nodup) (hi : X.N[i]? = some x := by rfl) (hb : (bo && i == 0) = false := by rfl) (hx : Loc X.env.scope x := by first | exact Or.inl rfl | exact Or.inr rfl) (hf : X.fn x = true ∨ X.env.scope.names.lookup x = some .local := by first | exact .inl rfl | exact .inr rfl | assumption) : TGX X bo (.Name x pos) [i] (tgName i) := by
  refine ⟨_, pg_name hN hi hx hf, fun c fp F env σ H v d env' Q hc R hd hs q => ?_⟩
  have hi0 : c.br ≠ none → i ≠ 0 := fun z w => by
    rw [hc z, w] at hb
    cases hb
  cases hs
  exact q _ _ (R.put hi0 hd) (sets_one i _ _)
def tgNil : List D → PEnv → Option PEnv
  | [], env => some env
  | _, _ => none
def tgCons (s : D → PEnv → Option PEnv) (r : List D → PEnv → Option PEnv) : List D → PEnv → Option PEnv
  | d :: ds, env => (s d env).bind (r ds)
  | [], _ => none
theorem tgsx_nil : TGsX X bo [] [] tgNil := by
  refine ⟨_, pgs_nil, fun c fp F env σ H vs ds env' Q hc R hd hs q => ?_⟩
  cases ds with
  | cons d ds => cases hs
  | nil =>
    cases hs
    simp only [Dens] at hd
    exact ⟨hd, q _ _ R fun _ _ => rfl⟩
theorem tgsx_cons {es : List Expr} {js js' : List Nat} {s : D → PEnv → Option PEnv} {r : List D → PEnv → Option PEnv} (h1 : TGX X bo e js s) (h2 : TGsX X bo es js' r) (hs : (assignEach (e :: es) X.env).map (·.2) = assign e X.env :: (assignEach es X.env).map (·.2) := by rfl) : TGsX X bo (e :: es) (js ++ js') (tgCons s r) := by
  obtain ⟨t, a1, a2⟩ := h1
  obtain ⟨u, b1, b2⟩ := h2
  refine ⟨_, pgs_cons a1 b1 hs, fun c fp F env σ H vs ds env' Q hc R hd hs q => ?_⟩
  cases ds with
  | nil => cases hs
  | cons d ds =>
    simp only [Dens] at hd
    obtain ⟨v, vr, e1, hd1, hd2⟩ := hd
    cases e2 : s d env with
    | none => simp only [tgCons, e2] at hs; cases hs
    | some env1 =>
      simp only [tgCons, e2, Option.bind_some] at hs
      exact ⟨v, vr, e1, a2 c fp F env σ H v d env1 _ hc R hd1 e2 fun fp1 σ1 R1 k1 => b2 c fp1 F env1 σ1 H vr ds env' Q hc R1 hd2 hs fun fp2 σ2 R2 k2 => q fp2 σ2 R2 fun ws hw =>
        (k2 ws fun j hj => hw j (List.mem_append_right _ hj)).trans (k1 ws fun j hj => hw j (List.mem_append_left _ hj))⟩
theorem PG.or {tg : Expr} {t t' : TG} (h : PG X tg t) (h' : PG X tg t') : PG X tg (fun v σ H Q => t v σ H Q ∨ t' v σ H Q) :=
  ⟨fun pins s σ H v u Q I r q => q.elim (h.run pins s σ H v u Q I r) (h'.run pins s σ H v u Q I r)⟩
def tgTup (n : Nat) (r : List D → PEnv → Option PEnv) : D → PEnv → Option PEnv
  | .tuple ds, env => if ds.length = n then r ds env else none
  | _, _ => none
theorem dens_len {K : PySem.W.Frag} {F : Hp} : ∀ {ds : List D} {xs : List V}, Dens K F ds xs → xs.length = ds.length
  | [], xs, h => by simp only [Dens] at h; subst h; rfl
  | d :: ds, xs, h => by
    simp only [Dens] at h
    obtain ⟨v, r, rfl, _, h2⟩ := h
    simp [dens_len h2]
theorem tgx_tup {es : List Expr} {k n : Nat} {r : List D → PEnv → Option PEnv} {js : List Nat} (hc : X.calm = true) (h : TGsX X bo es js r) (hn : (assignEach es X.env).length = n := by rfl) (hst : (assignEach es X.env).findIdx? (·.1) = none := by rfl) : TGX X bo (.Tuple es k pos) js (tgTup n r) := by
  obtain ⟨t, a1, a2⟩ := h
  refine ⟨_, pg_tup hc a1 hn hst, fun c fp F env σ H v d env' Q hc R hd hs q => ?_⟩
  cases d with
  | tuple ds =>
    simp only [tgTup] at hs
    split at hs
    · rename_i hl
      simp only [Den] at hd
      obtain ⟨a, xs, e1, h1, h2⟩ := hd
      exact ⟨a, xs, e1, ex_t R.fh h1, by rw [dens_len h2]; exact hl, a2 c fp F env σ H xs ds env' Q hc R h2 hs q⟩
    · cases hs
  | _ => cases hs
theorem frz_okS {K : PySem.W.Frag} {c : Ct} {fp : Nat → List Addr} {F : Hp} {env : PEnv} {σ : L2.St} {H : Hp} {D : Ends} (R : Rel K c fp F env σ H) {o : Opd} {v : V} (h : OpdOk K c fp F σ H o v) {k : Pu.D → PM Out} (g : GoesS K c W F (bnd (frz o) k env) D) :
    ∃ d fp' F' env', Rel K c fp' F' env' σ H ∧ Ex F F' ∧ Den K F' d v ∧ GoesS K c W F (k d env') D := by
  cases o with
  | val d => exact ⟨d, fp, F, env, R, Ex.refl F, h, g⟩
  | tmp ds =>
    obtain ⟨F1, R1, e1, d1⟩ := R.freezeTmp h
    exact ⟨.list ds, fp, F1, env, R1, e1, d1, g⟩
  | slot i =>
    have h' : σ[i]? = some (some v) := h
    cases e : env[i]? with
    | none => simp only [bnd, frz, e] at g; exact g.elim
    | some x =>
      cases x with
      | none => simp only [bnd, frz, e] at g; exact g.elim
      | some s =>
        obtain ⟨w, h1, h2⟩ := R.sl i s e
        rw [h'] at h1
        cases h1
        cases s with
        | im d => simp only [bnd, frz, e] at g; exact ⟨d, fp, F, env, R, Ex.refl F, h2, g⟩
        | ls ds =>
          simp only [bnd, frz, e] at g
          obtain ⟨F1, R1, e1, d1⟩ := R.freeze e h'
          exact ⟨.list ds, _, F1, _, R1, e1, d1, g⟩
        | ab t => simp only [bnd, frz, e] at g; exact g.elim
  | tab t => exact g.elim
def sAsg (s : D → PEnv → Option PEnv) (f : PM Opd) : PM Out := bnd (kept f) fun d env => match s d env with
  | some env' => .ok .next env'
  | none => .bad
/-- target = value, the value kept -/
theorem psx_asg {tg : Expr} {js : List Nat} {s : D → PEnv → Option PEnv} {f : PM Opd} (h : PX X bo W e f) (hg : TGX X bo tg js s) (hs : swapsWithSole [tg] e pos.line X.env = pure false := by rfl) (hw : swappedStores [tg] e X.env = pure none := by rfl)
    (h1 : (assignEach [tg] X.env).map (·.2) = [assign tg X.env] := by rfl) : PSX X bo W (.Assign [tg] e pos) (sAsg s f) := by
  obtain ⟨t, a1, a2⟩ := h
  obtain ⟨u, b1, b2⟩ := hg
  refine ⟨_, ps_asg a1 b1 hs hw h1, fun c fp F env σ H D hc R g => ?_⟩
  have g' : GoesS X.K c W F (bnd f (fun o => bnd (frz o) fun d env => match s d env with
    | some env' => .ok .next env'
    | none => .bad) env) D := by
    have : sAsg s f = bnd f (fun o => bnd (frz o) fun d env => match s d env with
      | some env' => .ok .next env'
      | none => .bad) := bnd_assoc _ _ _
    rw [← this]
    exact g
  refine a2 c fp F env σ H _ hc R ((GoesS.bnd (σ := σ) g').mono (Ex.refl F) fun fp1 F1 env1 H1 o e1 R1 g1 v hv => ?_)
  obtain ⟨d, fp2, F2, env2, R2, e2, hd, g2⟩ := frz_okS R1 hv g1
  cases e3 : s d env2 with
  | none => simp only [e3] at g2; exact g2.elim
  | some env3 =>
    simp only [e3] at g2
    exact b2 c fp2 F2 env2 σ H1 v d env3 _ hc R2 hd e3 fun fp3 σ3 R3 _ => g2 fp3 F2 σ3 H1 R3 e2
end
end Pu

namespace Pu
open PySem PySem.Spec PyProof.Rows L2
/-! ### the readings as one term -/
def semE (K : PySem.W.Frag) (bo : Bool) (W : WX) (f : PM Opd) : TE := fun σ H Q => ∃ c fp F env, OkC c bo ∧ Rel K c fp F env σ H ∧ Goes K c W σ F (f env) (fun fp' F' env' H' o => ∀ v, OpdOk K c fp' F' σ H' o v → Q v H')
def semT (K : PySem.W.Frag) (bo : Bool) (W : WX) (f : PM Bool) : TT := fun σ H Q => ∃ c fp F env, OkC c bo ∧ Rel K c fp F env σ H ∧ Goes K c W σ F (f env) (fun fp' F' env' H' o => Q o H')
def semG (K : PySem.W.Frag) (bo : Bool) (js : List Nat) (s : D → PEnv → Option PEnv) : TG := fun v σ H Q => ∃ c fp F env d env', OkC c bo ∧ Rel K c fp F env σ H ∧ Den K F d v ∧ s d env = some env' ∧ ∀ fp' σ', Rel K c fp' F env' σ' H → Sets js σ σ' → Q σ' H
def semS (K : PySem.W.Frag) (bo : Bool) (W : WX) (g : PM Out) : TS := fun D σ H => ∃ c fp F env, OkC c bo ∧ Rel K c fp F env σ H ∧ GoesS K c W F (g env) D
section
variable {X : Cx} {bo : Bool} {W : WX} {e a b : Expr} {es : List Expr} {st : Stmt} {sts : List Stmt} {pos p : Pos} {x : Str}
theorem px_sem {f : PM Opd} (h : PX X bo W e f) : PE X e (semE X.K bo W f) := by
  obtain ⟨t, h1, h2⟩ := h
  exact ⟨fun pins s σ H Q I ⟨c, fp, F, env, hc, R, g⟩ => h1.run pins s σ H Q I (h2 c fp F env σ H Q hc R g)⟩
theorem ptx_sem {f : PM Bool} (h : PTX X bo W e f) : PT X e (semT X.K bo W f) := by
  obtain ⟨t, h1, h2⟩ := h
  exact ⟨fun pins s σ H Q I ⟨c, fp, F, env, hc, R, g⟩ => h1.run pins s σ H Q I (h2 c fp F env σ H Q hc R g)⟩
theorem tgx_sem {js : List Nat} {s : D → PEnv → Option PEnv} (h : TGX X bo e js s) : PG X e (semG X.K bo js s) := by
  obtain ⟨t, h1, h2⟩ := h
  exact ⟨fun pins s' σ H v u Q I r ⟨c, fp, F, env, d, env', hc, R, hd, hs, q⟩ => h1.run pins s' σ H v u Q I r (h2 c fp F env σ H v d env' Q hc R hd hs q)⟩
theorem pssx_sem {g : PM Out} (h : PSsX X bo W sts g) : PSs X sts (semS X.K bo W g) := by
  obtain ⟨t, h1, h2⟩ := h
  exact ⟨fun pins s σ H D I ⟨c, fp, F, env, hc, R, g⟩ => h1.run pins s σ H D I (h2 c fp F env σ H D hc R g)⟩
/-! ### lists that a name holds, changed -/
def lsAt (i : Nat) : PM (List D) := fun env => match env[i]? with
  | some (some (.ls ds)) => .ok ds env
  | _ => .bad
theorem lsAt_ok {K : PySem.W.Frag} {c : Ct} {fp : Nat → List Addr} {F F0 : Hp} {env : PEnv} {σ : L2.St} {H : Hp} {i : Nat} {β : Type} {k : List D → PM β} {G : (Nat → List Addr) → Hp → PEnv → Hp → β → Prop} (R : Rel K c fp F env σ H) (g : Goes K c W σ F0 (bnd (lsAt i) k env) G) :
    ∃ ds a xs, env[i]? = some (some (.ls ds)) ∧ σ[i]? = some (some (.ref a)) ∧ fp i = [a] ∧ H a = some (.lst xs) ∧ Dens K F ds xs ∧ Goes K c W σ F0 (k ds env) G := by
  cases e : env[i]? with
  | none => simp only [bnd, lsAt, e] at g; exact g.elim
  | some s =>
    cases s with
    | none => simp only [bnd, lsAt, e] at g; exact g.elim
    | some s =>
      cases s with
      | im d => simp only [bnd, lsAt, e] at g; exact g.elim
      | ab t => simp only [bnd, lsAt, e] at g; exact g.elim
      | ls ds =>
        simp only [bnd, lsAt, e] at g
        obtain ⟨v, h1, a, xs, h2, h3, h4, h5⟩ := R.sl i _ e
        subst h2
        exact ⟨ds, a, xs, rfl, h1, h3, h4, h5, g⟩
theorem Rel.setLs {K : PySem.W.Frag} {c : Ct} {fp : Nat → List Addr} {F : Hp} {env : PEnv} {σ : L2.St} {H : Hp} {i : Nat} {ds ds' : List D} {a : Addr} {ys : List V} (R : Rel K c fp F env σ H) (h1 : env[i]? = some (some (.ls ds))) (h2 : σ[i]? = some (some (.ref a))) (h3 : fp i = [a]) (h4 : Dens K F ds' ys) :
    Rel K c fp F (env.set i (some (.ls ds'))) σ (upd H a (.lst ys)) := by
  have ha := (R.ow i a (by rw [h3]; simp)).1
  have keep : ∀ q u, q ∉ fp i → H q = some u → upd H a (.lst ys) q = some u := fun q u hq z => by
    rw [upd_ne (fun e => hq (by rw [h3, e]; simp))]
    exact z
  refine R.mutate h1 h2 (Ex.refl F) (fun q u z => ?_) keep (fun q z => ?_) (fun q z => .inl z) ⟨a, ys, rfl, h3, upd_same, h4⟩ (fun ⟨t, z⟩ => nomatch z) (fun _ => ⟨_, rfl⟩)
  · rw [upd_ne (ne_of_none z ha)]
    exact R.fh q u z
  · by_cases e : q = a
    · rw [e, upd_same]; simp
    · rw [upd_ne e]; exact z
theorem dens_app {K : PySem.W.Frag} {F : Hp} : ∀ {ds ds' : List D} {xs ys : List V}, Dens K F ds xs → Dens K F ds' ys → Dens K F (ds ++ ds') (xs ++ ys)
  | [], _, _, _, h, h' => by simp only [Dens] at h; subst h; exact h'
  | d :: ds, ds', xs, ys, h, h' => by
    simp only [Dens] at h
    obtain ⟨v, r, rfl, h1, h2⟩ := h
    show Dens K F (d :: (ds ++ ds')) _
    simp only [Dens]
    exact ⟨v, r ++ ys, rfl, h1, dens_app h2 h'⟩
theorem dens_one {K : PySem.W.Frag} {F : Hp} {d : D} {v : V} (h : Den K F d v) : Dens K F [d] [v] := by
  simp only [Dens]
  exact ⟨v, [], rfl, h, rfl⟩
def bigLine : Nat := 10000000
theorem big_line : bigLine < sizeLine := by rw [sizeLine_eq]; decide
/-- x.append(e) -/
def eApp (i : Nat) (f : PM Opd) : PM Opd := bnd (lsAt i) fun _ => bnd (kept f) fun d => bnd (lsAt i) fun ds => if ds.length < bigLine then bnd (putS i (.ls (ds ++ [d]))) fun _ => ret (.val .none) else oops
theorem kept_bnd {β : Type} (f : PM Opd) (k : D → PM β) : bnd (kept f) k = bnd f fun o => bnd (frz o) k := bnd_assoc _ _ _
theorem px_app {i : Nat} {pv : Pos} {apos cpos : Pos} {f : PM Opd} (h : PX X bo W e f) (hN : X.N[i]? = some x := by rfl) (hv : Vis X.env.scope x := by first | exact Or.inl rfl | exact Or.inr (Or.inl rfl) | exact Or.inr (Or.inr rfl)) (hd : (x == ("__debug__" : Str)) = false := by decide)
    (hcd : (x == ("__classdict__" : Str)) = false := by decide)
    (hfew : ((backTo cpos (starEach [e] X.env)).all (fun x => !x.1) && (backToKw cpos (keywordEach [] X.env)).all (fun x => x.1.isSome)
      && decide ([e].length + ([] : List Keyword).length + (if ([] : List Keyword).isEmpty then 0 else 1) < 30)) = true := by rfl)
    (hline : (apos.endLine == cpos.line) = true := by rfl) (hs : starEach [e] X.env = (false, eval e X.env) :: starEach [] X.env := by rfl) (hplain : (backTo cpos (starEach [] X.env)).any (·.1) = false := by rfl) :
    PX X bo W (.Call (.Attribute (.Name x pv) "append" apos) [e] [] cpos) (eApp i f) := by
  obtain ⟨t, h1, h2⟩ := h
  refine ⟨_, pe_bm PySem.F.plainAttrs_list PySem.F.slot_list_append PySem.F.type_list_append mt_append (pe_var hN hv hd hcd) (pa_cons h1 pa_nil hs) rfl hfew hline hs hplain, fun c fp F env σ H Q hc R g => ?_⟩
  obtain ⟨ds, a, xs, k1, k2, k3, k4, k5, g1⟩ := lsAt_ok R g
  refine ⟨.ref a, k2, .inl ⟨rfl, xs, .inl (.inl k4)⟩, ?_⟩
  rw [kept_bnd] at g1
  refine h2 c fp F env σ H _ hc R ((Goes.bnd g1).mono (Ex.refl F) fun fp1 F1 env1 H1 o e1 R1 g2 v hv => ?_)
  obtain ⟨d, fp2, F2, env2, R2, e2, hd', g3⟩ := frz_ok R1 hv g2
  obtain ⟨ds2, a2, xs2, q1, q2, q3, q4, q5, g4⟩ := lsAt_ok R2 g3
  rw [k2] at q2
  cases q2
  split at g4
  · rename_i hl
    refine ⟨a, xs2, v, rfl, rfl, q4, ?_, ?_⟩
    · rw [dens_len q5]; exact Nat.lt_trans hl big_line
    · exact g4 fp2 F2 _ (R2.setLs q1 k2 q3 (dens_app q5 (dens_one hd'))) e2 .non (by show Den _ _ _ _; simp only [Den])
  · exact g4.elim
/-- x.extend([..]) -/
def eExt (i : Nat) (f : PM Opd) : PM Opd := bnd (lsAt i) fun _ => bnd (kept f) fun d => bnd (lsAt i) fun ds => match d with
  | .list ds' => if ds.length + ds'.length < bigLine then bnd (putS i (.ls (ds ++ ds'))) fun _ => ret (.val .none) else oops
  | _ => oops
theorem px_ext {i : Nat} {pv : Pos} {apos cpos : Pos} {f : PM Opd} (h : PX X bo W e f) (hN : X.N[i]? = some x := by rfl) (hv : Vis X.env.scope x := by first | exact Or.inl rfl | exact Or.inr (Or.inl rfl) | exact Or.inr (Or.inr rfl)) (hd : (x == ("__debug__" : Str)) = false := by decide)
    (hcd : (x == ("__classdict__" : Str)) = false := by decide)
    (hfew : ((backTo cpos (starEach [e] X.env)).all (fun x => !x.1) && (backToKw cpos (keywordEach [] X.env)).all (fun x => x.1.isSome)
      && decide ([e].length + ([] : List Keyword).length + (if ([] : List Keyword).isEmpty then 0 else 1) < 30)) = true := by rfl)
    (hline : (apos.endLine == cpos.line) = true := by rfl) (hs : starEach [e] X.env = (false, eval e X.env) :: starEach [] X.env := by rfl) (hplain : (backTo cpos (starEach [] X.env)).any (·.1) = false := by rfl) :
    PX X bo W (.Call (.Attribute (.Name x pv) "extend" apos) [e] [] cpos) (eExt i f) := by
  obtain ⟨t, h1, h2⟩ := h
  refine ⟨_, pe_bm PySem.F.plainAttrs_list PySem.F.slot_list_extend PySem.F.type_list_extend mt_extend (pe_var hN hv hd hcd) (pa_cons h1 pa_nil hs) rfl hfew hline hs hplain, fun c fp F env σ H Q hc R g => ?_⟩
  obtain ⟨ds, a, xs, k1, k2, k3, k4, k5, g1⟩ := lsAt_ok R g
  refine ⟨.ref a, k2, .inl ⟨rfl, xs, .inl (.inl k4)⟩, ?_⟩
  rw [kept_bnd] at g1
  refine h2 c fp F env σ H _ hc R ((Goes.bnd g1).mono (Ex.refl F) fun fp1 F1 env1 H1 o e1 R1 g2 v hv => ?_)
  obtain ⟨d, fp2, F2, env2, R2, e2, hd', g3⟩ := frz_ok R1 hv g2
  obtain ⟨ds2, a2, xs2, q1, q2, q3, q4, q5, g4⟩ := lsAt_ok R2 g3
  rw [k2] at q2
  cases q2
  cases d with
  | list ds' =>
    simp only at g4
    split at g4
    · rename_i hl
      simp only [Den] at hd'
      obtain ⟨b, zs, rfl, z1, z2⟩ := hd'
      refine ⟨a, b, xs2, zs, rfl, rfl, q4, R2.fh _ _ z1, ?_, ?_⟩
      · rw [dens_len q5, dens_len z2]; exact Nat.le_of_lt (Nat.lt_trans hl big_line)
      · exact g4 fp2 F2 _ (R2.setLs q1 k2 q3 (dens_app q5 z2)) e2 .non (by show Den _ _ _ _; simp only [Den])
    · exact g4.elim
  | _ => exact g4.elim
/-- x[i] = e at a list that a name holds -/
def sPutAt (i : Nat) (fe fi : PM Opd) : PM Out := bnd (kept fe) fun d => bnd (lsAt i) fun _ => bnd (opn fi) fun o => bnd (rsv o) fun k => bnd (lsAt i) fun ds => match k with
  | .int z => match ixN ds.length z with
    | some j => bnd (putS i (.ls (ds.set j d))) fun _ => ret .next
    | none => oops
  | _ => oops
theorem dens_set {K : PySem.W.Frag} {F : Hp} {d : D} {v : V} (h : Den K F d v) : ∀ {ds : List D} {xs : List V} (j : Nat), Dens K F ds xs → Dens K F (ds.set j d) (xs.set j v)
  | [], xs, j, h' => by simp only [Dens] at h'; subst h'; simp [Dens]
  | d' :: ds, xs, 0, h' => by
    simp only [Dens] at h'
    obtain ⟨v', r, rfl, h1, h2⟩ := h'
    show Dens K F (d :: ds) (v :: r)
    simp only [Dens]
    exact ⟨v, r, rfl, h, h2⟩
  | d' :: ds, xs, j + 1, h' => by
    simp only [Dens] at h'
    obtain ⟨v', r, rfl, h1, h2⟩ := h'
    show Dens K F (d' :: ds.set j d) (v' :: r.set j v)
    simp only [Dens]
    exact ⟨v', _, rfl, h1, dens_set h j h2⟩
end
end Pu

namespace Pu
open PySem PySem.Spec PyProof.Rows L2
/-! ### what is walked -/
def Steady (K : PySem.W.Frag) (c : Ct) (F' : Hp) (ds : List D) (Gp : Hp → Prop) (Y : Nat → Hp → V → Hp → Prop) : Prop :=
  (∀ F H, Ex F' F → Ex F H → Gp H) ∧
  (∀ i fp F env σ H x H', i < ds.length → Rel K c fp F env σ H → Ex F' F → Y i H x H' → ∃ F'' d, ds[i]? = some d ∧ Rel K c fp F'' env σ H' ∧ Ex F F'' ∧ Den K F'' d x ∧ Ex H H')
def PIX (X : Cx) (bo : Bool) (W : WX) (tg e : Expr) (f : PM (List D)) : Prop :=
  ∃ wi, PI X tg e wi ∧ ∀ c fp F env σ H (R : It → Hp → Prop), OkC c bo → Rel X.K c fp F env σ H →
    Goes X.K c W σ F (f env) (fun fp' F' env' H' ds => ∀ J Gp Y, Walk J ds.length Gp Y → (∀ c, Steady X.K c F' ds Gp Y) → R J H') → wi σ H R
section
variable {X : Cx} {bo : Bool} {W : WX} {tg e a b : Expr} {es : List Expr} {st : Stmt} {sts : List Stmt} {pos p : Pos} {x : Str}
theorem PI.or {wi wi' : TI} (h : PI X tg e wi) (h' : PI X tg e wi') : PI X tg e (fun σ H R => wi σ H R ∨ wi' σ H R) :=
  ⟨fun pins s σ H R I q => q.elim (h.run pins s σ H R I) (h'.run pins s σ H R I)⟩
theorem dens_get {K : PySem.W.Frag} {F : Hp} : ∀ {ds : List D} {xs : List V} {i : Nat} {v : V}, Dens K F ds xs → xs[i]? = some v → ∃ d, ds[i]? = some d ∧ Den K F d v
  | [], xs, i, v, h, e => by simp only [Dens] at h; subst h; simp at e
  | d :: ds, xs, 0, v, h, e => by
    simp only [Dens] at h
    obtain ⟨w, r, rfl, h1, h2⟩ := h
    simp at e
    subst e
    exact ⟨d, rfl, h1⟩
  | d :: ds, xs, i + 1, v, h, e => by
    simp only [Dens] at h
    obtain ⟨w, r, rfl, h1, h2⟩ := h
    simp at e
    obtain ⟨d', e', h'⟩ := dens_get h2 e
    exact ⟨d', by simpa using e', h'⟩
theorem dens_get' {K : PySem.W.Frag} {F : Hp} {ds : List D} {xs : List V} {i : Nat} {d : D} (h : Dens K F ds xs) (e : ds[i]? = some d) : ∃ v, xs[i]? = some v ∧ Den K F d v := by
  have hl := dens_len h
  obtain ⟨hi, _⟩ := List.getElem?_eq_some_iff.mp e
  have hx : xs[i]? = some (xs[i]'(by omega)) := List.getElem?_eq_getElem (by omega)
  obtain ⟨d', e', h'⟩ := dens_get h hx
  rw [e] at e'
  cases e'
  exact ⟨_, hx, h'⟩
def itemsOf : D → Option (List D)
  | .list ds => some ds
  | .tuple ds => some ds
  | _ => none
def eIter (f : PM Opd) : PM (List D) := bnd (kept f) fun d => lift (itemsOf d)
def iSeq (K : PySem.W.Frag) (tl : TE) : TI := fun σ H R => tl σ H fun x H1 => ∃ a, x = .ref a ∧ ((∃ xs, SqL K H1 a xs ∧ R (Itl K a) H1) ∨ (∃ xs, SqT K H1 a xs ∧ R (Itt K a) H1))
theorem pi_seq {l : Expr} {tl : TE} (hl : PE X l tl) : PI X tg l (iSeq X.K tl) := by
  constructor
  intro pins s0 σ H R I h
  refine thn (hl.run pins s0 σ H _ I h) ?_
  rintro v s1 ⟨x, H1, I1, r1, a, rfl, q⟩
  cases r1
  have fresh : ∀ b ∈ [s1.heap.objs.size], FpOk X pins H1 b := by
    intro b hb
    simp only [List.mem_cons, List.not_mem_nil, or_false] at hb
    rw [hb]
    exact I1.fpOk (Nat.le_refl _) (I1.hok.fresh (Nat.le_refl _))
  rcases q with ⟨xs, hq, q⟩ | ⟨xs, hq, q⟩
  · obtain ⟨its, rv, pl, _⟩ := I1.list hq
    exact wpAny_pyIter_list pl.isList ⟨s1.heap.objs.size, [s1.heap.objs.size], _, _, H1, rfl, I1.kept (t' := s1.toks) (fun b o z => Heap.get?_push_of_some _ z), turn_list a _, ⟨_, Heap.get?_push_size _ rfl, rfl, rfl⟩, fresh, q⟩
  · obtain ⟨its, rv, tp, _⟩ := I1.tuple hq
    exact wpAny_pyIter_tuple (show s1.heap.IsTuple a its.toArray from tp) ⟨s1.heap.objs.size, [s1.heap.objs.size], _, _, H1, rfl, I1.kept (t' := s1.toks) (fun b o z => Heap.get?_push_of_some _ z), turn_tuple a _, ⟨_, Heap.get?_push_size _ rfl, rfl, rfl⟩, fresh, q⟩
theorem eIter_bnd (f : PM Opd) : eIter f = bnd f fun o => bnd (frz o) fun d => lift (itemsOf d) := kept_bnd _ _
/-- a list or a tuple -/
theorem pix_seq {f : PM Opd} (h : PX X bo W e f) : PIX X bo W tg e (eIter f) := by
  obtain ⟨t, h1, h2⟩ := h
  refine ⟨_, pi_seq h1, fun c fp F env σ H R hc Rl g => ?_⟩
  rw [eIter_bnd] at g
  refine h2 c fp F env σ H _ hc Rl ((Goes.bnd g).mono (Ex.refl F) fun fp1 F1 env1 H1 o e1 R1 g1 v hv => ?_)
  obtain ⟨d, fp2, F2, env2, R2, e2, hd, g2⟩ := frz_ok R1 hv g1
  obtain ⟨ds, hds, g3⟩ := g2.lift
  cases d with
  | list ds' =>
    have hds' := Option.some.inj hds
    subst hds'
    simp only [Den] at hd
    obtain ⟨a, xs, rfl, k1, k2⟩ := hd
    have wk : Walk (Itl X.K a) ds'.length (fun H => SqL X.K H a xs) (YAt xs) := by rw [← dens_len k2]; exact walk_list
    refine ⟨a, rfl, .inl ⟨xs, .inl (.inl (R2.fh _ _ k1)), g3 fp2 F2 H1 R2 e2 _ _ _ wk fun c' => ⟨fun F3 H3 e3 e4 => .inl (.inl (e4 _ _ (e3 _ _ k1))), fun i fp F3 env σ H x H' hi R3 e3 y => ?_⟩⟩⟩
    obtain ⟨rfl, hy⟩ := y
    obtain ⟨d', hd', den⟩ := dens_get k2 hy
    exact ⟨F3, d', hd', R3, Ex.refl _, den_mono e3 _ _ den, Ex.refl _⟩
  | tuple ds' =>
    have hds' := Option.some.inj hds
    subst hds'
    simp only [Den] at hd
    obtain ⟨a, xs, rfl, k1, k2⟩ := hd
    have wk : Walk (Itt X.K a) ds'.length (fun H => SqT X.K H a xs) (YAt xs) := by rw [← dens_len k2]; exact walk_tup
    refine ⟨a, rfl, .inr ⟨xs, ex_t R2.fh k1, g3 fp2 F2 H1 R2 e2 _ _ _ wk fun c' => ⟨fun F3 H3 e3 e4 => ex_t e4 (ex_t e3 k1), fun i fp F3 env σ H x H' hi R3 e3 y => ?_⟩⟩⟩
    obtain ⟨rfl, hy⟩ := y
    obtain ⟨d', hd', den⟩ := dens_get k2 hy
    exact ⟨F3, d', hd', R3, Ex.refl _, den_mono e3 _ _ den, Ex.refl _⟩
  | _ => cases hds
/-- range(a), range(a, b) -/
def rangeD (lo : Int) (n : Nat) : List D := (List.range n).map fun i => .int (lo + (i : Nat))
theorem walk_rangeD {K : PySem.W.Frag} {c : Ct} {F' : Hp} {lo : Int} {n : Nat} : Steady K c F' (rangeD lo n) (fun _ => True) (YFn fun i => .int (lo + (i : Nat))) :=
  ⟨fun _ _ _ _ => trivial, fun i fp F env σ H x H' hi R e y => by
    obtain ⟨rfl, rfl⟩ := y
    have hi' : i < n := by simpa [rangeD] using hi
    exact ⟨F, .int (lo + i), by simp [rangeD, hi'], R, Ex.refl _, by simp only [Den], Ex.refl _⟩⟩
def inLine (i : Int) : Bool := decide (i.natAbs < 4611686018427387904)
theorem inLine_ok {i : Int} (h : inLine i = true) : -(2 ^ 62) ≤ i ∧ i < 2 ^ 62 := by
  have h' : i.natAbs < 4611686018427387904 := of_decide_eq_true h
  omega
def int1 : List D → Option Int
  | [.int i] => if inLine i = true then some i else none
  | _ => none
def int2 : List D → Option (Int × Int)
  | [.int i, .int j] => if inLine i = true ∧ inLine j = true then some (i, j) else none
  | _ => none
def eRng1 (fs : PM (List D)) : PM (List D) := bnd fs fun ds => bnd (lift (int1 ds)) fun j => ret (rangeD 0 j.toNat)
def eRng2 (fs : PM (List D)) : PM (List D) := bnd fs fun ds => bnd (lift (int2 ds)) fun j => ret (rangeD j.1 (j.2 - j.1).toNat)
theorem pix_range1 {fs : PM (List D)} (hg : Gl X "range") (hm : X.mg "range" = none) (ha : PAF X bo W [a] fs) (hs : starEach [a] X.env = [(false, eval a X.env)] := by rfl) : PIX X bo W tg (.Call (.Name "range" p) [a] [] pos) (eRng1 fs) := by
  obtain ⟨t, h1, h2⟩ := ha
  refine ⟨_, pi_range1 hg hm h1 hs, fun c fp F env σ H R hc Rl g => ?_⟩
  refine h2 c fp F env σ H _ hc Rl ((Goes.bnd g).mono (Ex.refl F) fun fp1 F1 env1 H1 ds e1 R1 g1 vs hl hd => ?_)
  obtain ⟨j, hj, g2⟩ := goes_lift_bnd g1
  unfold int1 at hj
  split at hj
  · rename_i i
    split at hj
    · rename_i hb
      have hj' := Option.some.inj hj
      subst hj'
      simp only [Dens, Den] at hd
      obtain ⟨v, r, rfl, rfl, rfl⟩ := hd
      have hn : (rangeD 0 i.toNat).length = i.toNat := by simp [rangeD]
      exact ⟨i, rfl, (inLine_ok hb).1, (inLine_ok hb).2, g2 fp1 F1 H1 R1 (Ex.refl F1) _ _ _ (by rw [hn]; exact walk_range) fun c' => walk_rangeD⟩
    · cases hj
  · cases hj
theorem pix_range2 {fs : PM (List D)} (hg : Gl X "range") (hm : X.mg "range" = none) (ha : PAF X bo W [a, b] fs) (hs : starEach [a, b] X.env = [(false, eval a X.env), (false, eval b X.env)] := by rfl) (hs2 : starEach [b] X.env = [(false, eval b X.env)] := by rfl) : PIX X bo W tg (.Call (.Name "range" p) [a, b] [] pos) (eRng2 fs) := by
  obtain ⟨t, h1, h2⟩ := ha
  refine ⟨_, pi_range2 hg hm h1 hs hs2, fun c fp F env σ H R hc Rl g => ?_⟩
  refine h2 c fp F env σ H _ hc Rl ((Goes.bnd g).mono (Ex.refl F) fun fp1 F1 env1 H1 ds e1 R1 g1 vs hl hd => ?_)
  obtain ⟨j, hj, g2⟩ := goes_lift_bnd g1
  unfold int2 at hj
  split at hj
  · rename_i i k
    split at hj
    · rename_i hb
      cases hj
      simp only [Dens, Den] at hd
      obtain ⟨v, r, rfl, rfl, v2, r2, rfl, rfl, rfl⟩ := hd
      have hn : (rangeD i (k - i).toNat).length = (k - i).toNat := by simp [rangeD]
      exact ⟨i, k, rfl, ⟨(inLine_ok hb.1).1, (inLine_ok hb.1).2, (inLine_ok hb.2).1, (inLine_ok hb.2).2⟩, g2 fp1 F1 H1 R1 (Ex.refl F1) _ _ _ (by rw [hn]; exact walk_range) fun c' => walk_rangeD⟩
    · cases hj
  · cases hj
/-! ### for -/
def goFor (s : D → PEnv → Option PEnv) (body : PM Out) : List D → PM Out
  | [] => fun env => .ok .next env
  | d :: ds => fun env => match s d env with
    | none => .bad
    | some env1 => match body env1 with
      | .ok .next e => goFor s body ds e
      | .ok .cont e => goFor s body ds e
      | .ok .brk e => .ok .next e
      | .ok (.ret o) e => .ok (.ret o) e
      | .exc x e => .exc x e
      | .bad => .bad
def sFor (it : PM (List D)) (s : D → PEnv → Option PEnv) (body : PM Out) : PM Out := bnd it (goFor s body)
theorem psx_for {js : List Nat} {body : List Stmt} {it : PM (List D)} {s : D → PEnv → Option PEnv} {g : PM Out} (hp : PassesOwn (model X.prog X.w) X.A X.env X.xe) (hcalm : X.calm = true) (hi : PIX X bo W tg e it) (hg : TGX X bo tg js s) (hb : PSsX X bo W body g)
    (hs : ∀ x, foldedSetIterable e X.env x = pure x := by intro _; rfl) : PSX X bo W (.For tg e body [] pos) (sFor it s g) := by
  obtain ⟨wi, i1, i2⟩ := hi
  obtain ⟨tg', g1, g2⟩ := hg
  obtain ⟨tb, b1, b2⟩ := hb
  refine ⟨_, ps_for hp hcalm i1 g1 b1 hs, fun c fp F env σ H D hc R gg => ?_⟩
  refine i2 c fp F env σ H _ hc R ((GoesS.bnd (σ := σ) gg).mono (Ex.refl F) fun fp1 F1 env1 H1 ds e1 R1 q1 J Gp Y wk st => ?_)
  obtain ⟨st1, st2⟩ := st c
  refine for_it wk (fun i σ H => ∃ fp F env, Rel X.K c fp F env σ H ∧ Ex F1 F ∧ GoesS X.K c W F (goFor s g (ds.drop i) env) D) ⟨fp1, F1, env1, R1, Ex.refl _, q1⟩ (fun i σ H _ ⟨fp, F, env, R, e, _⟩ => st1 F H e R.fh) (fun i x σ2 H2 H3 hi ⟨fp2, F2, env2, R2, e2, q2⟩ y => ?_) (fun σ2 H2 ⟨fp2, F2, env2, R2, e2, q2⟩ => ?_)
  · obtain ⟨F3, d, hd, R3, e3, den, _⟩ := st2 i fp2 F2 env2 σ2 H2 x H3 hi R2 e2 y
    have hdr : ds.drop i = d :: ds.drop (i + 1) := by
      have hlt : i < ds.length := hi
      rw [List.drop_eq_getElem_cons hlt]
      rw [List.getElem?_eq_getElem hlt] at hd
      cases hd
      rfl
    rw [hdr] at q2
    cases es : s d env2 with
    | none => simp only [goFor, es] at q2; exact q2.elim
    | some env3 =>
      simp only [goFor, es] at q2
      refine g2 c fp2 F3 env2 σ2 H3 x d env3 _ hc R3 den es fun fp4 σ4 R4 _ => ?_
      refine b2 c fp4 F3 env3 σ4 H3 _ hc R4 ?_
      cases eb : g env3 with
      | bad => rw [eb] at q2; exact q2.elim
      | exc x e => rw [eb] at q2; exact GoesS.mono q2 e3
      | ok o e =>
        rw [eb] at q2
        intro fp5 F5 σ5 H5 R5 e5
        cases o with
        | next => exact ⟨fp5, F5, e, R5, (e2.trans e3).trans e5, GoesS.mono q2 (e3.trans e5)⟩
        | cont => exact ⟨fp5, F5, e, R5, (e2.trans e3).trans e5, GoesS.mono q2 (e3.trans e5)⟩
        | brk => exact q2 fp5 F5 σ5 H5 R5 (e3.trans e5)
        | ret o => exact q2 fp5 F5 σ5 H5 R5 (e3.trans e5)
  · rw [List.drop_length] at q2
    exact q2 fp2 F2 σ2 H2 R2 (Ex.refl _)
/-! ### while -/
def goWhile (c : PM Bool) (body : PM Out) : Nat → PM Out
  | 0 => fun _ => .bad
  | n + 1 => bnd c fun k => if k = true then (fun env => match body env with
      | .ok .next e => goWhile c body n e
      | .ok .cont e => goWhile c body n e
      | .ok .brk e => .ok .next e
      | .ok (.ret o) e => .ok (.ret o) e
      | .exc x e => .exc x e
      | .bad => .bad) else ret .next
theorem psx_while (n : Nat) {cc : Expr} {body : List Stmt} {f : PM Bool} {g : PM Out} (hp : PassesOwn (model X.prog X.w) X.A X.env X.xe) (hcc : PTX X bo W cc f) (hb : PSsX X bo W body g) : PSX X bo W (.While cc body [] pos) (goWhile f g n) := by
  obtain ⟨tc, c1, c2⟩ := hcc
  obtain ⟨tb, b1, b2⟩ := hb
  refine ⟨_, ps_while hp c1 b1, fun c fp F env σ H D hc R gg => ?_⟩
  refine ⟨fun m σ H => ∃ fp F env, Rel X.K c fp F env σ H ∧ GoesS X.K c W F (goWhile f g m env) D, ⟨n, fp, F, env, R, gg⟩, ?_⟩
  rintro m σ1 H1 ⟨fp1, F1, env1, R1, g1⟩
  cases m with
  | zero => exact g1.elim
  | succ m =>
    refine c2 c fp1 F1 env1 σ1 H1 _ hc R1 ((GoesS.bnd (σ := σ1) g1).mono (Ex.refl F1) fun fp2 F2 env2 H2 k e2 R2 g2 => ?_)
    cases k with
    | false =>
      simp only [Bool.false_eq_true, if_false] at g2 ⊢
      exact g2 fp2 F2 σ1 H2 R2 (Ex.refl _)
    | true =>
      simp only [if_true] at g2 ⊢
      refine ⟨fun σ H => ∃ fp F env, Rel X.K c fp F env σ H ∧ GoesS X.K c W F (goWhile f g m env) D, fun σ' H' w => ⟨m, Nat.lt_succ_self m, w⟩, ?_⟩
      refine b2 c fp2 F2 env2 σ1 H2 _ hc R2 ?_
      cases eb : g env2 with
      | bad => rw [eb] at g2; exact g2.elim
      | exc x e => rw [eb] at g2; exact g2
      | ok o e =>
        rw [eb] at g2
        intro fp5 F5 σ5 H5 R5 e5
        cases o with
        | next => exact ⟨fp5, F5, e, R5, GoesS.mono g2 e5⟩
        | cont => exact ⟨fp5, F5, e, R5, GoesS.mono g2 e5⟩
        | brk => exact g2 fp5 F5 σ5 H5 R5 e5
        | ret o => exact g2 fp5 F5 σ5 H5 R5 e5
end
end Pu

namespace Pu
open PySem PySem.Spec PyProof.Rows L2
def wipeE (env : PEnv) : List Nat → PEnv
  | [] => env
  | v :: vs => (wipeE env vs).set v none
def imOnly : Option (Option SV) → Option SV
  | some (some (.im d)) => some (.im d)
  | _ => none
def rst (env0 : PEnv) (env : PEnv) : List Nat → PEnv
  | [] => env
  | v :: vs => (rst env0 env vs).set v (imOnly env0[v]?)
theorem get_wipeE (env : PEnv) : ∀ (vs : List Nat) (j : Nat), (wipeE env vs)[j]? = if j ∈ vs then (if j < env.length then some none else none) else env[j]?
  | [], j => by simp [wipeE]
  | v :: vs, j => by
    unfold wipeE
    by_cases e : v = j
    · subst e
      rw [List.getElem?_set_self', get_wipeE env vs v]
      by_cases hl : v < env.length
      · by_cases hm : v ∈ vs
        · simp [hm, hl]
        · simp [hm, hl, List.getElem?_eq_getElem hl]
      · by_cases hm : v ∈ vs
        · simp [hm, hl]
        · simp [hm, hl, List.getElem?_eq_none (Nat.le_of_not_lt hl)]
    · rw [List.getElem?_set_ne e, get_wipeE env vs j]
      have : (j ∈ v :: vs) ↔ j ∈ vs := by simp [Ne.symm e]
      simp only [this]
theorem get_wipe (τ : L2.St) : ∀ (vs : List Nat) (j : Nat), (wipe τ vs)[j]? = if j ∈ vs then (if j < τ.length then some none else none) else τ[j]?
  | [], j => by simp [wipe]
  | v :: vs, j => by
    unfold wipe
    by_cases e : v = j
    · subst e
      rw [List.getElem?_set_self', get_wipe τ vs v]
      by_cases hl : v < τ.length
      · by_cases hm : v ∈ vs
        · simp [hm, hl]
        · simp [hm, hl, List.getElem?_eq_getElem hl]
      · by_cases hm : v ∈ vs
        · simp [hm, hl]
        · simp [hm, hl, List.getElem?_eq_none (Nat.le_of_not_lt hl)]
    · rw [List.getElem?_set_ne e, get_wipe τ vs j]
      have : (j ∈ v :: vs) ↔ j ∈ vs := by simp [Ne.symm e]
      simp only [this]
theorem get_rst (env0 env : PEnv) : ∀ (vs : List Nat) (j : Nat), (rst env0 env vs)[j]? = if j ∈ vs then (if j < env.length then some (imOnly env0[j]?) else none) else env[j]?
  | [], j => by simp [rst]
  | v :: vs, j => by
    unfold rst
    by_cases e : v = j
    · subst e
      rw [List.getElem?_set_self', get_rst env0 env vs v]
      by_cases hl : v < env.length
      · by_cases hm : v ∈ vs
        · simp [hm, hl]
        · simp [hm, hl, List.getElem?_eq_getElem hl]
      · by_cases hm : v ∈ vs
        · simp [hm, hl]
        · simp [hm, hl, List.getElem?_eq_none (Nat.le_of_not_lt hl)]
    · rw [List.getElem?_set_ne e, get_rst env0 env vs j]
      have : (j ∈ v :: vs) ↔ j ∈ vs := by simp [Ne.symm e]
      simp only [this]
theorem len_wipeE (env : PEnv) : ∀ vs : List Nat, (wipeE env vs).length = env.length
  | [] => rfl
  | v :: vs => by unfold wipeE; rw [List.length_set, len_wipeE env vs]
theorem len_rst (env0 env : PEnv) : ∀ vs : List Nat, (rst env0 env vs).length = env.length
  | [] => rfl
  | v :: vs => by unfold rst; rw [List.length_set, len_rst env0 env vs]
theorem wipe_wipe (σ : L2.St) (vs : List Nat) : wipe (wipe σ vs) vs = wipe σ vs := by
  apply List.ext_getElem?
  intro j
  rw [get_wipe, get_wipe]
  by_cases hj : j ∈ vs
  · simp [hj, wipe_length]
  · simp [hj]
section
variable {K : PySem.W.Frag} {c : Ct} {fp : Nat → List Addr} {F F' : Hp} {env env' : PEnv} {σ : L2.St} {H H' : Hp}
theorem Rel.patch (R : Rel K c fp F env σ H) {env2 : PEnv} {σ2 : L2.St} (vs : List Nat) (h0 : c.br ≠ none → 0 ∉ vs) (hl : env2.length = σ2.length) (off : ∀ i, i ∉ vs → env2[i]? = env[i]? ∧ σ2[i]? = σ[i]?)
    (on : ∀ i, i ∈ vs → ∀ o, env2[i]? = some (some o) → ∃ d v, o = .im d ∧ σ2[i]? = some (some v) ∧ Den K F d v) : Rel K c (fun i => if i ∈ vs then [] else fp i) F env2 σ2 H where
  f0 := R.f0
  sy := R.sy
  fh := R.fh
  kp := R.kp
  al := R.al
  nw := R.nw
  ln := hl
  sl := fun i o h => by
    by_cases hi : i ∈ vs
    · obtain ⟨d, v, rfl, h1, h2⟩ := on i hi o h
      exact ⟨v, h1, h2⟩
    · rw [(off i hi).1] at h
      rw [(off i hi).2, if_neg hi]
      exact R.sl i o h
  ow := fun i a h => by
    by_cases hi : i ∈ vs
    · rw [if_pos hi] at h; cases h
    · rw [if_neg hi] at h; exact R.ow i a h
  lf := fun i ds a h1 h2 => by
    by_cases hi : i ∈ vs
    · rw [if_pos hi] at h2; cases h2
    · rw [if_neg hi] at h2
      rw [(off i hi).1] at h1
      exact R.lf i ds a h1 h2
  ds := fun i j a h1 h2 => by
    by_cases hi : i ∈ vs
    · rw [if_pos hi] at h1; cases h1
    · by_cases hj : j ∈ vs
      · rw [if_pos hj] at h2; cases h2
      · rw [if_neg hi] at h1
        rw [if_neg hj] at h2
        exact R.ds i j a h1 h2
  bb := fun p hp => by
    have hn : 0 ∉ vs := h0 (by rw [hp]; simp)
    obtain ⟨h1, h2, h3⟩ := R.bb p hp
    exact ⟨by rw [(off 0 hn).2]; exact h1, by rw [if_neg hn]; exact h2, by rw [(off 0 hn).1]; exact h3⟩
theorem Rel.wiped (R : Rel K c fp F env σ H) (vs : List Nat) (h0 : c.br ≠ none → 0 ∉ vs) : Rel K c (fun i => if i ∈ vs then [] else fp i) F (wipeE env vs) (wipe σ vs) H := by
  refine R.patch vs h0 (by rw [len_wipeE, wipe_length]; exact R.ln) (fun i hi => ?_) (fun i hi o h => ?_)
  · rw [get_wipeE, get_wipe, if_neg hi, if_neg hi]
    exact ⟨rfl, rfl⟩
  · rw [get_wipeE, if_pos hi] at h
    split at h <;> cases h
theorem Rel.restored {fp0 : Nat → List Addr} {env0 : PEnv} {F0 H0 : Hp} (R0 : Rel K c fp0 F0 env0 σ H0) (e : Ex F0 F) (vs : List Nat) (h0 : c.br ≠ none → 0 ∉ vs) (R : Rel K c fp F env (wipe σ vs) H) : Rel K c (fun i => if i ∈ vs then [] else fp i) F (rst env0 env vs) σ H := by
  refine R.patch vs h0 (by rw [len_rst, R.ln, wipe_length]) (fun i hi => ?_) (fun i hi o h => ?_)
  · rw [get_rst, get_wipe, if_neg hi, if_neg hi]
    exact ⟨rfl, rfl⟩
  · rw [get_rst, if_pos hi] at h
    split at h
    · have h' := Option.some.inj h
      cases e0 : env0[i]? with
      | none => rw [e0] at h'; cases h'
      | some x =>
        cases x with
        | none => rw [e0] at h'; cases h'
        | some s =>
          cases s with
          | im d =>
            rw [e0] at h'
            cases h'
            obtain ⟨v, h1, h2⟩ := R0.sl i _ e0
            exact ⟨d, v, rfl, h1, den_mono e _ _ h2⟩
          | ls ds => rw [e0] at h'; cases h'
          | ab t => rw [e0] at h'; cases h'
    · cases h
end
/-- an object that is neither frozen nor owned is changed -/
theorem Rel.over {K : PySem.W.Frag} {c : Ct} {fp : Nat → List Addr} {F : Hp} {env : PEnv} {σ : L2.St} {H : Hp} {q : Addr} {o u : HO} (R : Rel K c fp F env σ H) (h1 : H q = some o) (h2 : F q = none) (h3 : ∀ i, q ∉ fp i) (n2c : c.H0 q = none) : Rel K c fp F env σ (upd H q u) where
  f0 := R.f0
  sy := R.sy
  fh := fun a x z => by rw [upd_ne (ne_of_none z h2)]; exact R.fh a x z
  kp := fun a x z1 z2 => by rw [upd_ne (ne_of_none z1 n2c)]; exact R.kp a x z1 z2
  al := fun a z => by
    by_cases e : a = q
    · rw [e, upd_same]; simp
    · rw [upd_ne e]; exact R.al a z
  nw := R.nw
  ln := R.ln
  sl := fun i x z => by
    obtain ⟨v, z1, z2⟩ := R.sl i x z
    exact ⟨v, z1, sl_keep (Ex.refl F) (fun a y ha hy => by
      have ne : a ≠ q := fun e => by subst e; exact h3 i ha
      rw [upd_ne ne]; exact hy) z2⟩
  ow := fun i a z => by
    obtain ⟨z1, z2, z3⟩ := R.ow i a z
    refine ⟨z1, ?_, z3⟩
    have ne : a ≠ q := fun e => by subst e; exact h3 i z
    rw [upd_ne ne]
    exact z2
  lf := R.lf
  ds := R.ds
  bb := R.bb
def W0 : WX := fun _ _ _ _ => False
def goLc (vs : List Nat) (s : D → PEnv → Option PEnv) (t : PM Bool) (f : PM Opd) : List D → List D → PM (List D)
  | [], acc => fun env => .ok acc env
  | d :: ds, acc => fun env => match s d env with
    | none => .bad
    | some env1 => match t env1 with
      | .ok true env2 => match kept f env2 with
        | .ok y env3 => if acc.length < bigLine then goLc vs s t f ds (acc ++ [y]) (wipeE env3 vs) else .bad
        | _ => .bad
      | .ok false env2 => goLc vs s t f ds acc (wipeE env2 vs)
      | _ => .bad
def eLc (it : PM (List D)) (vs : List Nat) (s : D → PEnv → Option PEnv) (t : PM Bool) (f : PM Opd) : PM Opd := bnd it fun ds env => match goLc vs s t f ds [] (wipeE env vs) with
  | .ok acc env' => .ok (.tmp acc) (rst env env' vs)
  | _ => .bad
def GL (r : Res (List D)) (Fin : List D → PEnv → Prop) : Prop := match r with
  | .ok acc env' => Fin acc env'
  | _ => False
def PTsX (X : Cx) (bo : Bool) (W : WX) (ifs : List Expr) (f : PM Bool) : Prop :=
  ∃ t, PTs X ifs t ∧ ∀ c fp F env σ H (Q : Bool → Hp → Prop), OkC c bo → Rel X.K c fp F env σ H →
    Goes X.K c W σ F (f env) (fun fp' F' env' H' b => Q b H') → t σ H Q
section
variable {X : Cx} {bo : Bool} {W : WX} {tg elt iter e : Expr} {ifs : List Expr} {pos : Pos}
theorem ptsx_nil : PTsX X bo W [] (ret true) := ⟨_, pts_nil, fun c fp F env σ H Q hc R g => g fp F H R (Ex.refl F)⟩
theorem ptsx_one {f : PM Bool} (h : PTX X bo W e f) : PTsX X bo W [e] f := by
  obtain ⟨t, h1, h2⟩ := h
  exact ⟨_, pts_one h1, h2⟩
theorem ptsx_sem {f : PM Bool} (h : PTsX X bo W ifs f) : PTs X ifs (semT X.K bo W f) := by
  obtain ⟨t, h1, h2⟩ := h
  exact ⟨fun pins s σ H Q I ⟨c, fp, F, env, hc, R, g⟩ => h1.run pins s σ H Q I (h2 c fp F env σ H Q hc R g)⟩
theorem rd_lc {K : PySem.W.Frag} {c : Ct} {σ : L2.St} {F1 H1 : Hp} {fp1 : Nat → List Addr} {env1 : PEnv} {js vs : List Nat} {s : D → PEnv → Option PEnv} {t : PM Bool} {f : PM Opd} {ds : List D} {J : It} {Gp : Hp → Prop} {Y : Nat → Hp → V → Hp → Prop} {Q : VK}
    (hc : OkC c bo) (hb0 : bo = true → 0 ∉ vs) (hjs : ∀ j ∈ js, j ∈ vs) (R1 : Rel K c fp1 F1 env1 σ H1) (wk : Walk J ds.length Gp Y) (st : ∀ c, Steady K c F1 ds Gp Y)
    (q : GL (goLc vs s t f ds [] (wipeE env1 vs)) fun acc env' => ∀ fp' F' H' v, Rel K c fp' F' (rst env1 env' vs) σ H' → Ex F1 F' → OpdOk K c fp' F' σ H' (.tmp acc) v → Q v H') (Dd : Addr) (hD : H1 Dd = none) :
    ∃ W : Nat → Nat → Hp → Prop, (∃ m, W 0 m (upd H1 Dd (.lst []))) ∧ ∀ i m H, W i m H →
      (J.stop i H ∧ Q (.ref Dd) H) ∨ (J.go i H ∧ ∃ Nx : Hp → Prop, (∀ H', Nx H' → ∃ m', m' < m ∧ W (i + 1) m' H') ∧ ∀ x H', J.yld i H x H' → semG K bo js s x (wipe σ vs) H' fun σ2 H2 => wipe σ2 vs = wipe σ vs ∧ semT K bo W0 t σ2 H2 fun b H3 =>
        if b = true then semE K bo W0 f σ2 H3 fun y H4 => ∃ acc, H4 Dd = some (.lst acc) ∧ acc.length < sizeLine ∧ Nx (upd H4 Dd (.lst (acc ++ [y]))) else Nx H3) := by
  have h0 : c.br ≠ none → 0 ∉ vs := fun z => hb0 (hc z)
  obtain ⟨n1, n2, n3⟩ := R1.free hD
  refine lc_it wk (fun i H => ∃ fp F env acc xs, Rel K c fp F env (wipe σ vs) H ∧ Ex F1 F ∧ H Dd = some (.lst xs) ∧ F Dd = none ∧ (∀ i, Dd ∉ fp i) ∧ Dens K F acc xs ∧
    GL (goLc vs s t f (ds.drop i) acc env) fun acc env' => ∀ fp' F' H' v, Rel K c fp' F' (rst env1 env' vs) σ H' → Ex F1 F' → OpdOk K c fp' F' σ H' (.tmp acc) v → Q v H')
    ⟨_, F1, _, [], [], (R1.newH hD).wiped vs h0, Ex.refl _, upd_same, n1, fun i hi => ?_, rfl, q⟩ (fun i H _ ⟨fp, F, env, acc, xs, R, e, _⟩ => (st c).1 F H e R.fh) (fun i x H2 H3 hi ⟨fp, F, env, acc, xs, R, e, d1, d2, d3, d4, g⟩ y => ?_) (fun H2 ⟨fp, F, env, acc, xs, R, e, d1, d2, d3, d4, g⟩ => ?_)
  · split at hi
    · cases hi
    · exact n3 i hi
  · -- a turn
    obtain ⟨F3, d, hd, R3, e3, den, eh⟩ := (st (c.sub fp F H2)).2 i fp F env (wipe σ vs) H2 x H3 hi R.into e y
    have hdr : ds.drop i = d :: ds.drop (i + 1) := by
      have hlt : i < ds.length := hi
      rw [List.drop_eq_getElem_cons hlt]
      rw [List.getElem?_eq_getElem hlt] at hd
      cases hd
      rfl
    rw [hdr] at g
    cases es : s d env with
    | none => simp only [goLc, es] at g; exact g.elim
    | some env2 =>
      simp only [goLc, es] at g
      have hc' : OkC (c.sub fp F H2) bo := hc
      refine ⟨c.sub fp F H2, fp, F3, env, d, env2, hc', R3, den, es, fun fp4 σ4 R4 k4 => ⟨(k4 vs hjs).trans (wipe_wipe σ vs), ?_⟩⟩
      refine ⟨c.sub fp F H2, fp4, F3, env2, hc', R4, ?_⟩
      cases et : t env2 with
      | bad => simp only [et] at g; exact g.elim
      | exc x' e' => simp only [et] at g; exact g.elim
      | ok b env3 =>
        simp only [et] at g
        intro fp5 F5 H5 R5 e5
        cases b with
        | false =>
          simp only [Bool.false_eq_true, if_false] at g ⊢
          obtain ⟨p1, p2, p3⟩ := R5.aside d1 d2 d3
          have R6 := (R.outof R5).wiped vs h0
          rw [k4 vs hjs, wipe_wipe] at R6
          refine ⟨_, F5, _, acc, xs, R6, (e.trans e3).trans e5, p1, p2, fun i hi => ?_, dens_mono (e3.trans e5) _ _ d4, g⟩
          split at hi
          · cases hi
          · exact p3 i hi
        | true =>
          simp only [if_true] at g ⊢
          refine ⟨c.sub fp F H2, fp5, F5, env3, hc', R5, ?_⟩
          cases ef : f env3 with
          | bad => simp only [kept, bnd, ef] at g; exact g.elim
          | exc x' e' => simp only [kept, bnd, ef] at g; exact g.elim
          | ok o env4 =>
            intro fp6 F6 H6 R6 e6 v hv
            obtain ⟨p1, p2, p3⟩ := R6.aside d1 d2 d3
            refine ⟨xs, p1, ?_, ?_⟩
            · cases ek : kept f env3 with
              | ok y e' =>
                simp only [ek] at g
                split at g
                · rename_i hl
                  rw [dens_len d4]
                  exact Nat.lt_trans hl big_line
                · exact g.elim
              | exc _ _ => simp only [ek] at g; exact g.elim
              | bad => simp only [ek] at g; exact g.elim
            · have gk : Goes K (c.sub fp F H2) W0 σ4 F6 (bnd (frz o) (fun y => fun e' => if acc.length < bigLine then .ok (y, e') e' else .bad) env4) (fun fp' F' env' H' r =>
                GL (goLc vs s t f (ds.drop (i + 1)) (acc ++ [r.1]) (wipeE r.2 vs)) fun acc env' => ∀ fp' F' H' v, Rel K c fp' F' (rst env1 env' vs) σ H' → Ex F1 F' → OpdOk K c fp' F' σ H' (.tmp acc) v → Q v H') := by
                unfold kept bnd at g
                rw [ef] at g
                unfold bnd
                cases ez : frz o env4 with
                | bad => simp only [ez] at g; exact g.elim
                | exc _ _ => simp only [ez] at g; exact g.elim
                | ok y e' =>
                  simp only [ez] at g ⊢
                  split at g
                  · rename_i hl
                    rw [if_pos hl]
                    exact fun _ _ _ _ _ => g
                  · exact g.elim
              obtain ⟨y, fp7, F7, env7, R7, e7, den7, g7⟩ := frz_ok R6 hv gk
              obtain ⟨q1, q2, q3⟩ := R7.aside d1 d2 d3
              split at g7
              · have g8 := g7 fp7 F7 H6 R7 e7
                -- the list has grown
                have Rz := (R.outof R7).wiped vs h0
                rw [k4 vs hjs, wipe_wipe] at Rz
                have ef7 : Ex F F7 := (e3.trans (e5.trans e6)).trans e7
                have ne1 : ∀ q u, F7 q = some u → q ≠ Dd := fun q u z => ne_of_none z q2
                refine ⟨_, F7, _, acc ++ [y], xs ++ [v], Rel.over Rz q1 q2 (fun i hi => ?_) (n2c := ?_), e.trans ef7, upd_same, q2, fun i hi => ?_, dens_app (dens_mono ef7 _ _ d4) (dens_one den7), g8⟩
                · split at hi
                  · cases hi
                  · exact q3 i hi
                · exact n2
                · split at hi
                  · cases hi
                  · exact q3 i hi
              · exact g7.elim
  · -- the end
    rw [List.drop_length] at g
    have R2 := Rel.restored R1 e vs h0 R
    refine g _ F H2 _ R2 e ⟨Dd, xs, rfl, d1, d2, n2, fun i hi => ?_, d4⟩
    have hi : Dd ∈ (if i ∈ vs then [] else fp i) := hi
    split at hi
    · cases hi
    · exact d3 i hi
theorem px_lc {scope : Scope} {own : List (Str × Nat)} {js : List Nat} {it : PM (List D)} {s : D → PEnv → Option PEnv} {t : PM Bool} {f : PM Opd} (hcalm : X.calm = true) (hN : X.N.Nodup) (hi : PIX X bo W tg iter it) (ok : BlkOk X.N X.env.scope scope own)
    (hg : ∀ (s₀ : Shared) (H : Hp) (C : Addr) (cl : List (Str × Addr)) (fp : List Addr), TGX (X.blk s₀ H scope (compEnvC scope cl C X.env) fp) bo tg js s) (ht : ∀ (s₀ : Shared) (H : Hp) (C : Addr) (cl : List (Str × Addr)) (fp : List Addr), PTsX (X.blk s₀ H scope (compEnvC scope cl C X.env) fp) bo W0 ifs t)
    (he : ∀ (s₀ : Shared) (H : Hp) (C : Addr) (cl : List (Str × Addr)) (fp : List Addr), PX (X.blk s₀ H scope (compEnvC scope cl C X.env) fp) bo W0 elt f) (hb0 : bo = true → 0 ∉ own.map (·.2)) (hjs : ∀ j ∈ js, j ∈ own.map (·.2))
    (hs : ∀ x, foldedSetIterable iter X.env x = pure x := by intro _; rfl) : PX X bo W (.ListComp elt [⟨tg, iter, ifs, 0⟩] scope pos) (eLc it (own.map (·.2)) s t f) := by
  obtain ⟨wi, i1, i2⟩ := hi
  refine ⟨_, pe_lc (g := semG X.K bo js s) (tt := semT X.K bo W0 t) (te := semE X.K bo W0 f) hcalm hN i1 ok (fun s₀ H C cl fp => tgx_sem (hg s₀ H C cl fp)) (fun s₀ H C cl fp => ptsx_sem (ht s₀ H C cl fp)) (fun s₀ H C cl fp => px_sem (he s₀ H C cl fp)) hs, fun c fp F env σ H Q hc R g => ?_⟩
  refine i2 c fp F env σ H _ hc R ((Goes.bnd g).mono (Ex.refl F) fun fp1 F1 env1 H1 ds e1 R1 g1 J Gp Y wk st Dd hD => ?_)
  refine rd_lc hc hb0 hjs R1 wk st ?_ Dd hD
  cases er : goLc (own.map (·.2)) s t f ds [] (wipeE env1 (own.map (·.2))) with
  | bad => simp only [er] at g1; exact g1.elim
  | exc x e => simp only [er] at g1; exact g1.elim
  | ok acc env' =>
    simp only [er] at g1
    exact fun fp' F' H' v R' e' hv => g1 fp' F' H' R' e' v hv
/-- name = [..] on one line -/
theorem psx_setLc {scope : Scope} {own : List (Str × Nat)} {js : List Nat} {it : PM (List D)} {s : D → PEnv → Option PEnv} {t : PM Bool} {f : PM Opd} {i : Nat} {y : Str} {py spos : Pos} (hcalm : X.calm = true) (hN : X.N.Nodup) (hi : PIX X bo W tg iter it) (ok : BlkOk X.N X.env.scope scope own)
    (hg : ∀ (s₀ : Shared) (H : Hp) (C : Addr) (cl : List (Str × Addr)) (fp : List Addr), TGX (X.blk s₀ H scope (compEnvC scope cl C X.env) fp) bo tg js s) (ht : ∀ (s₀ : Shared) (H : Hp) (C : Addr) (cl : List (Str × Addr)) (fp : List Addr), PTsX (X.blk s₀ H scope (compEnvC scope cl C X.env) fp) bo W0 ifs t)
    (he : ∀ (s₀ : Shared) (H : Hp) (C : Addr) (cl : List (Str × Addr)) (fp : List Addr), PX (X.blk s₀ H scope (compEnvC scope cl C X.env) fp) bo W0 elt f) (hb0 : bo = true → 0 ∉ own.map (·.2)) (hjs : ∀ j ∈ js, j ∈ own.map (·.2))
    (hy : X.N[i]? = some y) (hyl : X.env.scope.names.lookup y = some .local) (hb : (bo && i == 0) = false)
    (hsw : swapsWith (.ListComp elt [⟨tg, iter, ifs, 0⟩] scope pos) (some (.Name y py)) spos.line X.env = pure true)
    (hs : ∀ x, foldedSetIterable iter X.env x = pure x := by intro _; rfl) : PSX X bo W (.Assign [.Name y py] (.ListComp elt [⟨tg, iter, ifs, 0⟩] scope pos) spos) (sSet i (eLc it (own.map (·.2)) s t f)) := by
  obtain ⟨wi, i1, i2⟩ := hi
  refine ⟨_, ps_setLc (g := semG X.K bo js s) (tt := semT X.K bo W0 t) (te := semE X.K bo W0 f) hcalm hN hy hyl hsw i1 ok (fun s₀ H C cl fp => tgx_sem (hg s₀ H C cl fp)) (fun s₀ H C cl fp => ptsx_sem (ht s₀ H C cl fp)) (fun s₀ H C cl fp => px_sem (he s₀ H C cl fp)) hs, fun c fp F env σ H D hc R g => ?_⟩
  have hi0 : c.br ≠ none → i ≠ 0 := fun z w => by
    rw [hc z, w] at hb
    cases hb
  have g0 := GoesS.bnd (σ := σ) g
  refine i2 c fp F env σ H _ hc R ((Goes.bnd g0).mono (Ex.refl F) fun fp1 F1 env1 H1 ds e1 R1 g1 J Gp Y wk st Dd hD => ?_)
  refine rd_lc (Q := fun x H1 => gName i x σ H1 D.nx) hc hb0 hjs R1 wk st ?_ Dd hD
  cases er : goLc (own.map (·.2)) s t f ds [] (wipeE env1 (own.map (·.2))) with
  | bad => simp only [er] at g1; exact g1.elim
  | exc x e => simp only [er] at g1; exact g1.elim
  | ok acc env' =>
    simp only [er] at g1
    intro fp' F' H' v R' e' hv
    have g2 := g1 fp' F' H' R' e'
    obtain ⟨fp2, F2, env2, R2, e2, g3⟩ := asg_ok hi0 R' hv g2
    exact g3 fp2 F2 _ H' R2 (Ex.refl F2)
end
end Pu

namespace Pu
open PySem PySem.Spec PyProof.Rows L2
/-! ### what a def promises, where no repr is under way -/
structure FnG (P : Program) (w : World) (K : PySem.W.Frag) (mg : Str → Option Value) (base : Heap) (CX : CXT) (k : Nat) (f : Addr) (fd : FuncData) (ps : List Str) (sp : Sp) : Prop where
  len : ∀ vs H Q E, sp vs H Q E → vs.length = ps.length
  run : ∀ (A : Around) (outer : List Env) (s : Shared) (H : Hp) (args : Args) (us : List Value) (vs : List V) (Q : VK) (E : XK), Room k A → A.guards = some [] → Env0 P w K mg base A outer s H → BindsTo s fd args (ps.zip us) → Vals vs us →
    sp vs H Q E → codeAny (model P w) A (.call (.ref f) args) (CR CX outer P w H s Q E) s
section
variable {P : Program} {w : World} {K : PySem.W.Frag} {mg : Str → Option Value} {base : Heap} {CX : CXT} {j k : Nat} {f : Addr} {fd : FuncData} {ps N : List Str} {sp : Sp}
theorem FnG.mono (F : FnG P w K mg base CX j f fd ps sp) (h : j ≤ k) : FnG P w K mg base CX k f fd ps sp :=
  ⟨F.len, fun A outer s H args us vs Q E hr hg => F.run A outer s H args us vs Q E (hr.mono h) hg⟩
theorem FnOk.toG (F : FnOk P w K mg base CX k f fd ps sp) : FnG P w K mg base CX k f fd ps sp :=
  ⟨F.len, fun A outer s H args us vs Q E hr _ => F.run A outer s H args us vs Q E hr⟩
theorem guards_deeper {A : Around} {env : Env} : (A.deeper env).guards = A.guards := rfl
/-- a def by its body -/
theorem fng_of {x qual : Str} {st : Stmt} (F : Fun K x qual st f fd) (S : FnScope N ps (defScope st)) (len : ∀ vs H Q E, sp vs H Q E → vs.length = ps.length)
    (hbody : ∀ (cdv : Value) (A : Around) (outer : List Env) (s : Shared) (H : Hp) (vs : List V) (Q : VK) (E : XK), Room k (A.deeper (envOfC qual (defScope st) s.heap.objs.size f cdv)) → A.guards = some [] → sp vs H Q E →
      ∃ t, PSs (cxOf CX P w K mg base N qual (defScope st) f cdv A outer s H E) (defBody st) t ∧ t { nx := fun _ H' => Q .non H', rt := Q } (L2.start N vs) H) : FnG P w K mg base CX (k + 1) f fd ps sp := by
  obtain ⟨oc, od, kV, doc, pm, an, cdv, ct, osl, rfl, lk, hcd⟩ := F.ex
  refine ⟨len, ?_⟩
  intro A outer s H args us vs Q E hr hgu e0 hb r hsp
  have stays : ∀ b o, base.get? b = some o → s.heap.get? b = some o := fun b o z => (e0.bs b o z).1
  have hK : K.In s.heap := e0.mod.kin.keeps stays
  have hlim : s.heap.NoLimit := e0.mod.nolimit.keeps stays
  refine codeAny_call_function hr.depth (hK _ _ lk) rfl S.co S.gen rfl (PySem.W.codeRec_of hK hcd) (hb _ _ _ _ ?_)
  refine wpAny_newFunctionEnv_cells S.kind ?_ ?_
  · rintro ⟨n, v⟩ hy
    rcases S.par n (List.of_mem_zip hy).1 with q | q
    · exact Or.inl q
    · exact Or.inr ⟨q, PySem.W.cellsFrom_some _ _ _ (Or.inl q)⟩
  · rintro env he s1 x
    subst he
    obtain ⟨t, ht, hq⟩ := hbody cdv A outer s H vs Q E (hr.deeper _) hgu hsp
    have I := inv_start (CX := CX) (E := E) (qual := qual) (f := f) (cd := cdv) S hr.hd e0 (len _ _ _ _ hsp) r x
    refine ⟨hlim.keeps x.toInCall.keep, codeAny_func (wpAny_mono (ht.run [] s1 (L2.start N vs) H _ I hq) ?_ fun _ _ z => z)⟩
    intro fl s' hs
    cases fl with
    | ret u =>
      obtain ⟨v, σ', H', J, rv, q⟩ := hs
      exact ⟨v, H', J.os, J.bare, J.base, J.hok, rv, q⟩
    | next =>
      obtain ⟨σ', H', J, q⟩ := hs
      exact ⟨.non, H', J.os, J.bare, J.base, J.hok, rfl, q⟩
    | brk =>
      obtain ⟨_, _, _, z⟩ := hs
      exact z.elim
    | cont =>
      obtain ⟨_, _, _, z⟩ := hs
      exact z.elim
end
/-! ### promises over data -/
inductive FR where
  | ok (r : Opd)
  | exc (x : Exn)
  | bad
def RetOk (K : PySem.W.Frag) (F' H0 H' : Hp) : Opd → V → Prop
  | .val d, v => Den K F' d v
  | .tmp ds, v => ∃ p xs, v = .ref p ∧ H' p = some (.lst xs) ∧ F' p = none ∧ H0 p = none ∧ Dens K F' ds xs
  | .tab t, v => ∃ fT, AbAt H' t v fT ∧ ∀ a ∈ fT, F' a = none ∧ H0 a = none
  | .slot _, _ => False
def Grown (F H F' H' : Hp) : Prop := Ex F F' ∧ Ex F' H' ∧ ∀ q, F' q ≠ none → F q ≠ none ∨ H q = none
/-- a def of data -/
def SpA (K : PySem.W.Frag) (n : Nat) (S : List D → FR) : Sp := fun vs H Q E => ∃ F ds, Ex F H ∧ SyF F ∧ vs.length = n ∧ Dens K F ds vs ∧ match S ds with
  | .ok r => ∀ F' H' v, Grown F H F' H' → Ex H H' → RetOk K F' H H' r v → Q v H'
  | .exc x => ∀ F' H' d, Grown F H F' H' → Ex H H' → ExnOk K F' H' x d → E x.cls d H'
  | .bad => False
/-- a def whose first argument is handed in to be changed, the others data -/
def SpB (K : PySem.W.Frag) (n : Nat) (S : Ab → List D → FR × Ab) : Sp := fun vs H Q E => ∃ F t a bw vs' ds, vs = .ref a :: vs' ∧ vs'.length = n ∧ Ex F H ∧ SyF F ∧ AbAt H t (.ref a) bw ∧ (∀ q ∈ bw, F q = none) ∧ Dens K F ds vs' ∧ match S t ds with
  | (.ok r, t') => ∀ F' H' v, Grown F H F' H' → (∀ q o, H q = some o → q ∉ bw → H' q = some o) → (∀ q ∈ bw, F' q = none) → AbAt H' t' (.ref a) bw → RetOk K F' H H' r v → Q v H'
  | (.exc x, t') => ∀ F' H' d, Grown F H F' H' → (∀ q o, H q = some o → q ∉ bw → H' q = some o) → (∀ q ∈ bw, F' q = none) → AbAt H' t' (.ref a) bw → ExnOk K F' H' x d → E x.cls d H'
  | (.bad, _) => False
/-! ### calls -/
section
variable {X : Cx} {bo : Bool} {W : WX} {e : Expr} {es : List Expr} {pos p : Pos} {x : Str} {CX : CXT} {k n : Nat} {f : Addr} {fd : FuncData} {ps : List Str} {sp : Sp}
theorem run_g {pins : List (Addr × Obj)} {σ : L2.St} {H : Hp} {s : Shared} {Q : VK} {us : List Value} {kw : List (Str × Value)} {vs : List V} {E : XK} {zs : List Value} (F : FnG X.prog X.w X.K X.mg X.base CX k f fd ps sp) (hr : Room k X.A) (hgu : X.A.guards = some []) (hb : BindsTo s fd ⟨us, kw⟩ (ps.zip zs)) (hx : PassesAt CX X σ E)
    (I : Inv X pins σ H s) (r : Vals vs zs) (h : sp vs H Q E) : wpAny (model X.prog X.w) X.A (call (.ref f) us kw) (EP X pins σ Q) X.xe s := by
  refine wpAny_call (codeAny_mono (F.run X.A X.stack s H ⟨us, kw⟩ zs vs Q E hr hgu I.env0 hb r h) ?_)
  intro r s' hq
  cases r with
  | error e => exact hx pins H s e s' I hq
  | ok fl =>
    cases fl with
    | ret u => exact I.after hq
    | next => exact hq.elim
    | brk => exact hq.elim
    | cont => exact hq.elim
theorem pe_g (F : FnG X.prog X.w X.K X.mg X.base CX k f fd ps sp) (hr : Room k X.A) (hgu : X.A.guards = some []) (hg : Gl X x) (hm : X.mg x = some (.ref f)) (hk : PySem.W.keepIn X.K (.ref f) = true) (hb : Binds X.K fd ps []) (hx : ∀ σ, PassesAt CX X σ (WE W σ)) {t : TA}
    (ha : PA X (e :: es) t) (hdb : (x == ("__debug__" : Str)) = false := by decide) (he : starEach (e :: es) X.env = (false, eval e X.env) :: starEach es X.env := by rfl) (hpl : (backTo pos (starEach es X.env)).any (·.1) = false := by rfl) :
    PE X (.Call (.Name x p) (e :: es) [] pos) (tCallS sp (WE W) t) := by
  constructor
  intro pins s σ H Q I h
  refine wpAny_Call_Name_kw (ld_glob I hg hm ?_ hdb)
  refine PySem.W.callWith_K (h₀ := X.base) I.ok.mod.kin hk (thn (ha.run pos pins s σ H _ I h) ?_) he hpl
  rintro us s1 ⟨vs, H1, I1, r, q⟩
  refine ⟨I1.kIn, ?_⟩
  have hl : us.length = ps.length := by rw [← r.length]; exact F.len _ _ _ _ q
  have b := hb s1 us I1.kIn (by simpa using hl)
  rw [List.append_nil] at b
  exact run_g F hr hgu b (hx σ) I1 r q
def frOf : FR → PM Opd
  | .ok r => ret r
  | .exc x => fun env => .exc x env
  | .bad => oops
def eCallA (S : List D → FR) (fs : PM (List D)) : PM Opd := bnd fs fun ds => frOf (S ds)
theorem ret_opd {K : PySem.W.Frag} {c : Ct} {fp : Nat → List Addr} {F F' H H' : Hp} {env : PEnv} {σ : L2.St} {o : Opd} {v : V} (R : Rel K c fp F env σ H) (h : RetOk K F' H H' o v) : OpdOk K c fp F' σ H' o v := by
  cases o with
  | val d => exact h
  | slot i => exact h.elim
  | tmp ds =>
    obtain ⟨p, xs, h1, h2, h3, h4, h5⟩ := h
    obtain ⟨_, n2, n3⟩ := R.free h4
    exact ⟨p, xs, h1, h2, h3, n2, n3, h5⟩
  | tab t =>
    obtain ⟨fT, h1, h2⟩ := h
    refine ⟨fT, h1, fun a ha => ?_⟩
    obtain ⟨z1, z2⟩ := h2 a ha
    obtain ⟨_, n2, n3⟩ := R.free z2
    exact ⟨z1, n2, n3⟩
theorem rd_callA {S : List D → FR} {c : Ct} {fp : Nat → List Addr} {F H : Hp} {env : PEnv} {σ : L2.St} {ds : List D} {vs : List V} {Q : VK} (R : Rel X.K c fp F env σ H) (hl : vs.length = n) (hd : Dens X.K F ds vs)
    (g : Goes X.K c W σ F (frOf (S ds) env) (fun fp' F' env' H' o => ∀ v, OpdOk X.K c fp' F' σ H' o v → Q v H')) : SpA X.K n S vs H Q (WE W σ) := by
  refine ⟨F, ds, R.fh, R.sy, hl, hd, ?_⟩
  have grow : ∀ {F' H' : Hp}, Grown F H F' H' → Ex H H' → Rel X.K c fp F' env σ H' := fun {F' H'} ⟨e1, e2, e3⟩ e4 => R.grow e1 e2 e4 fun q hq => (e3 q hq).imp id fun z => ⟨(R.free z).2.1, (R.free z).2.2⟩
  cases es : S ds with
  | bad => rw [es] at g; exact g.elim
  | ok r =>
    rw [es] at g
    intro F' H' v gr e4 hr
    exact g fp F' H' (grow gr e4) gr.1 v (ret_opd R hr)
  | exc x =>
    rw [es] at g
    intro F' H' d gr e4 hx
    exact g fp F' H' d (grow gr e4) gr.1 hx
theorem px_callA {S : List D → FR} {fs : PM (List D)} (F : FnG X.prog X.w X.K X.mg X.base CX k f fd ps (SpA X.K n S)) (hr : Room k X.A) (hgu : X.A.guards = some []) (hm : X.mg x = some (.ref f)) (hk : PySem.W.keepIn X.K (.ref f) = true) (hb : Binds X.K fd ps []) (hx : ∀ σ, PassesAt CX X σ (WE W σ))
    (ha : PAF X bo W (e :: es) fs) (hg : Gl X x := by rfl) (hn : (e :: es).length = n := by rfl) (hdb : (x == ("__debug__" : Str)) = false := by decide) (he : starEach (e :: es) X.env = (false, eval e X.env) :: starEach es X.env := by rfl) (hpl : (backTo pos (starEach es X.env)).any (·.1) = false := by rfl) :
    PX X bo W (.Call (.Name x p) (e :: es) [] pos) (eCallA S fs) := by
  obtain ⟨t, h1, h2⟩ := ha
  refine ⟨_, pe_g F hr hgu hg hm hk hb hx h1 hdb he hpl, fun c fp F0 env σ H Q hc R g => ?_⟩
  exact h2 c fp F0 env σ H _ hc R ((Goes.bnd g).mono (Ex.refl F0) fun fp1 F1 env1 H1 ds e1 R1 g1 vs hl hd => rd_callA R1 (hl.trans hn) hd g1)
def abAtE (i : Nat) : PM Ab := fun env => match env[i]? with
  | some (some (.ab t)) => .ok t env
  | _ => .bad
def frB (i : Nat) : FR × Ab → PM Opd
  | (.ok r, t) => bnd (putS i (.ab t)) fun _ => ret r
  | (.exc x, t) => bnd (putS i (.ab t)) fun _ env => .exc x env
  | (.bad, _) => oops
def eCallB (i : Nat) (S : Ab → List D → FR × Ab) (fs : PM (List D)) : PM Opd := bnd (abAtE i) fun _ => bnd fs fun ds => bnd (abAtE i) fun t => frB i (S t ds)
theorem abAt_ok {K : PySem.W.Frag} {c : Ct} {fp : Nat → List Addr} {F F0 : Hp} {env : PEnv} {σ : L2.St} {H : Hp} {i : Nat} {β : Type} {kk : Ab → PM β} {G : (Nat → List Addr) → Hp → PEnv → Hp → β → Prop} (R : Rel K c fp F env σ H) (g : Goes K c W σ F0 (bnd (abAtE i) kk env) G) :
    ∃ t v, env[i]? = some (some (.ab t)) ∧ σ[i]? = some (some v) ∧ AbAt H t v (fp i) ∧ Goes K c W σ F0 (kk t env) G := by
  cases e : env[i]? with
  | none => simp only [bnd, abAtE, e] at g; exact g.elim
  | some s =>
    cases s with
    | none => simp only [bnd, abAtE, e] at g; exact g.elim
    | some s =>
      cases s with
      | im d => simp only [bnd, abAtE, e] at g; exact g.elim
      | ls t => simp only [bnd, abAtE, e] at g; exact g.elim
      | ab t =>
        simp only [bnd, abAtE, e] at g
        obtain ⟨v, h1, h2⟩ := R.sl i _ e
        exact ⟨t, v, rfl, h1, h2, g⟩
theorem abAt_ref {H : Hp} {t : Ab} {v : V} {fp : List Addr} (h : AbAt H t v fp) : ∃ a, v = .ref a := by
  cases t with
  | deck k1 k2 far st =>
    obtain ⟨a, b, h1, _⟩ := h
    exact ⟨a, h1⟩
theorem px_callB {S : Ab → List D → FR × Ab} {fs : PM (List D)} {i : Nat} {x0 : Str} {p0 : Pos} (F : FnG X.prog X.w X.K X.mg X.base CX k f fd ps (SpB X.K n S)) (hr : Room k X.A) (hgu : X.A.guards = some []) (hm : X.mg x = some (.ref f)) (hk : PySem.W.keepIn X.K (.ref f) = true) (hb : Binds X.K fd ps []) (hx : ∀ σ, PassesAt CX X σ (WE W σ))
    (ha : PAF X bo W es fs) (hN : X.N[i]? = some x0 := by rfl) (hv : Vis X.env.scope x0 := by first | exact Or.inl rfl | exact Or.inr (Or.inl rfl) | exact Or.inr (Or.inr rfl)) (hg : Gl X x := by rfl) (hn : es.length = n := by rfl) (hdb : (x == ("__debug__" : Str)) = false := by decide)
    (hd0 : (x0 == ("__debug__" : Str)) = false := by decide) (hcd0 : (x0 == ("__classdict__" : Str)) = false := by decide)
    (he : starEach (.Name x0 p0 :: es) X.env = (false, eval (.Name x0 p0) X.env) :: starEach es X.env := by rfl) (hpl : (backTo pos (starEach es X.env)).any (·.1) = false := by rfl) :
    PX X bo W (.Call (.Name x p) (.Name x0 p0 :: es) [] pos) (eCallB i S fs) := by
  obtain ⟨t, h1, h2⟩ := ha
  refine ⟨_, pe_g F hr hgu hg hm hk hb hx (pa_cons (pe_var hN hv hd0 hcd0) h1 he) hdb he hpl, fun c fp F0 env σ H Q hc R g => ?_⟩
  obtain ⟨t0, v0, k1, k2, k3, g1⟩ := abAt_ok R g
  obtain ⟨a, rfl⟩ := abAt_ref k3
  refine ⟨.ref a, k2, ?_⟩
  refine h2 c fp F0 env σ H _ hc R ((Goes.bnd g1).mono (Ex.refl F0) fun fp1 F1 env1 H1 ds e1 R1 g2 vs hl hd => ?_)
  obtain ⟨t1, v1, q1, q2, q3, g3⟩ := abAt_ok R1 g2
  rw [k2] at q2
  cases q2
  refine ⟨F1, t1, a, fp1 i, vs, ds, rfl, hl.trans hn, R1.fh, R1.sy, q3, fun q hq => (R1.ow i q hq).1, hd, ?_⟩
  have mutd : ∀ {F' H' : Hp} {t' : Ab}, Grown F1 H1 F' H' → (∀ q o, H1 q = some o → q ∉ fp1 i → H' q = some o) → (∀ q ∈ fp1 i, F' q = none) → AbAt H' t' (.ref a) (fp1 i) → Rel X.K c fp1 F' (env1.set i (some (.ab t'))) σ H' := by
    intro F' H' t' ⟨e2, e3, e4⟩ kk nn ab
    refine R1.mutate q1 k2 e2 e3 (fun q u hq z => kk q u z hq) (fun q hq => ?_) (fun q hq => ?_) ab (fun _ => ⟨t', rfl⟩) (fun ⟨l, z⟩ => nomatch z)
    · by_cases hm' : q ∈ fp1 i
      · exact abAt_in ab q hm'
      · cases z : H1 q with
        | none => exact absurd z hq
        | some o => rw [kk q o z hm']; simp
    · exact (e4 q hq).imp id fun z => ⟨(R1.free z).2.1, (R1.free z).2.2⟩
  cases eS : S t1 ds with
  | mk r t' =>
    rw [eS] at g3
    cases r with
    | bad => exact g3.elim
    | ok r =>
      intro F' H' v gr kk nn ab hr'
      refine g3 fp1 F' H' (mutd gr kk nn ab) gr.1 v (ret_opd R1 hr')
    | exc x =>
      intro F' H' d gr kk nn ab hx'
      exact g3 fp1 F' H' d (mutd gr kk nn ab) gr.1 hx'
/-! ### from a body to the promise -/
def envOf (N : Nat) (l : List SV) : PEnv := l.map some ++ List.replicate (N - l.length) none
def finR (bo : Bool) (o : Opd) (env : PEnv) : FR := match o with
  | .val d => .ok (.val d)
  | .tmp ds => .ok (.tmp ds)
  | .tab t => .ok (.tab t)
  | .slot i => match env[i]? with
    | some (some (.im d)) => .ok (.val d)
    | some (some (.ls ds)) => .ok (.tmp ds)
    | some (some (.ab t)) => if (bo && i == 0) = true then .bad else .ok (.tab t)
    | _ => .bad
def runA (N : Nat) (body : PM Out) (args : List D) : FR := match body (envOf N (args.map .im)) with
  | .ok .next _ => .ok (.val .none)
  | .ok (.ret o) env => finR false o env
  | .exc x _ => .exc x
  | _ => .bad
def ab0 (env : PEnv) (r : FR) (t : Ab) : FR × Ab := match env[0]? with
  | some (some (SV.ab t')) => (r, t')
  | _ => (.bad, t)
def runB (N : Nat) (body : PM Out) (t : Ab) (args : List D) : FR × Ab := match body (envOf N (.ab t :: args.map .im)) with
  | .ok .next env => ab0 env (.ok (.val .none)) t
  | .ok (.ret o) env => ab0 env (finR true o env) t
  | .exc x env => ab0 env (.exc x) t
  | _ => (.bad, t)
theorem start_get {N : List Str} {vs : List V} {i : Nat} (h : i < vs.length) : (L2.start N vs)[i]? = some vs[i]? := by
  unfold L2.start
  rw [List.getElem?_append_left (by simpa using h), List.getElem?_map, List.getElem?_eq_getElem h]
  rfl
theorem start_len {N : List Str} {vs : List V} (h : vs.length ≤ N.length) : (L2.start N vs).length = N.length := by
  unfold L2.start
  simp only [List.length_append, List.length_map, List.length_replicate]
  omega
theorem envOf_len {N : Nat} {l : List SV} (h : l.length ≤ N) : (envOf N l).length = N := by
  unfold envOf
  simp only [List.length_append, List.length_map, List.length_replicate]
  omega
theorem envOf_get {N : Nat} {l : List SV} {i : Nat} {o : SV} (h : (envOf N l)[i]? = some (some o)) : l[i]? = some o := by
  unfold envOf at h
  by_cases hi : i < l.length
  · rw [List.getElem?_append_left (by simpa using hi), List.getElem?_map] at h
    rw [List.getElem?_eq_getElem hi] at h ⊢
    simpa using h
  · rw [List.getElem?_append_right (by simpa using hi), List.getElem?_replicate] at h
    split at h <;> cases h
def ctA (F H : Hp) : Ct := ⟨H, F, fun _ => False, fun _ => False, none⟩
theorem rel_startA {K : PySem.W.Frag} {N : List Str} {F H : Hp} {ds : List D} {vs : List V} (e : Ex F H) (sy : SyF F) (hd : Dens K F ds vs) (hl : vs.length ≤ N.length) : Rel K (ctA F H) (fun _ => []) F (envOf N.length (ds.map .im)) (L2.start N vs) H where
  f0 := Ex.refl F
  sy := sy
  fh := e
  kp := fun q o h _ => h
  al := fun q h => h
  nw := fun q h => .inl h
  ln := by rw [start_len hl, envOf_len (by rw [List.length_map, ← dens_len hd]; exact hl)]
  sl := fun i o h => by
    have h' := envOf_get h
    rw [List.getElem?_map] at h'
    cases e1 : ds[i]? with
    | none => rw [e1] at h'; cases h'
    | some d =>
      rw [e1] at h'
      cases h'
      obtain ⟨v, h1, h2⟩ := dens_get' hd e1
      have hi : i < vs.length := (List.getElem?_eq_some_iff.mp h1).1
      exact ⟨v, by rw [start_get hi, h1], h2⟩
  ow := fun i a h => by cases h
  lf := fun i _ a _ h => by cases h
  ds := fun i j a h _ => by cases h
  bb := fun p h => by cases h
theorem fin_ret {K : PySem.W.Frag} {c : Ct} {fp : Nat → List Addr} {F : Hp} {env : PEnv} {σ : L2.St} {H : Hp} {bo : Bool} {o : Opd} {v : V} (R : Rel K c fp F env σ H) (hfz : ∀ a, ¬ c.fz a) (hmu : ∀ a, c.mu a → bo = true ∧ a ∈ fp 0) (h : OpdOk K c fp F σ H o v) (hb : finR bo o env ≠ .bad) :
    ∃ r, finR bo o env = .ok r ∧ RetOk K F c.H0 H r v := by
  cases o with
  | val d => exact ⟨_, rfl, h⟩
  | tmp ds =>
    obtain ⟨p, xs, h1, h2, h3, h4, h5, h6⟩ := h
    exact ⟨_, rfl, p, xs, h1, h2, h3, h4, h6⟩
  | tab t =>
    obtain ⟨fT, h1, h2⟩ := h
    exact ⟨_, rfl, fT, h1, fun a ha => ⟨(h2 a ha).1, (h2 a ha).2.1⟩⟩
  | slot i =>
    have h' : σ[i]? = some (some v) := h
    cases e : env[i]? with
    | none => simp only [finR, e] at hb; exact absurd rfl hb
    | some s =>
      cases s with
      | none => simp only [finR, e] at hb; exact absurd rfl hb
      | some s =>
        obtain ⟨w, h1, h2⟩ := R.sl i s e
        rw [h'] at h1
        cases h1
        cases s with
        | im d => exact ⟨.val d, by simp only [finR, e], h2⟩
        | ls ds =>
          obtain ⟨a, xs, q1, q2, q3, q4⟩ := h2
          have ha : a ∈ fp i := by rw [q2]; simp
          refine ⟨.tmp ds, by simp only [finR, e], a, xs, q1, q3, (R.ow i a ha).1, ?_, q4⟩
          rcases R.lf i ds a e ha with z | z
          · exact z
          · exact absurd z (hfz a)
        | ab t =>
          simp only [finR, e] at hb ⊢
          by_cases hi : (bo && i == 0) = true
          · rw [if_pos hi] at hb; exact absurd rfl hb
          · rw [if_neg hi]
            refine ⟨_, rfl, fp i, h2, fun a ha => ⟨(R.ow i a ha).1, ?_⟩⟩
            rcases (R.ow i a ha).2.2 with z | z
            · obtain ⟨z1, z2⟩ := hmu a z
              have : i = 0 := R.ds i 0 a ha z2
              rw [z1, this] at hi
              exact absurd rfl hi
            · exact z
theorem spA_body {K : PySem.W.Frag} {N : List Str} {F H : Hp} {ds : List D} {vs : List V} {g : PM Out} {Q : VK} {E : XK} (e : Ex F H) (hd : Dens K F ds vs) (hl : vs.length ≤ N.length)
    (h : match runA N.length g ds with
      | .ok r => ∀ F' H' v, Grown F H F' H' → Ex H H' → RetOk K F' H H' r v → Q v H'
      | .exc x => ∀ F' H' d, Grown F H F' H' → Ex H H' → ExnOk K F' H' x d → E x.cls d H'
      | .bad => False) : GoesS K (ctA F H) (fun cls d _ H => E cls d H) F (g (envOf N.length (ds.map .im))) { nx := fun _ H' => Q .non H', rt := Q } := by
  have gr : ∀ {fp' : Nat → List Addr} {F' H' : Hp} {env' : PEnv} {σ' : L2.St}, Rel K (ctA F H) fp' F' env' σ' H' → Grown F H F' H' ∧ Ex H H' := fun {fp' F' H' env' σ'} R =>
    ⟨⟨R.f0, R.fh, fun q hq => (R.nw q hq).imp id fun z => z.elim id fun y => y.elim⟩, fun q o z => R.kp q o z fun y => y⟩
  unfold runA at h
  cases eg : g (envOf N.length (ds.map .im)) with
  | bad => rw [eg] at h; exact h.elim
  | exc x env' =>
    rw [eg] at h
    exact fun fp' F' σ' H' d R e1 hx => h F' H' d (gr R).1 (gr R).2 hx
  | ok out env' =>
    rw [eg] at h
    intro fp' F' σ' H' R e1
    cases out with
    | next => exact h F' H' .non (gr R).1 (gr R).2 (by show Den _ _ _ _; simp only [Den])
    | brk => exact h.elim
    | cont => exact h.elim
    | ret o =>
      intro v hv
      have hb : finR false o env' ≠ .bad := fun z => by simp only [z] at h
      obtain ⟨r, hr1, hr2⟩ := fin_ret (bo := false) R (fun _ z => z) (fun _ z => z.elim) hv hb
      simp only [hr1] at h
      exact h F' H' v (gr R).1 (gr R).2 hr2
end
end Pu

namespace Pu
open PySem PySem.Spec PyProof.Rows L2
section
variable {K : PySem.W.Frag} {F H H' : Hp}
theorem den_int {i : Int} : Den K F (.int i) (.int i) := by simp only [Den]
theorem den_str {i : Str} : Den K F (.str i) (.str i) := by simp only [Den]
theorem den_non : Den K F .none .non := by simp only [Den]
theorem bd_int {i : Int} {v : V} (h : BDen K F H (.int i) v) : v = .int i := by simpa only [BDen, Den] using h
theorem bd_bl {i : Bool} {v : V} (h : BDen K F H (.bool i) v) : v = .bl i := by simpa only [BDen, Den] using h
theorem bd_str {i : Str} {v : V} (h : BDen K F H (.str i) v) : v = .str i := by simpa only [BDen, Den] using h
theorem bd_non {v : V} (h : BDen K F H .none v) : v = .non := by simpa only [BDen, Den] using h
theorem bd_list {ds : List D} {v : V} (h : BDen K F H (.list ds) v) : ∃ a xs, v = .ref a ∧ H a = some (.lst xs) ∧ Dens K F ds xs := h
theorem bd_tup {ds : List D} {v : V} (h : BDen K F H (.tuple ds) v) : ∃ a xs, v = .ref a ∧ SqT K F a xs ∧ Dens K F ds xs := by simpa only [BDen, Den] using h
theorem bd_dict {ds : List (D × D)} {v : V} (h : BDen K F H (.dict ds) v) : ∃ a xs, v = .ref a ∧ H a = some (.dK xs) ∧ DenKV K F ds xs := h
theorem dens_nil {xs : List V} (h : Dens K F [] xs) : xs = [] := by simpa only [Dens] using h
theorem dens_drop : ∀ {ds : List D} {xs : List V} (n : Nat), Dens K F ds xs → Dens K F (ds.drop n) (xs.drop n)
  | ds, xs, 0, h => h
  | [], xs, n + 1, h => by rw [dens_nil h]; simp [Dens]
  | d :: ds, xs, n + 1, h => by
    simp only [Dens] at h
    obtain ⟨v, r, rfl, _, h2⟩ := h
    exact dens_drop n h2
theorem dens_take : ∀ {ds : List D} {xs : List V} (n : Nat), Dens K F ds xs → Dens K F (ds.take n) (xs.take n)
  | ds, xs, 0, h => by simp [Dens]
  | [], xs, n + 1, h => by rw [dens_nil h]; simp [Dens]
  | d :: ds, xs, n + 1, h => by
    simp only [Dens] at h
    obtain ⟨v, r, rfl, h1, h2⟩ := h
    show Dens K F (d :: ds.take n) (v :: r.take n)
    simp only [Dens]
    exact ⟨v, _, rfl, h1, dens_take n h2⟩
def cutD (ds : List D) (lo hi : Option Int) : List D := (ds.drop (HT.sIx ds.length 0 lo)).take (HT.sIx ds.length ds.length hi - HT.sIx ds.length 0 lo)
theorem dens_cut {ds : List D} {xs : List V} {lo hi : Option Int} (h : Dens K F ds xs) : Dens K F (cutD ds lo hi) (cutV xs lo hi) := by
  unfold cutD cutV
  rw [dens_len h]
  exact dens_take _ (dens_drop _ h)
theorem dens_at {ds : List D} {xs : List V} {i : Int} {d : D} (h : Dens K F ds xs) (e : atI ds i = some d) : ∃ v, atI xs i = some v ∧ Den K F d v := by
  unfold atI at e ⊢
  rw [dens_len h]
  cases q : ixN ds.length i with
  | none => rw [q] at e; cases e
  | some j =>
    rw [q] at e
    exact dens_get' h e
theorem dens_rep {ds : List D} {xs : List V} (h : Dens K F ds xs) : ∀ n : Nat, Dens K F (List.replicate n ds).flatten (List.replicate n xs).flatten
  | 0 => by simp [Dens]
  | n + 1 => by
    rw [List.replicate_succ, List.replicate_succ, List.flatten_cons, List.flatten_cons]
    exact dens_app h (dens_rep h n)
theorem dens_ne {ds : List D} {xs : List V} (h : Dens K F ds xs) : xs = [] ↔ ds = [] := by
  have := dens_len h
  constructor
  · intro e; rw [e] at this; exact List.eq_nil_of_length_eq_zero this.symm
  · intro e; rw [e] at this; exact List.eq_nil_of_length_eq_zero this
end
/-! ### + - * % // ** -/
def gAdd : D → D → Option Opd
  | .int i, .int j => some (.val (.int (i + j)))
  | .str x, .str y => if x.length + y.length ≤ bigLine then some (.val (.str (x ++ y))) else none
  | .list xs, .list ys => if xs.length + ys.length ≤ bigLine then some (.tmp (xs ++ ys)) else none
  | .tuple xs, .tuple ys => if xs.length + ys.length ≤ bigLine then some (.val (.tuple (xs ++ ys))) else none
  | _, _ => none
theorem big_le {n : Nat} (h : n ≤ bigLine) : n ≤ sizeLine := Nat.le_trans h (Nat.le_of_lt big_line)
section
variable {X : Cx}
theorem o2_add : Op2 X (binaryOp .Add) gAdd := by
  refine ⟨_, OpR.or (OpR.or op_add op_add_str) (OpR.or op_cat op_catA), fun F H x y dx dy o Q e hx hy hg q => ?_⟩
  cases dx with
  | int i =>
    cases dy with
    | int j =>
      cases hg
      exact .inl (.inl ⟨i, j, bd_int hx, bd_int hy, q _ _ (.same den_int)⟩)
    | _ => cases hg
  | str z =>
    cases dy with
    | str u =>
      simp only [gAdd] at hg
      split at hg
      · cases hg
        exact .inl (.inr ⟨z, u, bd_str hx, bd_str hy, big_le (by assumption), q _ _ (.same den_str)⟩)
      · cases hg
    | _ => cases hg
  | list xs =>
    cases dy with
    | list ys =>
      simp only [gAdd] at hg
      split at hg
      · rename_i hl
        cases hg
        obtain ⟨a, us, rfl, h1, h2⟩ := bd_list hx
        obtain ⟨b, ws, rfl, h3, h4⟩ := bd_list hy
        exact .inr (.inl ⟨a, b, us, ws, rfl, rfl, h1, h3, by rw [dens_len h2, dens_len h4]; exact big_le hl, fun p hp => q _ _ (.lst hp (dens_app h2 h4))⟩)
      · cases hg
    | _ => cases hg
  | tuple xs =>
    cases dy with
    | tuple ys =>
      simp only [gAdd] at hg
      split at hg
      · rename_i hl
        cases hg
        obtain ⟨a, us, rfl, h1, h2⟩ := bd_tup hx
        obtain ⟨b, ws, rfl, h3, h4⟩ := bd_tup hy
        refine .inr (.inr ⟨a, b, us, ws, rfl, rfl, ex_t e h1, ex_t e h3, by rw [dens_len h2, dens_len h4]; exact big_le hl, fun z => ?_, fun z1 z2 => ?_, fun z1 z2 p hp => q _ _ (.tup hp (dens_app h2 h4))⟩)
        · have := (dens_ne h2).mp z
          subst this
          refine q _ _ (.same ?_)
          simp only [Den]
          exact ⟨b, ws, rfl, h3, h4⟩
        · have := (dens_ne h4).mp z2
          subst this
          rw [List.append_nil] at q
          refine q _ _ (.same ?_)
          simp only [Den]
          exact ⟨a, us, rfl, h1, h2⟩
      · cases hg
    | _ => cases hg
  | _ => cases hg
def gInt (C : Int → Int → Bool) (f : Int → Int → Int) : D → D → Option Opd
  | .int i, .int j => if C i j = true then some (.val (.int (f i j))) else none
  | _, _ => none
theorem o2_int {op : Value → Value → Sem Value} {C : Int → Int → Bool} {C' : Int → Int → Prop} {f : Int → Int → Int} (h : OpR X op (rI C' fun i j => .int (f i j))) (hc : ∀ i j, C i j = true → C' i j) : Op2 X op (gInt C f) := by
  refine ⟨_, h, fun F H x y dx dy o Q e hx hy hg q => ?_⟩
  cases dx with
  | int i =>
    cases dy with
    | int j =>
      simp only [gInt] at hg
      split at hg
      · rename_i hl
        cases hg
        exact ⟨i, j, bd_int hx, bd_int hy, hc _ _ hl, q _ _ (.same den_int)⟩
      · cases hg
    | _ => cases hg
  | _ => cases hg
def gInt0 (f : Int → Int → Int) : D → D → Option Opd
  | .int i, .int j => some (.val (.int (f i j)))
  | _, _ => none
theorem o2_int0 {op : Value → Value → Sem Value} {f : Int → Int → Int} (h : OpR X op (rI0 fun i j => .int (f i j))) : Op2 X op (gInt0 f) := by
  refine ⟨_, h, fun F H x y dx dy o Q e hx hy hg q => ?_⟩
  cases dx with
  | int i =>
    cases dy with
    | int j =>
      cases hg
      exact ⟨i, j, bd_int hx, bd_int hy, q _ _ (.same den_int)⟩
    | _ => cases hg
  | _ => cases hg
abbrev gSub : D → D → Option Opd := gInt0 fun i j => i - j
theorem o2_sub : Op2 X (binaryOp .Sub) gSub := o2_int0 op_sub
abbrev gMod : D → D → Option Opd := gInt (fun _ j => decide (0 < j)) fun i j => i % j
theorem o2_mod : Op2 X (binaryOp .Mod) gMod := o2_int op_mod fun i j h => (show 0 < j from of_decide_eq_true h)
abbrev gDiv : D → D → Option Opd := gInt (fun _ j => decide (0 < j ∧ j < 1073741824)) fun i j => i / j
theorem o2_div : Op2 X (binaryOp .FloorDiv) gDiv := o2_int op_fdiv fun i j h => (show 0 < j ∧ j < 1073741824 from of_decide_eq_true h)
abbrev gPow : D → D → Option Opd := gInt (fun i j => decide (0 ≤ j ∧ j ≤ 1000000 ∧ i.natAbs < 2 ^ 64)) fun i j => i ^ j.toNat
theorem o2_pow : Op2 X (binaryOp .Pow) gPow := o2_int op_pow fun i j h => (show 0 ≤ j ∧ j ≤ 1000000 ∧ i.natAbs < 2 ^ 64 from of_decide_eq_true h)
def gMul : D → D → Option Opd
  | .int i, .int j => if (-(2 ^ 64) < i ∧ i < 2 ^ 64) ∨ (-(2 ^ 64) < j ∧ j < 2 ^ 64) then some (.val (.int (i * j))) else none
  | .list xs, .int k => if -(2 ^ 63) ≤ k ∧ k < 2 ^ 63 ∧ xs.length * k.toNat ≤ bigLine then some (.tmp (List.replicate k.toNat xs).flatten) else none
  | .tuple xs, .int k => if xs ≠ [] ∧ 2 ≤ k ∧ k ≤ 1000 ∧ xs.length ≤ 1000 then some (.val (.tuple (List.replicate k.toNat xs).flatten)) else none
  | _, _ => none
theorem o2_mul : Op2 X (binaryOp .Mult) gMul := by
  refine ⟨_, OpR.or op_mul (OpR.or op_rep op_repT), fun F H x y dx dy o Q e hx hy hg q => ?_⟩
  cases dy with
  | int j =>
    cases dx with
    | int i =>
      simp only [gMul] at hg
      split at hg
      · rename_i hl
        cases hg
        exact .inl ⟨i, j, bd_int hx, bd_int hy, hl, q _ _ (.same den_int)⟩
      · cases hg
    | list xs =>
      simp only [gMul] at hg
      split at hg
      · rename_i hl
        cases hg
        obtain ⟨a, us, rfl, h1, h2⟩ := bd_list hx
        exact .inr (.inl ⟨a, j, us, rfl, bd_int hy, h1, hl.1, hl.2.1, by rw [dens_len h2]; exact big_le hl.2.2, fun p hp => q _ _ (.lst hp (dens_rep h2 _))⟩)
      · cases hg
    | tuple xs =>
      simp only [gMul] at hg
      split at hg
      · rename_i hl
        cases hg
        obtain ⟨a, us, rfl, h1, h2⟩ := bd_tup hx
        exact .inr (.inr ⟨a, j, us, rfl, bd_int hy, ex_t e h1, fun z => hl.1 ((dens_ne h2).mp z), hl.2.1, hl.2.2.1, by rw [dens_len h2]; exact hl.2.2.2, fun p hp => q _ _ (.tup hp (dens_rep h2 _))⟩)
      · cases hg
    | _ => cases hg
  | _ => cases dx <;> cases hg
/-! ### comparisons -/
def gCmp (f : Int → Int → Bool) : D → D → Option Opd
  | .int i, .int j => some (.val (.bool (f i j)))
  | _, _ => none
theorem o2_cmp {op : Value → Value → Sem Value} {f : Int → Int → Bool} (h : OpR X op (rI0 fun i j => .bl (f i j))) : Op2 X op (gCmp f) := by
  refine ⟨_, h, fun F H x y dx dy o Q e hx hy hg q => ?_⟩
  cases dx with
  | int i =>
    cases dy with
    | int j =>
      cases hg
      exact ⟨i, j, bd_int hx, bd_int hy, q _ _ (.same den_bl)⟩
    | _ => cases hg
  | _ => cases hg
def intsOf : List D → Option (List Int)
  | [] => some []
  | .int i :: ds => (intsOf ds).map (i :: ·)
  | _ => none
theorem dens_ints {K : PySem.W.Frag} {F : Hp} : ∀ {ds : List D} {xs : List V} {ns : List Int}, Dens K F ds xs → intsOf ds = some ns → xs = ns.map V.int
  | [], xs, ns, h, e => by cases e; exact dens_nil h
  | d :: ds, xs, ns, h, e => by
    cases d with
    | int i =>
      simp only [Dens, Den] at h
      obtain ⟨v, r, rfl, rfl, h2⟩ := h
      cases e1 : intsOf ds with
      | none => simp only [intsOf, e1] at e; cases e
      | some ms =>
        simp only [intsOf, e1] at e
        cases e
        rw [dens_ints h2 e1]
        rfl
    | _ => cases e
/-- < and <= of ints, and of tuples of ints -/
def leInts (ns ms : List Int) : Bool := Ob.lexAt (fun j => decide (ns.getD j 0 = ms.getD j 0)) (fun j => decide (ns.getD j 0 ≤ ms.getD j 0)) (decide (ns.length ≤ ms.length)) 0 (min ns.length ms.length)
def gLt : D → D → Option Opd
  | .int i, .int j => some (.val (.bool (decide (i < j))))
  | .tuple xs, .tuple ys => (intsOf xs).bind fun ns => (intsOf ys).map fun ms => .val (.bool (HT.lexLt ns ms))
  | _, _ => none
def gLe : D → D → Option Opd
  | .int i, .int j => some (.val (.bool (decide (i ≤ j))))
  | .tuple xs, .tuple ys => (intsOf xs).bind fun ns => (intsOf ys).map fun ms => .val (.bool (leInts ns ms))
  | _, _ => none
theorem o2_lt (hu : X.A.units < cLine) : Op2 X (compareOp .Lt) gLt := by
  refine ⟨_, OpR.or op_lt (op_ltT hu), fun F H x y dx dy o Q e hx hy hg q => ?_⟩
  cases dx with
  | int i =>
    cases dy with
    | int j => cases hg; exact .inl ⟨i, j, bd_int hx, bd_int hy, q _ _ (.same den_bl)⟩
    | _ => cases hg
  | tuple xs =>
    cases dy with
    | tuple ys =>
      cases e1 : intsOf xs with
      | none => simp only [gLt, e1] at hg; cases hg
      | some ns =>
        cases e2 : intsOf ys with
        | none => simp only [gLt, e1, e2] at hg; cases hg
        | some ms =>
          simp only [gLt, e1, e2] at hg
          cases hg
          obtain ⟨a, us, rfl, h1, h2⟩ := bd_tup hx
          obtain ⟨b, ws, rfl, h3, h4⟩ := bd_tup hy
          rw [dens_ints h2 e1] at h1
          rw [dens_ints h4 e2] at h3
          exact .inr ⟨a, b, ns, ms, rfl, rfl, ex_t e h1, ex_t e h3, q _ _ (.same den_bl)⟩
    | _ => cases hg
  | _ => cases hg
theorem o2_le (hu : X.A.units < cLine) : Op2 X (compareOp .LtE) gLe := by
  refine ⟨_, OpR.or op_le (op_leT hu), fun F H x y dx dy o Q e hx hy hg q => ?_⟩
  cases dx with
  | int i =>
    cases dy with
    | int j => cases hg; exact .inl ⟨i, j, bd_int hx, bd_int hy, q _ _ (.same den_bl)⟩
    | _ => cases hg
  | tuple xs =>
    cases dy with
    | tuple ys =>
      cases e1 : intsOf xs with
      | none => simp only [gLe, e1] at hg; cases hg
      | some ns =>
        cases e2 : intsOf ys with
        | none => simp only [gLe, e1, e2] at hg; cases hg
        | some ms =>
          simp only [gLe, e1, e2] at hg
          cases hg
          obtain ⟨a, us, rfl, h1, h2⟩ := bd_tup hx
          obtain ⟨b, ws, rfl, h3, h4⟩ := bd_tup hy
          rw [dens_ints h2 e1] at h1
          rw [dens_ints h4 e2] at h3
          exact .inr ⟨a, b, ns, ms, rfl, rfl, ex_t e h1, ex_t e h3, q _ _ (.same den_bl)⟩
    | _ => cases hg
  | _ => cases hg
abbrev gGt : D → D → Option Opd := gCmp fun i j => decide (j < i)
abbrev gGe : D → D → Option Opd := gCmp fun i j => decide (j ≤ i)
theorem o2_gt : Op2 X (compareOp .Gt) gGt := o2_cmp op_gt
theorem o2_ge : Op2 X (compareOp .GtE) gGe := o2_cmp op_ge
/-! == of data without dicts -/
mutual
theorem den_dp {K : PySem.W.Frag} {F : Hp} : ∀ (d : D) (v : V), d.canLay0 = true → Den K F d v → Dp K F v d
  | .none, _, _, h => by simp only [Den] at h; subst h; exact .non
  | .bool _, _, _, h => by simp only [Den] at h; subst h; exact .bl _
  | .int _, _, _, h => by simp only [Den] at h; subst h; exact .int _
  | .str _, _, _, h => by simp only [Den] at h; subst h; exact .str _
  | .list ds, _, c, h => by
    simp only [Den] at h
    obtain ⟨a, xs, rfl, h1, h2⟩ := h
    exact .lst (.inl (.inl h1)) (dens_dp ds xs (by simpa [PyData.canLay0] using c) h2)
  | .tuple ds, _, c, h => by
    simp only [Den] at h
    obtain ⟨a, xs, rfl, h1, h2⟩ := h
    exact .tup h1 (dens_dp ds xs (by simpa [PyData.canLay0] using c) h2)
  | .dict _, _, c, _ => by simp [PyData.canLay0] at c
theorem dens_dp {K : PySem.W.Frag} {F : Hp} : ∀ (ds : List D) (vs : List V), PyData.canLayAll0 ds = true → Dens K F ds vs → DpAll K F vs ds
  | [], _, _, h => by simp only [Dens] at h; subst h; exact .nil
  | d :: ds, _, c, h => by
    simp only [Dens] at h
    obtain ⟨v, r, rfl, h1, h2⟩ := h
    have c' : d.canLay0 = true ∧ PyData.canLayAll0 ds = true := by simpa [PyData.canLayAll0] using c
    exact .cons (den_dp d v c'.1 h1) (dens_dp ds r c'.2 h2)
end
mutual
theorem dp_mono {K : PySem.W.Frag} {F F' : Hp} (e : Ex F F') : ∀ (d : D) (v : V), Dp K F v d → Dp K F' v d
  | .none, _, h => by cases h; exact .non
  | .bool _, _, h => by cases h; exact .bl _
  | .int _, _, h => by cases h; exact .int _
  | .str _, _, h => by cases h; exact .str _
  | .list ds, _, h => by
    cases h with
    | lst h1 h2 => exact .lst (ex_l e h1) (dpAll_mono e ds _ h2)
  | .tuple ds, _, h => by
    cases h with
    | tup h1 h2 => exact .tup (ex_t e h1) (dpAll_mono e ds _ h2)
  | .dict _, _, h => by cases h
theorem dpAll_mono {K : PySem.W.Frag} {F F' : Hp} (e : Ex F F') : ∀ (ds : List D) (vs : List V), DpAll K F vs ds → DpAll K F' vs ds
  | [], _, h => by cases h; exact .nil
  | d :: ds, _, h => by
    cases h with
    | cons h1 h2 => exact .cons (dp_mono e d _ h1) (dpAll_mono e ds _ h2)
end
theorem bden_dp {F H : Hp} {K : PySem.W.Frag} (e : Ex F H) {d : D} {v : V} (c : d.canLay0 = true) (h : BDen K F H d v) : Dp K H v d := by
  cases d with
  | list ds =>
    obtain ⟨a, xs, rfl, h1, h2⟩ := bd_list h
    exact .lst (.inl (.inl h1)) (dpAll_mono e _ _ (dens_dp ds xs (by simpa [PyData.canLay0] using c) h2))
  | dict es => simp [PyData.canLay0] at c
  | _ => exact dp_mono e _ _ (den_dp _ v c h)
def strPair : D → D → Option (Str × Str)
  | .str a, .str b => some (a, b)
  | _, _ => none
theorem strPair_some {x y : D} {p : Str × Str} (h : strPair x y = some p) : x = .str p.1 ∧ y = .str p.2 := by
  unfold strPair at h
  split at h
  · cases h; exact ⟨rfl, rfl⟩
  · cases h
def gEq (neg : Bool) (x y : D) : Option Opd := match strPair x y with
  | some p => some (.val (.bool (if neg = true then !decide (p.1 = p.2) else decide (p.1 = p.2))))
  | none => if SeqAt.shaped x = true ∧ SeqAt.shaped y = true then some (.val (.bool (if neg = true then !PyData.eqv x y else PyData.eqv x y))) else none
theorem o2_eq (hu : X.A.units + 64 < cLine) : Op2 X (compareOp .Eq) (gEq false) := by
  refine ⟨_, OpR.or op_eq (op_eqD hu), fun F H x y dx dy o Q e hx hy hg q => ?_⟩
  unfold gEq at hg
  cases hp : strPair dx dy with
  | some p =>
    obtain ⟨rfl, rfl⟩ := strPair_some hp
    rw [hp] at hg
    cases hg
    rw [bd_str hx, bd_str hy]
    refine .inl ⟨rfl, ?_⟩
    have : decide (V.str p.1 = V.str p.2) = decide (p.1 = p.2) := decide_eq_decide.mpr ⟨fun h => V.str.inj h, fun h => by rw [h]⟩
    rw [this]
    exact q _ _ (.same den_bl)
  | none =>
    rw [hp] at hg
    have hg' : (if SeqAt.shaped dx = true ∧ SeqAt.shaped dy = true then some (Opd.val (.bool (if false = true then !PyData.eqv dx dy else PyData.eqv dx dy))) else none) = some o := hg
    split at hg'
    · rename_i hs
      cases hg'
      exact .inr ⟨dx, dy, bden_dp e (SeqAt.canLay_of_shaped hs.1) hx, bden_dp e (SeqAt.canLay_of_shaped hs.2) hy, hs.1, hs.2, q _ _ (.same den_bl)⟩
    · cases hg'
theorem o2_ne (hu : X.A.units + 64 < cLine) : Op2 X (compareOp .NotEq) (gEq true) := by
  refine ⟨_, OpR.or op_ne (op_neD hu), fun F H x y dx dy o Q e hx hy hg q => ?_⟩
  unfold gEq at hg
  cases hp : strPair dx dy with
  | some p =>
    obtain ⟨rfl, rfl⟩ := strPair_some hp
    rw [hp] at hg
    cases hg
    rw [bd_str hx, bd_str hy]
    refine .inl ⟨rfl, ?_⟩
    have : decide (V.str p.1 = V.str p.2) = decide (p.1 = p.2) := decide_eq_decide.mpr ⟨fun h => V.str.inj h, fun h => by rw [h]⟩
    rw [this]
    exact q _ _ (.same den_bl)
  | none =>
    rw [hp] at hg
    have hg' : (if SeqAt.shaped dx = true ∧ SeqAt.shaped dy = true then some (Opd.val (.bool (if true = true then !PyData.eqv dx dy else PyData.eqv dx dy))) else none) = some o := hg
    split at hg'
    · rename_i hs
      cases hg'
      exact .inr ⟨dx, dy, bden_dp e (SeqAt.canLay_of_shaped hs.1) hx, bden_dp e (SeqAt.canLay_of_shaped hs.2) hy, hs.1, hs.2, q _ _ (.same den_bl)⟩
    · cases hg'

/-- is None -/
def isNon : D → Bool
  | .none => true
  | _ => false
def gIsN (neg : Bool) (x : D) : D → Option Opd
  | .none => some (.val (.bool (if neg = true then !isNon x else isNon x)))
  | _ => none
theorem bden_non {F H : Hp} {d : D} {v : V} (h : BDen X.K F H d v) : decide (v = .non) = isNon d := by
  cases d with
  | none => rw [bd_non h]; rfl
  | bool b => rw [bd_bl h]; rfl
  | int i => rw [bd_int h]; rfl
  | str s => rw [bd_str h]; rfl
  | list ds => obtain ⟨a, xs, rfl, _⟩ := bd_list h; rfl
  | tuple ds => obtain ⟨a, xs, rfl, _⟩ := bd_tup h; rfl
  | dict ds => obtain ⟨a, xs, rfl, _⟩ := bd_dict h; rfl
theorem o2_isN : Op2 X (compareOp .Is) (gIsN false) := by
  refine ⟨_, op_isN, fun F H x y dx dy o Q e hx hy hg q => ?_⟩
  cases dy with
  | none =>
    refine ⟨bd_non hy, ?_⟩
    rw [bden_non hx]
    cases hg
    exact q _ _ (.same den_bl)
  | _ => cases hg
theorem o2_notN : Op2 X (compareOp .IsNot) (gIsN true) := by
  refine ⟨_, op_notN, fun F H x y dx dy o Q e hx hy hg q => ?_⟩
  cases dy with
  | none =>
    refine ⟨bd_non hy, ?_⟩
    rw [bden_non hx]
    cases hg
    exact q _ _ (.same den_bl)
  | _ => cases hg
/-! ### subscripts, slices -/
def gIx : D → D → Option Opd
  | .list ds, .int i => (atI ds i).map .val
  | .tuple ds, .int i => (atI ds i).map .val
  | .str z, .int i => if z.length ≤ bigLine then (atI z.cps.toList i).map fun c => .val (.str ⟨#[c]⟩) else none
  | _, _ => none
theorem i2_ix : Ix2 X gIx := by
  refine ⟨_, IxR.or (IxR.or ix_list ix_tup) ix_str, fun F H x y dx dy o Q e hx hy hg q => ?_⟩
  cases dy with
  | int i =>
    cases dx with
    | list ds =>
      obtain ⟨a, xs, rfl, h1, h2⟩ := bd_list hx
      cases ea : atI ds i with
      | none => simp only [gIx, ea] at hg; cases hg
      | some d =>
        simp only [gIx, ea] at hg
        cases hg
        obtain ⟨v, hv, hd⟩ := dens_at h2 ea
        exact .inl (.inl ⟨a, xs, i, v, rfl, bd_int hy, .inl (.inl h1), hv, q _ _ (.same hd)⟩)
    | tuple ds =>
      obtain ⟨a, xs, rfl, h1, h2⟩ := bd_tup hx
      cases ea : atI ds i with
      | none => simp only [gIx, ea] at hg; cases hg
      | some d =>
        simp only [gIx, ea] at hg
        cases hg
        obtain ⟨v, hv, hd⟩ := dens_at h2 ea
        exact .inl (.inr ⟨a, xs, i, v, rfl, bd_int hy, ex_t e h1, hv, q _ _ (.same hd)⟩)
    | str z =>
      simp only [gIx] at hg
      split at hg
      · rename_i hl
        cases ea : atI z.cps.toList i with
        | none => rw [ea] at hg; cases hg
        | some c =>
          rw [ea] at hg
          cases hg
          exact .inr ⟨z, i, c, bd_str hx, bd_int hy, big_le hl, ea, q _ _ (.same den_str)⟩
      · cases hg
    | _ => cases hg
  | _ => cases dx <;> cases hg
def gSl : D → Option Int → Option Int → Option Opd
  | .list ds, lo, hi => some (.tmp (cutD ds lo hi))
  | .tuple ds, lo, hi => some (.val (.tuple (cutD ds lo hi)))
  | .str z, lo, hi => if z.length ≤ bigLine then some (.val (.str (cutS z lo hi))) else none
  | _, _, _ => none
theorem s2_sl : Sl2 X gSl := by
  refine ⟨_, SlR.or (SlR.or sl_list sl_tupA) sl_str, fun F H x dx lo hi o Q e hx hg q => ?_⟩
  cases dx with
  | list ds =>
    obtain ⟨a, xs, rfl, h1, h2⟩ := bd_list hx
    cases hg
    exact .inl (.inl ⟨a, xs, rfl, .inl (.inl h1), fun p hp => q _ _ (.lst hp (dens_cut h2))⟩)
  | tuple ds =>
    obtain ⟨a, xs, rfl, h1, h2⟩ := bd_tup hx
    cases hg
    refine .inl (.inr ⟨a, xs, rfl, ex_t e h1, fun z => ?_, fun z p hp => q _ _ (.tup hp (dens_cut h2))⟩)
    have ec : cutV xs lo hi = xs := by
      unfold cutV
      rw [z.1, z.2, List.drop_zero, Nat.sub_zero, List.take_length]
    have hc := dens_cut (lo := lo) (hi := hi) h2
    rw [ec] at hc
    refine q _ _ (.same ?_)
    simp only [Den]
    exact ⟨a, xs, rfl, h1, hc⟩
  | str z =>
    simp only [gSl] at hg
    split at hg
    · rename_i hl
      cases hg
      exact .inr ⟨z, bd_str hx, big_le hl, q _ _ (.same den_str)⟩
    · cases hg
  | _ => cases hg
/-! ### built-ins -/
def gLen : List D → Option Opd
  | [.list ds] => some (.val (.int ds.length))
  | [.tuple ds] => some (.val (.int ds.length))
  | [.str z] => if z.length ≤ bigLine then some (.val (.int z.length)) else none
  | _ => none
theorem bi_len : Bi X (.builtin "len") gLen := by
  refine ⟨_, call_len, fun F H xs ds o Q e sy hx hg q => ?_⟩
  cases ds with
  | nil => cases hg
  | cons d ds =>
    obtain ⟨v, r, rfl, h1, h2⟩ := hx
    cases ds with
    | cons _ _ => cases d <;> cases hg
    | nil =>
      cases h2
      cases d with
      | list ds =>
        obtain ⟨a, xs, rfl, h1, h2⟩ := bd_list h1
        cases hg
        exact ⟨.ref a, ds.length, rfl, .inl ⟨xs, .inl (.inl h1), (dens_len h2).symm⟩, q _ _ (.same den_int)⟩
      | tuple ds =>
        obtain ⟨a, xs, rfl, h1, h2⟩ := bd_tup h1
        cases hg
        exact ⟨.ref a, ds.length, rfl, .inr ⟨xs, ex_t e h1, (dens_len h2).symm⟩, q _ _ (.same den_int)⟩
      | str z =>
        simp only [gLen] at hg
        split at hg
        · rename_i hl
          cases hg
          exact ⟨.str z, z.length, by rw [bd_str h1], ⟨big_le hl, rfl⟩, q _ _ (.same den_int)⟩
        · cases hg
      | _ => cases hg
def gAbs : List D → Option Opd
  | [.int i] => some (.val (.int (if i < 0 then -i else i)))
  | _ => none
theorem bdens1 {K : PySem.W.Frag} {F H : Hp} {d : D} {xs : List V} (h : BDens K F H [d] xs) : ∃ v, xs = [v] ∧ BDen K F H d v := by
  obtain ⟨v, r, rfl, h1, h2⟩ := h
  cases h2
  exact ⟨v, rfl, h1⟩
theorem bi_abs : Bi X (.builtin "abs") gAbs := by
  refine ⟨_, call_abs, fun F H xs ds o Q e sy hx hg q => ?_⟩
  unfold gAbs at hg
  split at hg
  · cases hg
    obtain ⟨v, rfl, h1⟩ := bdens1 hx
    exact ⟨_, by rw [bd_int h1], q _ _ (.same den_int)⟩
  · cases hg
def gInt1 : List D → Option Opd
  | [.int i] => some (.val (.int i))
  | [.bool b] => some (.val (.int (if b then 1 else 0)))
  | _ => none
theorem bi_int : Bi X (.type "int") gInt1 := by
  refine ⟨_, call_int1, fun F H xs ds o Q e sy hx hg q => ?_⟩
  unfold gInt1 at hg
  split at hg
  · cases hg
    obtain ⟨v, rfl, h1⟩ := bdens1 hx
    exact .inl ⟨_, by rw [bd_int h1], q _ _ (.same den_int)⟩
  · cases hg
    obtain ⟨v, rfl, h1⟩ := bdens1 hx
    exact .inr ⟨_, by rw [bd_bl h1], q _ _ (.same den_int)⟩
  · cases hg
def gTuple : List D → Option Opd
  | [.list ds] => some (.val (.tuple ds))
  | [.tuple ds] => some (.val (.tuple ds))
  | _ => none
theorem bi_tuple : Bi X (.type "tuple") gTuple := by
  refine ⟨_, call_tuple_of, fun F H xs ds o Q e sy hx hg q => ?_⟩
  unfold gTuple at hg
  split at hg
  · cases hg
    obtain ⟨v, rfl, h1⟩ := bdens1 hx
    obtain ⟨a, xs, rfl, h1, h2⟩ := bd_list h1
    exact ⟨a, xs, rfl, .inl ⟨.inl (.inl h1), fun p hp => q _ _ (.tup hp h2)⟩⟩
  · cases hg
    obtain ⟨v, rfl, h1⟩ := bdens1 hx
    obtain ⟨a, xs, rfl, h1', h2⟩ := bd_tup h1
    exact ⟨a, xs, rfl, .inr ⟨ex_t e h1', q _ _ (.same h1)⟩⟩
  · cases hg
def gList : List D → Option Opd
  | [.list ds] => some (.tmp ds)
  | [.tuple ds] => some (.tmp ds)
  | _ => none
theorem bi_list : Bi X (.type "list") gList := by
  refine ⟨_, call_list_of, fun F H xs ds o Q e sy hx hg q => ?_⟩
  unfold gList at hg
  split at hg
  · cases hg
    obtain ⟨v, rfl, h1⟩ := bdens1 hx
    obtain ⟨a, xs, rfl, h1, h2⟩ := bd_list h1
    exact ⟨a, xs, rfl, .inl (.inl (.inl h1)), fun p hp => q _ _ (.lst hp h2)⟩
  · cases hg
    obtain ⟨v, rfl, h1⟩ := bdens1 hx
    obtain ⟨a, xs, rfl, h1', h2⟩ := bd_tup h1
    exact ⟨a, xs, rfl, .inr (ex_t e h1'), fun p hp => q _ _ (.lst hp h2)⟩
  · cases hg
end
end Pu

namespace Pu
open PySem PySem.Spec PyProof.Rows L2
/-! ### repr -/
theorem isTup_reads {h : Heap} {a : Addr} {its : Array Value} (p : IsTup h a its) : ∃ o n, h.get? a = some o ∧ o.cls = .type "tuple" ∧ o.data = .seq its n := by
  obtain ⟨o, e, c, n, d⟩ := p
  exact ⟨o, n, e, c, d⟩
section
variable {X : Cx} {pins : List (Addr × Obj)} {σ : L2.St} {H F : Hp} {s : Shared}
mutual
theorem den_reads (I : Inv X pins σ H s) (e : Ex F H) (sy : SyF F) : ∀ (d : D) (v : V) (u : Value), Den X.K F d v → RelV v u → ∃ as, Reads s.heap u d as ∧ sysModules ∉ as
  | .none, _, _, h, r => by
    simp only [Den] at h
    subst h
    cases r
    exact ⟨_, Reads.none, by simp⟩
  | .bool b, _, _, h, r => by
    simp only [Den] at h
    subst h
    cases r
    exact ⟨_, Reads.bool b, by simp⟩
  | .int i, _, _, h, r => by
    simp only [Den] at h
    subst h
    obtain ⟨t, rfl⟩ := r
    exact ⟨_, Reads.int i t, by simp⟩
  | .str x, _, _, h, r => by
    simp only [Den] at h
    subst h
    obtain ⟨t, rfl⟩ := r
    exact ⟨_, Reads.str x t, by simp⟩
  | .list ds, _, _, h, r => by
    simp only [Den] at h
    obtain ⟨a, xs, rfl, h1, h2⟩ := h
    cases r
    obtain ⟨its, rv, ⟨o, n, ho, hc, _, hd⟩, _⟩ := I.list (.inl (.inl (e _ _ h1)))
    obtain ⟨as, hr, hn⟩ := dens_reads I e sy ds _ its h2 rv
    refine ⟨_, Reads.list ho hc hd hr, fun hm => ?_⟩
    rcases List.mem_cons.mp hm with hm | hm
    · exact sy.ne h1 hm
    · exact hn hm
  | .tuple ds, _, _, h, r => by
    simp only [Den] at h
    obtain ⟨a, xs, rfl, h1, h2⟩ := h
    cases r
    obtain ⟨its, rv, tp, _⟩ := I.tuple (ex_t e h1)
    obtain ⟨o, n, ho, hc, hd⟩ := isTup_reads tp
    obtain ⟨as, hr, hn⟩ := dens_reads I e sy ds _ its h2 rv
    exact ⟨_, Reads.tuple ho hc hd hr, hn⟩
  | .dict es, _, _, h, r => by
    simp only [Den] at h
    obtain ⟨a, kvs, rfl, h1, h2⟩ := h
    cases r
    obtain ⟨_, hs, vs, kv, o, ens, ep, ho, hx, hd, _, hp, _⟩ := (show ObjOk X.prog X.w H s.heap a (.dK kvs) from I.hok a _ (e _ _ h1))
    obtain ⟨as, bs, r1, r2, hn⟩ := denkv_reads I e sy es kvs vs ens.toList h2 kv hp
    obtain ⟨n1, n2⟩ := hn
    refine ⟨_, Reads.dict ho hx.1 hd r1 r2, ?_⟩
    intro hm
    simp only [List.cons_append, List.mem_cons, List.mem_append] at hm
    rcases hm with hm | hm | hm
    · rw [← hm] at hs
      simp at hs
    · exact n1 hm
    · exact n2 hm
theorem dens_reads (I : Inv X pins σ H s) (e : Ex F H) (sy : SyF F) : ∀ (ds : List D) (vs : List V) (us : List Value), Dens X.K F ds vs → Vals vs us → ∃ as, ReadsAll s.heap us ds as ∧ sysModules ∉ as
  | [], _, _, h, r => by
    simp only [Dens] at h
    subst h
    cases r
    exact ⟨_, ReadsAll.nil, by simp⟩
  | d :: ds, _, _, h, r => by
    simp only [Dens] at h
    obtain ⟨v, vr, rfl, h1, h2⟩ := h
    cases r with
    | cons r1 r2 =>
      obtain ⟨as, q1, n1⟩ := den_reads I e sy d v _ h1 r1
      obtain ⟨bs, q2, n2⟩ := dens_reads I e sy ds vr _ h2 r2
      refine ⟨_, ReadsAll.cons q1 q2, ?_⟩
      intro hm
      rcases List.mem_append.mp hm with hm | hm
      · exact n1 hm
      · exact n2 hm
theorem denkv_reads (I : Inv X pins σ H s) (e : Ex F H) (sy : SyF F) : ∀ (es : List (D × D)) (kvs : List (Key × V)) (vs : List (Key × Value)) (ens : List DictEntry), DenKV X.K F es kvs → KV kvs vs → Pairs (mixKind X.prog X.w) ens vs →
    ∃ as bs, ReadsAll s.heap (ens.map (·.key)) (es.map (·.1)) as ∧ ReadsAll s.heap (ens.map (·.val)) (es.map (·.2)) bs ∧ sysModules ∉ as ∧ sysModules ∉ bs
  | [], _, _, _, h, r, p => by
    simp only [DenKV] at h
    subst h
    cases r
    cases p
    exact ⟨_, _, ReadsAll.nil, ReadsAll.nil, by simp, by simp⟩
  | (k, d) :: es, _, _, _, h, r, p => by
    simp only [DenKV] at h
    obtain ⟨k', v, vr, rfl, hk, h1, h2⟩ := h
    cases r with
    | cons r1 r2 =>
      rename_i kv vs'
      obtain ⟨rk, rv⟩ := r1
      cases p with
      | cons p1 p2 p3 =>
        rename_i en ens'
        obtain ⟨as, q1, n1⟩ := den_reads I e sy d v _ h1 rv
        obtain ⟨as2, bs2, q2, q3, n2⟩ := denkv_reads I e sy es vr vs' _ h2 r2 p3
        have hkey : ∃ u, en.key = u ∧ Reads s.heap u k [] := by
          have rk' : k' = kv.1 := rk
          have p1' : keyIs kv.1 en.key = true := p1
          rw [← rk'] at p1'
          rcases keyIs_shape p1' with ⟨i, t, e1, e2⟩ | ⟨x, t, e1, e2⟩
          · subst e1; rw [hk]; exact ⟨_, e2, Reads.int i t⟩
          · subst e1; rw [hk]; exact ⟨_, e2, Reads.str x t⟩
        obtain ⟨u, hu, hr⟩ := hkey
        refine ⟨[] ++ as2, as ++ bs2, ?_, ?_, ?_⟩
        · simp only [List.map_cons]
          rw [hu]
          exact ReadsAll.cons hr q2
        · simp only [List.map_cons]
          rw [p2]
          exact ReadsAll.cons q1 q3
        · obtain ⟨z1, z2⟩ := n2
          refine ⟨by simpa using z1, fun hm => ?_⟩
          rcases List.mem_append.mp hm with hm | hm
          · exact n1 hm
          · exact z2 hm
end
theorem bden_reads (I : Inv X pins σ H s) (e : Ex F H) (sy : SyF F) {d : D} {v : V} {u : Value} (h : BDen X.K F H d v) (r : RelV v u) : ∃ as, Reads s.heap u d as ∧ sysModules ∉ as := by
  cases d with
  | list ds =>
    obtain ⟨a, xs, rfl, h1, h2⟩ := bd_list h
    cases r
    obtain ⟨its, rv, ⟨o, n, ho, hc, _, hd⟩, _⟩ := I.list (.inl (.inl h1))
    obtain ⟨as, hr, hn⟩ := dens_reads I e sy ds _ its h2 rv
    refine ⟨_, Reads.list ho hc hd hr, fun hm => ?_⟩
    rcases List.mem_cons.mp hm with hm | hm
    · exact (sy.mono e).ne h1 hm
    · exact hn hm
  | dict es =>
    obtain ⟨a, kvs, rfl, h1, h2⟩ := bd_dict h
    have h' : Den X.K H (.dict es) (.ref a) := by
      simp only [Den]
      exact ⟨a, kvs, rfl, h1, denkv_mono e _ _ h2⟩
    exact den_reads I (Ex.refl H) (sy.mono e) _ _ _ h' r
  | _ => exact den_reads I e sy _ _ _ h r
end
/-- repr of data that may be shown -/
def canShow (d : D) : Bool := d.showable && decide (d.shown.length ≤ bigLine) && decide (d.depth ≤ 50)
def gRepr : List D → Option Opd
  | [d] => if canShow d = true then some (.val (.str d.shown)) else none
  | _ => none
section
variable {X : Cx}
def rReprD (X : Cx) : List V → Hp → VK → Prop := fun xs H Q => ∃ F d x, xs = [x] ∧ Ex F H ∧ SyF F ∧ BDen X.K F H d x ∧ canShow d = true ∧ Q (.str d.shown) H
theorem call_reprD (hgu : X.A.guards = some []) (hu : X.A.units + 64 < cLine) : CallR X (.builtin "repr") (rReprD X) := by
  intro pins s σ H xs us Q I r h
  obtain ⟨F, d, x, rfl, e, sy, hb, hc, q⟩ := h
  obtain ⟨u, rfl, rx⟩ := vals1 r
  obtain ⟨as, hr, hn⟩ := bden_reads I e sy hb rx
  simp only [canShow, Bool.and_eq_true, decide_eq_true_eq, Bool.or_eq_true, Bool.not_eq_true'] at hc
  obtain ⟨⟨c1, c3⟩, c4⟩ := hc
  have hsz : d.shown.length ≤ sizeLine := big_le c3
  have hsm : d.hasDict = true → sysModules ∉ as := fun _ => hn
  have big : ∀ a, u = .ref a → wpAny (model X.prog X.w) X.A (call (.builtin "repr") [u]) (EP X pins σ Q) X.xe s := by
    intro a ea
    subst ea
    refine repr_of_reads' hr c1 hsm hgu (by omega) (fun _ _ z => z) (fun h' t tk hk => ?_) hsz
    exact ⟨.str d.shown, H, I.kept hk, ⟨t, rfl⟩, q⟩
  cases d with
  | none =>
    rw [bd_non hb] at rx
    cases rx
    exact PySem.P.repr_of_none ⟨.str _, H, I.tok _, ⟨_, rfl⟩, q⟩
  | bool b =>
    rw [bd_bl hb] at rx
    cases rx
    exact PySem.P.repr_of_bool ⟨.str _, H, I.tok _, ⟨_, rfl⟩, q⟩
  | int i =>
    rw [bd_int hb] at rx
    obtain ⟨t, rfl⟩ := rx
    exact PySem.P.repr_of_int (by simpa [PyData.showable] using c1) ⟨.str _, H, I.tok _, ⟨_, rfl⟩, q⟩
  | str z =>
    rw [bd_str hb] at rx
    obtain ⟨t, rfl⟩ := rx
    exact PySem.P.repr_of_str ⟨.str _, H, I.tok _, ⟨_, rfl⟩, q⟩ (by simpa only [PyData.shown] using hsz)
  | list ds =>
    obtain ⟨a, xs, rfl, _⟩ := bd_list hb
    cases rx
    exact big _ rfl
  | tuple ds =>
    obtain ⟨a, xs, rfl, _⟩ := bd_tup hb
    cases rx
    exact big _ rfl
  | dict ds =>
    obtain ⟨a, xs, rfl, _⟩ := bd_dict hb
    cases rx
    exact big _ rfl
theorem bi_repr (hgu : X.A.guards = some []) (hu : X.A.units + 64 < cLine) : Bi X (.builtin "repr") gRepr := by
  refine ⟨_, call_reprD hgu hu, fun F H xs ds o Q e sy hx hg q => ?_⟩
  unfold gRepr at hg
  split at hg
  · split at hg
    · rename_i d hc
      cases hg
      obtain ⟨v, rfl, h1⟩ := bdens1 hx
      exact ⟨F, _, v, rfl, e, sy, h1, hc, q _ _ (.same den_str)⟩
    · cases hg
  · cases hg
/-! ### isinstance -/
def tyN : D → String
  | .none => "NoneType"
  | .bool _ => "bool"
  | .int _ => "int"
  | .str _ => "str"
  | .list _ => "list"
  | .tuple _ => "tuple"
  | .dict _ => "dict"
def tyLike (T : String) : Prop := T = "int" ∨ T = "bool" ∨ T = "str" ∨ T = "tuple" ∨ T = "list" ∨ T = "dict"
def isiD (T : String) (d : D) : Bool := (kitB (tyN d) T).getD false
theorem kit_some {T : String} (h : tyLike T) (d : D) : kitB (tyN d) T = some (isiD T d) := by
  have e : ∃ b, kitB (tyN d) T = some b := by
    rcases h with rfl | rfl | rfl | rfl | rfl | rfl <;> cases d <;> (simp only [tyN]; exact Option.isSome_iff_exists.mp (by decide +kernel))
  obtain ⟨b, hb⟩ := e
  unfold isiD
  rw [hb]
  rfl
theorem bden_ty {F H : Hp} (e : Ex F H) {d : D} {v : V} (h : BDen X.K F H d v) : TyX X.K H v (.type (tyN d)) := by
  cases d with
  | none => rw [bd_non h]; exact .base .non
  | bool b => rw [bd_bl h]; exact .base (.bl b)
  | int i => rw [bd_int h]; exact .base (.int i)
  | str z => rw [bd_str h]; exact .base (.str z)
  | list ds =>
    obtain ⟨a, xs, rfl, h1, _⟩ := bd_list h
    exact .base (.lst h1)
  | dict ds =>
    obtain ⟨a, xs, rfl, h1, _⟩ := bd_dict h
    exact .base (.dK h1)
  | tuple ds =>
    obtain ⟨a, xs, rfl, h1, _⟩ := bd_tup h
    rcases ex_t e h1 with (h1 | ⟨o, h1⟩) | ⟨o, its, n, h1, h2, _⟩
    · exact .base (.tup h1)
    · exact .fTuple h1
    · exact .kTuple h1 h2
def eIsi (T : String) (f : PM Opd) : PM Opd := bnd (opn f) fun o => bnd (rsv o) fun d => ret (.val (.bool (isiD T d)))
theorem px_isi {bo : Bool} {W : WX} {e : Expr} {pos p pT : Pos} {T : String} {xT : Str} {f : PM Opd} (h : PX X bo W e f) (hT : tyLike T) (hm : X.mg "isinstance" = none) (hmT : X.mg xT = none) (hvT : bootBuiltins xT = some (.type T)) (hg : Gl X "isinstance" := by rfl) (hgT : Gl X xT := by rfl) (hnT : xT ≠ "__name__" := by decide) (hdT : (xT == ("__debug__" : Str)) = false := by decide)
    (h1 : starEach [.Name xT pT] X.env = (false, eval (.Name xT pT) X.env) :: starEach [] X.env := by rfl)
    (he : starEach [e, .Name xT pT] X.env = (false, eval e X.env) :: starEach [.Name xT pT] X.env := by rfl) (hpl : (backTo pos (starEach [.Name xT pT] X.env)).any (·.1) = false := by rfl) :
    PX X bo W (.Call (.Name "isinstance" p) [e, .Name xT pT] [] pos) (eIsi T f) := by
  obtain ⟨t, k1, k2⟩ := px_opn h
  refine ⟨_, pe_callB call_isi hg hm boot_isinstance (pa_cons k1 (pa_cons (pe_bltn (v := .ty T) hgT hmT hvT rfl hnT hdT) pa_nil h1) he) (by decide) (by decide) he hpl, fun c fp F env σ H Q hc R g => ?_⟩
  refine k2 c fp F env σ H _ hc R ((Goes.bnd g).mono (Ex.refl F) fun fp1 F1 env1 H1 o e1 R1 g1 v hn hv => ?_)
  obtain ⟨d, q1, g2⟩ := rsv_ok R1 hv g1
  exact ⟨v, .ty T, .type (tyN d), .type T, isiD T d, rfl, .ty T, bden_ty R1.fh q1, kit_ty (kit_some hT d), g2 fp1 F1 H1 R1 (Ex.refl F1) _ (den_bl (K := X.K) (F := F1))⟩
end
end Pu

namespace Pu
open PySem PySem.Spec PyProof.Rows L2
/-! ### enumerate of a tuple -/
def EnumObj (at_ : Addr) : Obj := { cls := .type "enumerate", data := .fields #[.none, .bool false, .ref at_, rawInt 0, .none, .none] }
set_option maxHeartbeats 1000000 in
theorem meets_enum1 {v : Value} {o : Obj} {H : Heap → Prop} (B : Begins v o H) :
    Meets (Builtin.«enumerate.__new__» ⟨[.type "enumerate", v], []⟩) (fun _ R s => H s.heap ∧ R (.ok (.ret (.ref (s.heap.push o).objs.size))) { s with heap := (s.heap.push o).push (EnumObj s.heap.objs.size) }) :=
  .of_wp fun prog w A R s h => by
    obtain ⟨hp, g, d, tk, os⟩ := s
    obtain ⟨h1, h⟩ := h
    have hsub := sub_enumerate
    have begin_ : ∀ {A' : Around} {E : Value → Shared → Prop} {Q : Value → Shared → Prop}, Q (.ref hp.objs.size) ⟨hp.push o, g, d, tk, os⟩ → wpAny (model prog w) A' (pyIter v) Q E ⟨hp, g, d, tk, os⟩ :=
      fun q => B.iter prog w _ _ ⟨hp, g, d, tk, os⟩ _ h1 q
    wp_walk using begin_
    refine wpAny_stack_any fun st => wpAny_pure ?_
    split
    · rename_i c _ _ _ _ _
      cases (c == Value.type "enumerate")
      all_goals
        wp_walk using begin_
        exact ⟨_, rfl, h⟩
    · wp_walk using begin_
      exact ⟨_, rfl, h⟩
theorem enum1_begins {prog : Program} {w : World} {A : Around} {E : Value → Shared → Prop} {s : Shared} {v : Value} {o : Obj} {H : Heap → Prop} {Q : Value → Shared → Prop} (B : Begins v o H) (h1 : H s.heap)
    (h : ∀ h', IsEnum h' (s.heap.objs.size + 1) s.heap.objs.size 0 .none → h'.get? s.heap.objs.size = some o → (∀ b u, s.heap.get? b = some u → h'.get? b = some u) → Q (.ref (s.heap.objs.size + 1)) { s with heap := h' }) :
    wpAny (model prog w) A (call (.type "enumerate") [v]) Q E s := by
  refine callType_new F.called_enumerate (by decide) (F.typeCall_enumerate_1 _) (F.newCall_enumerate_1 _) (fun obj => F.args_object_init_2 obj _) F.entry_enumerate_new (meets_enum1 B) ⟨h1, ?_⟩
  have hz : (s.heap.push o).objs.size = s.heap.objs.size + 1 := Heap.size_push ..
  have he : IsEnum ((s.heap.push o).push (EnumObj s.heap.objs.size)) (s.heap.objs.size + 1) s.heap.objs.size 0 .none := by
    have z := Heap.get?_push_size (s.heap.push o) (o := EnumObj s.heap.objs.size) rfl
    rw [hz] at z
    exact z
  show _ ∧ _
  rw [hz]
  exact ⟨⟨_, he, rfl⟩, h _ he (Heap.get?_push_of_some _ (Heap.get?_push_size _ B.free)) fun b u x => Heap.get?_push_of_some _ (Heap.get?_push_of_some _ x)⟩
/-- the tuple at a, each item in a new pair -/
def IteT (K : PySem.W.Frag) (a : Addr) : It where
  go := fun i H => ∃ (xs : List V) (x : V), SqT K H a xs ∧ xs[i]? = some x
  yld := fun i H v H' => ∃ T x, v = .ref T ∧ H T = none ∧ H' = upd H T (.tup [.int (i : Nat), x]) ∧ ∀ xs, SqT K H a xs → xs[i]? = some x
  stop := fun i H => ∃ xs : List V, SqT K H a xs ∧ xs.length = i
theorem turn_enumT {P : Program} {w : World} {K : PySem.W.Frag} {elts : List Expr} {kk : Nat} {tpos : Pos} (a e it : Addr) :
    Turn P w K (.Tuple elts kk tpos) (IteT K a) [e, it] e (fun i h => (∃ old, IsEnum h e it (0 + (i : Int)) old) ∧ h.IsTupleIter it a i ∧ e ≠ it) where
  mem := by simp
  obj := by
    rintro i h ⟨⟨old, he⟩, ⟨o, ho, hc, hd⟩, _⟩ b hb
    have e' : b = e ∨ b = it := by simpa using hb
    rcases e' with rfl | rfl
    · exact ⟨_, he, fun v q => nomatch q⟩
    · exact ⟨o, ho, fun v q => by rw [hd] at q; cases q⟩
  keep := by
    rintro i h h' ⟨⟨old, he⟩, hi, hne⟩ k
    exact ⟨⟨old, k e (by simp) _ he⟩, hi.at fun o q => k it (by simp) o q, hne⟩
  item := by
    rintro X rfl rfl rfl hc i pins s σ H E I hf ⟨⟨old, he⟩, hit, hne⟩ ⟨xs, x, hq, hx⟩
    obtain ⟨its, rv, tp, hz⟩ := I.tuple hq
    obtain ⟨u, hu, ru⟩ := rv.get hx
    have hel : e < s.heap.objs.size := Heap.lt_size he
    have hil : it < s.heap.objs.size := by obtain ⟨_, q, _⟩ := hit; exact Heap.lt_size q
    have hnone : ∀ b ∈ [e, it], H b = none := fun b hb => (hf b hb).1
    have tup_ne : ∀ b ∈ [e, it], a ≠ b := by
      intro b hb z
      have e' : b = e ∨ b = it := by simpa using hb
      obtain ⟨o, ho, hcls, n, hd⟩ := tp
      rcases e' with rfl | rfl
      · rw [z, he] at ho
        cases ho
        have h2 : Value.type "enumerate" = Value.type "tuple" := hcls
        exact absurd h2 (by decide)
      · obtain ⟨o2, ho2, hc2, _⟩ := hit
        rw [z, ho2] at ho
        cases ho
        rw [hc2] at hcls
        exact absurd hcls (by decide)
    have Gd := GoesN.enumFrom (prog := X.prog) (w := X.w) (A := X.A) (elts := elts) (x1 := kk) (pos := tpos) 0 (Draws.tuple (w := X.w) (prog := X.prog) (A := X.A.in1) (I.ok.hd hc) it a (tup_ne it (by simp)) its.toArray) e hne
      (by simp only [List.mem_cons, List.not_mem_nil, or_false, not_or]; exact ⟨hne, fun z => tup_ne e (by simp) z.symm⟩) (by simp)
    have hi : i < its.toArray.size := by
      have := (List.getElem?_eq_some_iff.mp hu).1
      simpa using this
    refine Gd.goes i s (fun v s2 => ∃ x H', Inv X pins σ H' s2 ∧ RelV x v ∧ (IteT X.K a).yld i H x H' ∧ ((∃ old, IsEnum s2.heap e it (0 + ((i + 1 : Nat) : Int)) old) ∧ s2.heap.IsTupleIter it a (i + 1) ∧ e ≠ it) ∧ ∀ b ∈ [e, it], H' b = none) E hi ⟨⟨old, he⟩, hit, tp⟩ ?_
    rintro v h' tk ⟨T, t', x', rfl, hT, hx', hTup⟩ ⟨hen, hit', _⟩ hk _
    have ex : x' = u := by
      have : its.toArray[i]? = some u := by simpa using hu
      rw [this] at hx'
      exact (Option.some.inj hx').symm
    subst ex
    have new : ObjOk X.prog X.w (upd H T (.tup [.int (i : Nat), x])) h' T (.tup [.int (i : Nat), x]) := by
      refine ⟨by show 2 ≤ sizeLine; decide, [.int (0 + (i : Int)) t', x'], .cons ⟨t', by rw [Int.zero_add]⟩ (.cons ru .nil), ?_⟩
      obtain ⟨o, ho, hcl, n, hd⟩ := hTup
      exact ⟨o, ho, hcl, n, hd⟩
    have I1 : Inv X pins σ (upd H T (.tup [.int (i : Nat), x])) { s with heap := h', toks := tk } := I.turnedNew (ch := [e, it]) hk hf hT new
    refine ⟨.ref T, _, I1, rfl, ⟨T, x, rfl, I.hok.fresh hT, rfl, fun ys hy => by rw [I.tuple_inj hy hq]; exact hx⟩, ⟨hen, hit', hne⟩, fun b hb => ?_⟩
    have hlt : b < s.heap.objs.size := by
      have e' : b = e ∨ b = it := by simpa using hb
      rcases e' with rfl | rfl
      · exact hel
      · exact hil
    rw [upd_ne (Nat.ne_of_lt (Nat.lt_of_lt_of_le hlt hT))]
    exact hnone b hb
  done := by
    rintro X rfl rfl rfl hc i pins s σ H E I hf ⟨⟨old, he⟩, hit, hne⟩ ⟨xs, hq, hx⟩
    obtain ⟨its, rv, tp, hz⟩ := I.tuple hq
    have tup_ne : ∀ b ∈ [e, it], a ≠ b := by
      intro b hb z
      have e' : b = e ∨ b = it := by simpa using hb
      obtain ⟨o, ho, hcls, n, hd⟩ := tp
      rcases e' with rfl | rfl
      · rw [z, he] at ho
        cases ho
        have h2 : Value.type "enumerate" = Value.type "tuple" := hcls
        exact absurd h2 (by decide)
      · obtain ⟨o2, ho2, hc2, _⟩ := hit
        rw [z, ho2] at ho
        cases ho
        rw [hc2] at hcls
        exact absurd hcls (by decide)
    have Gd := GoesN.enumFrom (prog := X.prog) (w := X.w) (A := X.A) (elts := elts) (x1 := kk) (pos := tpos) 0 (Draws.tuple (w := X.w) (prog := X.prog) (A := X.A.in1) (I.ok.hd hc) it a (tup_ne it (by simp)) its.toArray) e hne
      (by simp only [List.mem_cons, List.not_mem_nil, or_false, not_or]; exact ⟨hne, fun z => tup_ne e (by simp) z.symm⟩) (by simp)
    have hn : its.toArray.size = i := by
      rw [List.size_toArray, ← rv.length]
      exact hx
    refine Gd.stops s (fun s1 => Inv X pins σ H s1) E (by rw [hn]; exact ⟨⟨old, he⟩, hit, tp⟩) ?_
    intro h' tk hk _
    exact I.turnedL (t' := tk) (ch := [e, it]) hk hf
  self := by
    rintro A i s Q E ⟨⟨_, he⟩, _⟩ h
    exact wpAny_pyIter_enum he h
theorem walk_enumT {K : PySem.W.Frag} {a : Addr} {xs : List V} : Walk (IteT K a) xs.length (fun H => SqT K H a xs) (YPair (fun i => some (.int (i : Nat))) (fun i => xs[i]?)) where
  goes := fun i _ hi q => ⟨xs, xs[i], q, by simp [hi]⟩
  stops := fun _ q => ⟨xs, q, rfl⟩
  yields := fun i H v H' _ q y => by
    obtain ⟨T, x, h1, h2, h3, h4⟩ := y
    exact ⟨T, .int (i : Nat), x, h1, h2, h3, rfl, h4 xs q⟩
section
variable {X : Cx} {bo : Bool} {W : WX} {e : Expr} {es elts : List Expr} {pos p tpos : Pos} {kk : Nat} {x : Str}
def iEnumA (K : PySem.W.Frag) (ta : TE) : TI := fun σ H R => ta σ H fun v H1 => ∃ a xs, v = .ref a ∧ ((SqL K H1 a xs ∧ R (Ite K a) H1) ∨ (SqT K H1 a xs ∧ R (IteT K a) H1))
theorem pi_enumA {ta : TE} (hg : Gl X "enumerate") (hm : X.mg "enumerate" = none) (ha : PE X e ta) (hs : starEach [e] X.env = [(false, eval e X.env)] := by rfl) (hs2 : starEach [e] X.env = (false, eval e X.env) :: starEach [] X.env := by rfl) :
    PI X (.Tuple elts kk tpos) (.Call (.Name "enumerate" p) [e] [] pos) (iEnumA X.K ta) := by
  constructor
  intro pins s σ H R I h
  refine Call_ (ld_blt I hg hm boot_enumerate (PyProof.Rows.callWith_type1 (thn ((pa_cons ha pa_nil hs2).run pos pins s σ H _ I (show tCons ta tNil σ H (fun vs H1 => ∃ a xs, vs = [.ref a] ∧ ((SqL X.K H1 a xs ∧ R (Ite X.K a) H1) ∨ (SqT X.K H1 a xs ∧ R (IteT X.K a) H1))) from ?_)) ?_) hs rfl))
  · unfold tCons
    unfold iEnumA at h
    have : (fun (x : V) (H1 : Hp) => tNil σ H1 fun xs_1 H2 => ∃ a xs, x :: xs_1 = [.ref a] ∧ ((SqL X.K H2 a xs ∧ R (Ite X.K a) H2) ∨ (SqT X.K H2 a xs ∧ R (IteT X.K a) H2))) = (fun v H1 => ∃ a xs, v = .ref a ∧ ((SqL X.K H1 a xs ∧ R (Ite X.K a) H1) ∨ (SqT X.K H1 a xs ∧ R (IteT X.K a) H1))) := by
      funext v H1
      apply propext
      constructor
      · rintro ⟨a, xs, e1, q⟩
        exact ⟨a, xs, (List.cons.inj e1).1, q⟩
      · rintro ⟨a, xs, rfl, q⟩
        exact ⟨a, xs, rfl, q⟩
    rw [this]
    exact h
  · rintro us s1 ⟨vs, H1, I1, r1, a, xs, rfl, q⟩
    obtain ⟨u, rfl, r⟩ := vals1 r1
    cases r
    have fresh : ∀ b ∈ [s1.heap.objs.size + 1, s1.heap.objs.size], FpOk X pins H1 b := by
      intro b hb
      have hle : s1.heap.objs.size ≤ b := by
        have e' : b = s1.heap.objs.size + 1 ∨ b = s1.heap.objs.size := by simpa using hb
        rcases e' with rfl | rfl
        · exact Nat.le_add_right _ _
        · exact Nat.le_refl _
      exact I1.fpOk hle (I1.hok.fresh hle)
    rcases q with ⟨hq, q⟩ | ⟨hq, q⟩
    · obtain ⟨its, rv, pl, _⟩ := I1.list hq
      refine call_enumerate_list pl.isList fun h' he hit _ hk => wpAny_pyIter_enum he ?_
      exact ⟨s1.heap.objs.size + 1, [s1.heap.objs.size + 1, s1.heap.objs.size], _, _, H1, rfl, I1.kept (t' := s1.toks) hk, turn_enum a _ _, ⟨⟨.none, he⟩, hit, Nat.succ_ne_self _⟩, fresh, q⟩
    · obtain ⟨its, rv, tp, _⟩ := I1.tuple hq
      refine enum1_begins (begins_tuple a its.toArray) tp fun h' he ho hk => wpAny_pyIter_enum he ?_
      exact ⟨s1.heap.objs.size + 1, [s1.heap.objs.size + 1, s1.heap.objs.size], _, _, H1, rfl, I1.kept (t' := s1.toks) hk, turn_enumT a _ _, ⟨⟨.none, by rw [Int.zero_add]; exact he⟩, ⟨_, ho, rfl, rfl⟩, Nat.succ_ne_self _⟩, fresh, q⟩
def enumD (ds : List D) : List D := (ds.zipIdx).map fun p => .tuple [.int (p.2 : Nat), p.1]
theorem enumD_len (ds : List D) : (enumD ds).length = ds.length := by simp [enumD]
theorem enumD_get (ds : List D) (i : Nat) : (enumD ds)[i]? = (ds[i]?).map fun d => .tuple [.int (i : Nat), d] := by
  simp only [enumD, List.getElem?_map, List.getElem?_zipIdx]
  cases ds[i]? <;> simp
theorem steady_enum {K : PySem.W.Frag} {c : Ct} {F' : Hp} {ds : List D} {xs : List V} {Gp : Hp → Prop} (hG : ∀ F H, Ex F' F → Ex F H → Gp H) (hd : Dens K F' ds xs) : Steady K c F' (enumD ds) Gp (YPair (fun i => some (.int (i : Nat))) (fun i => xs[i]?)) := by
  refine ⟨hG, fun i fp F env σ H x H' hi R e y => ?_⟩
  obtain ⟨T, z1, z2, rfl, hT, rfl, h1, h2⟩ := y
  cases h1
  obtain ⟨d, hd1, hd2⟩ := dens_get hd h2
  obtain ⟨n1, n2, n3⟩ := R.free hT
  refine ⟨_, .tuple [.int (i : Nat), d], ?_, R.new hT, Ex.new n1, ?_, Ex.new hT⟩
  · rw [enumD_get, hd1]
    rfl
  · simp only [Den, Dens]
    exact ⟨T, _, rfl, .inl (.inl upd_same), _, _, rfl, rfl, _, _, rfl, den_mono (e.trans (Ex.new n1)) _ _ hd2, rfl⟩
def eEnum (f : PM Opd) : PM (List D) := bnd (eIter f) fun ds => ret (enumD ds)
theorem pix_enum {f : PM Opd} (hm : X.mg "enumerate" = none) (h : PX X bo W e f) (hg : Gl X "enumerate" := by rfl) (hs : starEach [e] X.env = [(false, eval e X.env)] := by rfl) (hs2 : starEach [e] X.env = (false, eval e X.env) :: starEach [] X.env := by rfl) : PIX X bo W (.Tuple elts kk tpos) (.Call (.Name "enumerate" p) [e] [] pos) (eEnum f) := by
  obtain ⟨t, h1, h2⟩ := h
  refine ⟨_, pi_enumA hg hm h1 hs hs2, fun c fp F env σ H R hc Rl g => ?_⟩
  unfold eEnum at g
  rw [eIter_bnd, bnd_assoc] at g
  refine h2 c fp F env σ H _ hc Rl ((Goes.bnd g).mono (Ex.refl F) fun fp1 F1 env1 H1 o e1 R1 g1 v hv => ?_)
  rw [bnd_assoc] at g1
  obtain ⟨d, fp2, F2, env2, R2, e2, hd, g2⟩ := frz_ok R1 hv g1
  obtain ⟨ds, hds, g3⟩ := goes_lift_bnd g2
  cases d with
  | list ds' =>
    have hds' := Option.some.inj hds
    subst hds'
    simp only [Den] at hd
    obtain ⟨a, xs, rfl, k1, k2⟩ := hd
    have wk : Walk (Ite X.K a) (enumD ds').length (fun H => SqL X.K H a xs) (YPair (fun i => some (.int (i : Nat))) (fun i => xs[i]?)) := by rw [enumD_len, ← dens_len k2]; exact walk_enum
    refine ⟨a, xs, rfl, .inl ⟨.inl (.inl (R2.fh _ _ k1)), g3 fp2 F2 H1 R2 e2 _ _ _ wk fun c' => steady_enum (fun F3 H3 e3 e4 => .inl (.inl (e4 _ _ (e3 _ _ k1)))) k2⟩⟩
  | tuple ds' =>
    have hds' := Option.some.inj hds
    subst hds'
    simp only [Den] at hd
    obtain ⟨a, xs, rfl, k1, k2⟩ := hd
    have wk : Walk (IteT X.K a) (enumD ds').length (fun H => SqT X.K H a xs) (YPair (fun i => some (.int (i : Nat))) (fun i => xs[i]?)) := by rw [enumD_len, ← dens_len k2]; exact walk_enumT
    refine ⟨a, xs, rfl, .inr ⟨ex_t R2.fh k1, g3 fp2 F2 H1 R2 e2 _ _ _ wk fun c' => steady_enum (fun F3 H3 e3 e4 => ex_t e4 (ex_t e3 k1)) k2⟩⟩
  | _ => cases hds
end
end Pu

namespace Pu
open PySem PySem.Spec PyProof.Rows L2
section
variable {X : Cx} {bo : Bool} {W : WX} {e : Expr} {es : List Expr} {pos p : Pos} {x : Str} {CX : CXT} {k n : Nat} {f : Addr} {fd : FuncData} {ps : List Str}
/-! ### {} and {'k': e} -/
theorem px_dnew : PX X bo W (.Dict [] [] pos) (ret (.val (.dict []))) := by
  refine ⟨_, pe_dnewK, fun c fp F env σ H Q hc R g q hq => ?_⟩
  obtain ⟨F2, R2, e2, k2⟩ := R.got (Got.dic (K := X.K) (es := []) (kvs := []) hq (by simp only [DenKV]))
  exact g fp F2 _ R2 e2 _ k2
def noExc {α : Type} (f : PM α) : PM α := fun env => match f env with
  | .ok a e => .ok a e
  | _ => .bad
def eDict1 (z : Str) (f : PM Opd) : PM Opd := bnd (noExc (kept f)) fun d => ret (.val (.dict [(.str z, d)]))
theorem px_disp1 {z : Str} {j : Nat} {pk : Pos} {f : PM Opd} (h : PX X bo W0 e f) : PX X bo W (.Dict [some (.Constant (.str z) j pk)] [e] pos) (eDict1 z f) := by
  obtain ⟨t, h1, h2⟩ := h
  refine ⟨_, pe_disp (pps_cons pe_str h1 pps_nil) rfl rfl (by simp) (by simp), fun c fp F env σ H Q hc R g q hq => ?_⟩
  obtain ⟨n1, n2, n3⟩ := R.free hq
  have R1 := R.newH (o := .dK []) hq
  show t σ (upd H q (.dK [])) _
  refine h2 (c.sub fp F (upd H q (.dK []))) fp F env σ _ _ hc R1.into ?_
  cases ef : f env with
  | bad => simp only [eDict1, bnd, noExc, kept, ef] at g; exact g.elim
  | exc x' e' => simp only [eDict1, bnd, noExc, kept, ef] at g; exact g.elim
  | ok o env1 =>
    intro fp1 F1 H1 R2 e2 v hv
    obtain ⟨p1, p2, p3⟩ := R2.aside upd_same n1 n3
    refine ⟨p1, [(Sum.inr z, v)], rfl, by simp, ?_⟩
    have gk : Goes X.K (c.sub fp F (upd H q (.dK []))) W0 σ F1 (bnd (frz o) (fun d => ret (d, ())) env1) (fun fp' F' env' H' r => ∃ d, r = (d, ()) ∧ eDict1 z f env = .ok (.val (.dict [(.str z, d)])) env') := by
      simp only [eDict1, bnd, noExc, kept, ef] at g ⊢
      cases ez : frz o env1 with
      | bad => simp only [ez] at g; exact g.elim
      | exc _ _ => simp only [ez] at g; exact g.elim
      | ok d e' =>
        simp only [ez] at g ⊢
        exact fun _ _ _ _ _ => ⟨d, rfl, rfl⟩
    obtain ⟨d, fp3, F3, env3, R3, e3, den, g3⟩ := frz_ok R2 hv gk
    obtain ⟨q1, q2, q3⟩ := R3.aside upd_same n1 n3
    obtain ⟨d', hd', he⟩ := g3 fp3 F3 H1 R3 e3
    have hdd : d = d' := by
      have := congrArg Prod.fst hd'
      exact this
    subst hdd
    rw [he] at g
    -- the dict takes its place, and is laid down
    have R4 := (R1.outof R3).over (u := .dK [(Sum.inr z, v)]) q1 q2 q3 n2
    have hk : mergeK [] [(Sum.inr z, v)] = [(Sum.inr z, v)] := rfl
    rw [hk]
    have e5 : Ex F3 (upd F3 q (.dK [(Sum.inr z, v)])) := Ex.new q2
    have R5 : Rel X.K c fp3 (upd F3 q (.dK [(Sum.inr z, v)])) env3 σ (upd H1 q (.dK [(Sum.inr z, v)])) := by
      refine R4.grow e5 (fun a u z => ?_) (Ex.refl _) (fun a z => ?_)
      · by_cases ha : a = q
        · subst ha; rw [upd_same] at z ⊢; exact z
        · rw [upd_ne ha] at z
          exact R4.fh a u z
      · rcases upd_some z with rfl | z
        · exact .inr ⟨n2, q3⟩
        · exact .inl z
    refine g fp3 _ _ R5 ((e2.trans e3).trans e5) _ ?_
    show Den X.K _ (.dict _) _
    simp only [Den, DenKV]
    exact ⟨q, _, rfl, upd_same, Sum.inr z, v, [], rfl, rfl, den_mono e5 _ _ den, rfl⟩
/-! ### f(k = e, ..): all by name -/
def PKF (X : Cx) (bo : Bool) (W : WX) (kws : List Keyword) (f : PM (List D)) : Prop :=
  ∃ t, PK X kws t ∧ ∀ c fp F env σ H (Q : List V → Hp → Prop), OkC c bo → Rel X.K c fp F env σ H →
    Goes X.K c W σ F (f env) (fun fp' F' env' H' ds => ∀ vs, vs.length = kws.length → Dens X.K F' ds vs → Q vs H') → t σ H Q
theorem pkf_nil : PKF X bo W [] (ret []) := ⟨_, pk_nil, fun c fp F env σ H Q hc R g => g fp F H R (Ex.refl F) [] rfl (by simp only [Dens])⟩
theorem pkf_cons {nm : Option Str} {kpos : Pos} {kws : List Keyword} {f : PM Opd} {fs : PM (List D)} (ha : PX X bo W e f) (hr : PKF X bo W kws fs) : PKF X bo W (⟨nm, e, kpos⟩ :: kws) (bnd (kept f) fun d => bnd fs fun ds => ret (d :: ds)) := by
  obtain ⟨t1, h1, h2⟩ := ha
  obtain ⟨t2, h3, h4⟩ := hr
  refine ⟨_, pk_cons h1 h3, fun c fp F env σ H Q hc R g => ?_⟩
  rw [kept_bnd] at g
  refine h2 c fp F env σ H _ hc R ((Goes.bnd g).mono (Ex.refl F) fun fp1 F1 env1 H1 o e1 R1 g1 v hv => ?_)
  obtain ⟨d, fp2, F2, env2, R2, e2, hd, g2⟩ := frz_ok R1 hv g1
  refine h4 c fp2 F2 env2 σ H1 _ hc R2 ?_
  refine (Goes.bnd g2).mono e2 fun fp3 F3 env3 H3 ds e3 R3 g3 vs hl hds => ?_
  refine g3 fp3 F3 H3 R3 (Ex.refl F3) (v :: vs) (by simp [hl]) ?_
  simp only [Dens]
  exact ⟨v, vs, rfl, den_mono e3 d v hd, hds⟩
/-- the order of the names: where the i-th parameter's value stands among the keywords -/
def permV {α : Type} (is : List Nat) (xs : List α) : List α := is.filterMap fun i => xs[i]?
theorem perm_vals {is : List Nat} {vs : List V} {us : List Value} (r : Vals vs us) (h : ∀ i ∈ is, i < vs.length) : Vals (permV is vs) (permV is us) := by
  induction is with
  | nil => exact .nil
  | cons i is ih =>
    have hi : i < vs.length := h i (by simp)
    obtain ⟨u, hu, ru⟩ := r.get (List.getElem?_eq_getElem hi)
    have e1 : permV (i :: is) vs = vs[i] :: permV is vs := by unfold permV; rw [List.filterMap_cons, List.getElem?_eq_getElem hi]
    have e2 : permV (i :: is) us = u :: permV is us := by unfold permV; rw [List.filterMap_cons, hu]
    rw [e1, e2]
    exact .cons ru (ih fun j hj => h j (List.mem_cons_of_mem _ hj))
theorem perm_dens {K : PySem.W.Frag} {F : Hp} {is : List Nat} {ds : List D} {vs : List V} (r : Dens K F ds vs) (h : ∀ i ∈ is, i < vs.length) : Dens K F (permV is ds) (permV is vs) ∧ (permV is vs).length = is.length := by
  induction is with
  | nil => exact ⟨by simp [permV, Dens], rfl⟩
  | cons i is ih =>
    have hi : i < vs.length := h i (by simp)
    obtain ⟨d, hd, rd⟩ := dens_get r (List.getElem?_eq_getElem hi)
    have e1 : permV (i :: is) vs = vs[i] :: permV is vs := by unfold permV; rw [List.filterMap_cons, List.getElem?_eq_getElem hi]
    have e2 : permV (i :: is) ds = d :: permV is ds := by unfold permV; rw [List.filterMap_cons, hd]
    obtain ⟨z1, z2⟩ := ih fun j hj => h j (List.mem_cons_of_mem _ hj)
    rw [e1, e2]
    simp only [Dens]
    exact ⟨⟨_, _, rfl, rd, z1⟩, by simp [z2]⟩
def KwBinds (fd : FuncData) (ps ks : List Str) (is : List Nat) : Prop := ∀ (s : Shared) (ws : List Value), ws.length = ks.length → BindsTo s fd ⟨[], ks.zip ws⟩ (ps.zip (permV is ws))
def eCallK (is : List Nat) (S : List D → FR) (fs : PM (List D)) : PM Opd := bnd fs fun ds => frOf (S (permV is ds))
theorem px_callK {S : List D → FR} {ks : List Str} {is : List Nat} {kws : List Keyword} {fs : PM (List D)} (F : FnG X.prog X.w X.K X.mg X.base CX k f fd ps (SpA X.K n S)) (hr : Room k X.A) (hgu : X.A.guards = some []) (hm : X.mg x = some (.ref f)) (hk : PySem.W.keepIn X.K (.ref f) = true) (hx : ∀ σ, PassesAt CX X σ (WE W σ))
    (hb : KwBinds fd ps ks is) (ha : PKF X bo W kws fs) (hlen : kws.length = ks.length := by rfl) (his : ∀ i ∈ is, i < ks.length := by decide) (hn : is.length = n := by rfl) (hg : Gl X x := by rfl) (hall : (backToKw pos (keywordEach kws X.env)).all (·.1.isSome) = true := by rfl) (hks : (backToKw pos (keywordEach kws X.env)).filterMap (·.1) = ks := by rfl)
    (hdb : (x == ("__debug__" : Str)) = false := by decide) (hpl : ((backTo pos (starEach [] X.env)).any (·.1) || (backToKw pos (keywordEach kws X.env)).any (·.1.isNone)) = false := by rfl) :
    PX X bo W (.Call (.Name x p) [] kws pos) (eCallK is S fs) := by
  obtain ⟨t, h1, h2⟩ := ha
  refine ⟨fun σ H Q => t σ H fun vs H1 => vs.length = ks.length ∧ SpA X.K n S (permV is vs) H1 Q (WE W σ), ⟨?_⟩, fun c fp F0 env σ H Q hc R g => ?_⟩
  · intro pins s σ H Q I h
    refine wpAny_Call_Name_kw (ld_glob I hg hm ?_ hdb)
    refine PySem.W.callWith_KW0 (h₀ := X.base) I.ok.mod.kin hk hall (thn (h1.run pos pins s σ H _ I h) ?_) hpl
    rintro ws s1 ⟨vs, H1, I1, r, hl, q⟩
    refine ⟨I1.kIn, ?_⟩
    rw [hks]
    exact run_g F hr hgu (hb s1 ws (by rw [← r.length]; exact hl)) (hx σ) I1 (perm_vals r fun i hi => by rw [hl]; exact his i hi) q
  · refine h2 c fp F0 env σ H _ hc R ((Goes.bnd g).mono (Ex.refl F0) fun fp1 F1 env1 H1 ds e1 R1 g1 vs hl hd => ⟨hl.trans hlen, ?_⟩)
    obtain ⟨z1, z2⟩ := perm_dens (is := is) hd fun i hi => by rw [hl.trans hlen]; exact his i hi
    exact rd_callA R1 (z2.trans hn) z1 g1
end
end Pu

namespace Pu
open PySem PySem.Spec PyProof.Rows L2
section
variable {P : Program} {w : World} {K : PySem.W.Frag} {mg : Str → Option Value} {base : Heap} {CX : CXT} {k : Nat} {f : Addr} {fd : FuncData} {ps N : List Str} {x qual : Str} {st : Stmt}
abbrev Ctx0 (P : Program) (w : World) (K : PySem.W.Frag) (mg : Str → Option Value) (base : Heap) (N : List Str) (qual : Str) (st : Stmt) (f : Addr) (cdv : Value) (A : Around) (outer : List Env) (s : Shared) (H : Hp) (E : XK) : Cx :=
  (cxOf CX0 P w K mg base N qual (defScope st) f cdv A outer s H E).nox
/-- the wish of a def that lets out what E tells -/
abbrev WD (E : XK) : WX := fun cls d _ H => E cls d H
theorem pass0A {X : Cx} {W : WX} : ∀ σ, PassesAt CX0 X σ (WE W σ) := fun _ _ _ _ _ _ _ z => z.elim
/-- a def of data that raises nothing -/
theorem fnA_of {n m : Nat} {g : PM Out} (F : Fun K x qual st f fd) (S : FnScope N ps (defScope st)) (hn : ps.length = n) (hm : N.length = m)
    (hder : ∀ (cdv : Value) (A : Around) (outer : List Env) (s : Shared) (H : Hp) (E : XK), Room k (A.deeper (envOfC qual (defScope st) s.heap.objs.size f cdv)) → A.guards = some [] → PSsX (Ctx0 P w K mg base N qual st f cdv A outer s H E) false (WD E) (defBody st) g) :
    FnG P w K mg base CX0 (k + 1) f fd ps (SpA K n (runA m g)) := by
  subst hn hm
  refine fng_of F S ?_ ?_
  · rintro vs H Q E ⟨F, ds, _, _, h, _⟩
    exact h
  · rintro cdv A outer s H vs Q E hr hgu ⟨F0, ds, e, sy, hl, hd, h⟩
    obtain ⟨t, h1, h2⟩ := hder cdv A outer s H E hr hgu
    refine ⟨t, h1.nox, ?_⟩
    have hN : vs.length ≤ N.length := by
      rw [hl]
      have := congrArg List.length S.pre
      rw [List.length_take] at this
      omega
    exact h2 (ctA F0 H) _ F0 _ _ H _ (fun z => absurd rfl z) (rel_startA e sy hd hN) (spA_body e hd hN h)
def ctB (F H : Hp) (a : Addr) (bw : List Addr) : Ct := ⟨H, F, fun q => q ∈ bw, fun _ => False, some (a, bw)⟩
theorem rel_startB {F H : Hp} {t : Ab} {a : Addr} {bw : List Addr} {ds : List D} {vs : List V} (e : Ex F H) (sy : SyF F) (hab : AbAt H t (.ref a) bw) (hF : ∀ q ∈ bw, F q = none) (hd : Dens K F ds vs) (hl : (V.ref a :: vs).length ≤ N.length) :
    Rel K (ctB F H a bw) (fpSet (fun _ => []) 0 bw) F (envOf N.length (.ab t :: ds.map .im)) (L2.start N (.ref a :: vs)) H where
  f0 := Ex.refl F
  sy := sy
  fh := e
  kp := fun q o h _ => h
  al := fun q h => h
  nw := fun q h => .inl h
  ln := by
    have hd' := dens_len hd
    simp only [List.length_cons] at hl
    rw [start_len (by simpa using hl), envOf_len (by simp only [List.length_cons, List.length_map]; omega)]
  sl := fun i o h => by
    have h' := envOf_get h
    cases i with
    | zero =>
      have : o = .ab t := by simpa using h'.symm
      subst this
      exact ⟨.ref a, by rw [start_get (by simp)]; rfl, by rw [fpSet_same]; exact hab⟩
    | succ i =>
      simp only [List.getElem?_cons_succ, List.getElem?_map] at h'
      cases e1 : ds[i]? with
      | none => rw [e1] at h'; cases h'
      | some d =>
        rw [e1] at h'
        cases h'
        obtain ⟨v, h1, h2⟩ := dens_get' hd e1
        have hi : i < vs.length := (List.getElem?_eq_some_iff.mp h1).1
        refine ⟨v, ?_, h2⟩
        rw [start_get (by simp; exact hi)]
        simpa using h1
  ow := fun i q h => by
    by_cases hi : i = 0
    · subst hi
      rw [fpSet_same] at h
      exact ⟨hF q h, abAt_in hab q h, .inl h⟩
    · rw [fpSet_ne hi] at h; cases h
  lf := fun i l q h1 h2 => by
    by_cases hi : i = 0
    · subst hi
      have h' := envOf_get h1
      simp at h'
    · rw [fpSet_ne hi] at h2; cases h2
  ds := fun i j q h1 h2 => by
    by_cases hi : i = 0
    · by_cases hj : j = 0
      · rw [hi, hj]
      · rw [fpSet_ne hj] at h2; cases h2
    · rw [fpSet_ne hi] at h1; cases h1
  bb := fun p hp => by
    cases hp
    refine ⟨by rw [start_get (by simp)]; rfl, fpSet_same, t, ?_⟩
    unfold envOf
    rfl
theorem spB_body {F H : Hp} {t : Ab} {a : Addr} {bw : List Addr} {ds : List D} {vs : List V} {g : PM Out} {Q : VK} {E : XK} (e : Ex F H) (hab : AbAt H t (.ref a) bw) (hF : ∀ q ∈ bw, F q = none) (hd : Dens K F ds vs) (hl : (V.ref a :: vs).length ≤ N.length)
    (h : match runB N.length g t ds with
      | (.ok r, t') => ∀ F' H' v, Grown F H F' H' → (∀ q o, H q = some o → q ∉ bw → H' q = some o) → (∀ q ∈ bw, F' q = none) → AbAt H' t' (.ref a) bw → RetOk K F' H H' r v → Q v H'
      | (.exc x, t') => ∀ F' H' d, Grown F H F' H' → (∀ q o, H q = some o → q ∉ bw → H' q = some o) → (∀ q ∈ bw, F' q = none) → AbAt H' t' (.ref a) bw → ExnOk K F' H' x d → E x.cls d H'
      | (.bad, _) => False) : GoesS K (ctB F H a bw) (WD E) F (g (envOf N.length (.ab t :: ds.map .im))) { nx := fun _ H' => Q .non H', rt := Q } := by
  have fin : ∀ {fp' : Nat → List Addr} {F' H' : Hp} {env' : PEnv} {σ' : L2.St}, Rel K (ctB F H a bw) fp' F' env' σ' H' →
      Grown F H F' H' ∧ (∀ q o, H q = some o → q ∉ bw → H' q = some o) ∧ (∀ q ∈ bw, F' q = none) ∧ ∃ t', env'[0]? = some (some (.ab t')) ∧ AbAt H' t' (.ref a) bw := by
    intro fp' F' H' env' σ' R
    obtain ⟨h1, h2, t', h3⟩ := R.bb (a, bw) rfl
    refine ⟨⟨R.f0, R.fh, fun q hq => (R.nw q hq).imp id fun z => z.elim id fun y => y.elim⟩, fun q o z y => R.kp q o z y, fun q hq => (R.ow 0 q (by rw [h2]; exact hq)).1, t', h3, ?_⟩
    obtain ⟨v, z1, z2⟩ := R.sl 0 _ h3
    rw [h1] at z1
    cases z1
    rw [h2] at z2
    exact z2
  unfold runB at h
  cases eg : g (envOf N.length (.ab t :: ds.map .im)) with
  | bad => rw [eg] at h; exact h.elim
  | exc x env' =>
    rw [eg] at h
    intro fp' F' σ' H' d R e1 hx
    obtain ⟨z1, z2, z3, t', z4, z5⟩ := fin R
    simp only [ab0, z4] at h
    exact h F' H' d z1 z2 z3 z5 hx
  | ok out env' =>
    rw [eg] at h
    intro fp' F' σ' H' R e1
    obtain ⟨z1, z2, z3, t', z4, z5⟩ := fin R
    cases out with
    | next =>
      simp only [ab0, z4] at h
      exact h F' H' .non z1 z2 z3 z5 (by show Den _ _ _ _; simp only [Den])
    | brk => exact h.elim
    | cont => exact h.elim
    | ret o =>
      intro v hv
      simp only [ab0, z4] at h
      have hb : finR true o env' ≠ .bad := fun z => by simp only [z] at h
      obtain ⟨r, hr1, hr2⟩ := fin_ret (bo := true) R (fun _ z => z) (fun q z => ⟨rfl, by rw [(R.bb (a, bw) rfl).2.1]; exact z⟩) hv hb
      simp only [hr1] at h
      exact h F' H' v z1 z2 z3 z5 hr2
/-- a def that changes its first argument in place, raises nothing -/
theorem fnB_of {n m : Nat} {g : PM Out} (F : Fun K x qual st f fd) (S : FnScope N ps (defScope st)) (hn : ps.length = n + 1) (hm : N.length = m)
    (hder : ∀ (cdv : Value) (A : Around) (outer : List Env) (s : Shared) (H : Hp) (E : XK), Room k (A.deeper (envOfC qual (defScope st) s.heap.objs.size f cdv)) → A.guards = some [] → PSsX (Ctx0 P w K mg base N qual st f cdv A outer s H E) true (WD E) (defBody st) g) :
    FnG P w K mg base CX0 (k + 1) f fd ps (SpB K n (runB m g)) := by
  subst hm
  refine fng_of F S ?_ ?_
  · rintro vs H Q E ⟨F, t, a, bw, vs', ds, rfl, h, _⟩
    rw [hn, List.length_cons, h]
  · rintro cdv A outer s H vs Q E hr hgu ⟨F0, t, a, bw, vs', ds, rfl, hl, e, sy, hab, hF, hd, h⟩
    obtain ⟨tt, h1, h2⟩ := hder cdv A outer s H E hr hgu
    refine ⟨tt, h1.nox, ?_⟩
    have hN : (V.ref a :: vs').length ≤ N.length := by
      rw [List.length_cons, hl, ← hn]
      have := congrArg List.length S.pre
      rw [List.length_take] at this
      omega
    exact h2 (ctB F0 H a bw) _ F0 _ _ H _ (fun _ => rfl) (rel_startB e sy hab hF hd hN) (spB_body e hab hF hd hN h)
end
end Pu

namespace Pu
open PySem PySem.Spec PyProof.Rows L2
section
variable {P : Program} {w : World} {K : PySem.W.Frag} {mg : Str → Option Value} {base : Heap} {CX : CXT} {k : Nat} {f : Addr} {fd : FuncData} {ps N : List Str} {x qual : Str} {st : Stmt}
/-- the law's own store of draws is made of the script: some store -/
def SpMk (K : PySem.W.Frag) (p : Ab → Prop) : Sp := fun vs H Q _ => ∃ (a : Addr) (ns : List Int), vs = [.ref a] ∧ SyF H ∧ SqL K H a (ns.map V.int) ∧ ns.length ≤ 63 ∧ ∀ (t : Ab) (H' : Hp) (v : V) (fT : List Addr), p t → Ex H H' → AbAt H' t v fT → (∀ q ∈ fT, H q = none) → Q v H'
def SpLaw (K : PySem.W.Frag) : Sp := fun vs H Q _ => ∃ (a : Addr) (ns : List Int), vs = [.ref a] ∧ SyF H ∧ SqL K H a (ns.map V.int) ∧ ns.length ≤ 63 ∧ ∀ H', Q (.bl true) H'
def lawEnv (n : Nat) (t : Ab) : PEnv := (List.replicate n none).set 1 (some (.ab t))
def TrueEnd (r : Res Out) : Prop := match r with
  | .ok (.ret o) env => finR false o env = .ok (.val (.bool true))
  | _ => False
theorem rel_law {a : Addr} {v : V} {t : Ab} {fT : List Addr} {H H' : Hp} {n : Nat} (hN : N.length = n) (h2 : 2 ≤ n) (sy : SyF H) (e : Ex H H') (hab : AbAt H' t v fT) (hf : ∀ q ∈ fT, H q = none) :
    Rel K (ctA H H) (fpSet (fun _ => []) 1 fT) H (lawEnv n t) ((L2.start N [.ref a]).set 1 (some v)) H' where
  f0 := Ex.refl H
  sy := sy
  fh := e
  kp := fun q o h _ => e q o h
  al := fun q h => by
    have h' : H q ≠ none := h
    cases z : H q with
    | none => exact absurd z h'
    | some o => rw [e q o z]; simp
  nw := fun q h => .inl h
  ln := by
    unfold lawEnv
    rw [List.length_set, List.length_replicate, List.length_set, start_len (by rw [hN]; simp; omega), hN]
  sl := fun i o h => by
    unfold lawEnv at h
    by_cases hi : i = 1
    · subst hi
      obtain ⟨h1, _⟩ := set_some h
      cases h1
      refine ⟨v, ?_, ?_⟩
      · rw [List.getElem?_set_self]
        rw [start_len (by rw [hN]; simp; omega), hN]
        omega
      · rw [fpSet_same]; exact hab
    · rw [get_set_ne' hi, List.getElem?_replicate] at h
      split at h <;> cases h
  ow := fun i q h => by
    by_cases hi : i = 1
    · subst hi
      rw [fpSet_same] at h
      exact ⟨hf q h, abAt_in hab q h, .inr (hf q h)⟩
    · rw [fpSet_ne hi] at h; cases h
  lf := fun i l q h1 h2 => by
    unfold lawEnv at h1
    by_cases hi : i = 1
    · subst hi
      obtain ⟨z, _⟩ := set_some h1
      cases z
    · rw [fpSet_ne hi] at h2; cases h2
  ds := fun i j q h1 h2 => by
    by_cases hi : i = 1
    · by_cases hj : j = 1
      · rw [hi, hj]
      · rw [fpSet_ne hj] at h2; cases h2
    · rw [fpSet_ne hi] at h1; cases h1
  bb := fun p h => by cases h
theorem fnLaw_of {n : Nat} {p : Ab → Prop} {g : PM Out} {st1 : Stmt} {rest : List Stmt} (F : Fun K x qual st f fd) (S : FnScope N ["script"] (defScope st)) (hN : N.length = n) (h2n : 2 ≤ n)
    (hbody : defBody st = st1 :: rest)
    (h1 : ∀ (cdv : Value) (A : Around) (outer : List Env) (s : Shared) (H : Hp) (E : XK), Room k (A.deeper (envOfC qual (defScope st) s.heap.objs.size f cdv)) → A.guards = some [] →
      PS (Ctx0 P w K mg base N qual st f cdv A outer s H E) st1 (tAsg (tCallS (SpMk K p) (WE (WD E)) (tCons (tVar 0) tNil)) (gName 1)))
    (h2 : ∀ (cdv : Value) (A : Around) (outer : List Env) (s : Shared) (H : Hp) (E : XK), Room k (A.deeper (envOfC qual (defScope st) s.heap.objs.size f cdv)) → A.guards = some [] → PSsX (Ctx0 P w K mg base N qual st f cdv A outer s H E) false (WD E) rest g)
    (hT : ∀ t, p t → TrueEnd (g (lawEnv n t))) : FnG P w K mg base CX0 (k + 1) f fd ["script"] (SpLaw K) := by
  refine fng_of F S ?_ ?_
  · rintro vs H Q E ⟨a, ns, rfl, _⟩
    rfl
  · rintro cdv A outer s H vs Q E hr hgu ⟨a, ns, rfl, sy, hs, hl, q⟩
    obtain ⟨t2, z1, z2⟩ := h2 cdv A outer s H E hr hgu
    refine ⟨tSeq (tAsg (tCallS (SpMk K p) (WE (WD E)) (tCons (tVar 0) tNil)) (gName 1)) t2, ?_, ?_⟩
    · rw [hbody]
      exact (pss_cons (h1 cdv A outer s H E hr hgu) z1).nox
    · refine ⟨.ref a, by rw [start_get (by simp)]; rfl, a, ns, rfl, sy, hs, hl, fun t H' v fT hp e hab hf => ?_⟩
      refine z2 (ctA H H) _ H (lawEnv n t) _ H' _ (fun z => absurd rfl z) (rel_law hN h2n sy e hab hf) ?_
      have hT' := hT t hp
      unfold TrueEnd at hT'
      cases eg : g (lawEnv n t) with
      | bad => rw [eg] at hT'; exact hT'.elim
      | exc x e' => rw [eg] at hT'; exact hT'.elim
      | ok out env' =>
        rw [eg] at hT'
        cases out with
        | next => exact hT'.elim
        | brk => exact hT'.elim
        | cont => exact hT'.elim
        | ret o =>
          intro fp' F' σ' H2 R e1 v' hv'
          obtain ⟨r, hr1, hr2⟩ := fin_ret (bo := false) R (fun _ z => z) (fun _ z => z.elim) hv' (by rw [hT']; intro z; cases z)
          rw [hT'] at hr1
          cases hr1
          have : Den K F' (.bool true) v' := hr2
          simp only [Den] at this
          subst this
          exact q _
/-! ### the head -/
theorem law_callG {mb : Str → Option Value} {fa a : Addr} {s₁ : Shared} {vs : List Value} {ns : List Int}
    (KX : K.In s₁.heap) (hns : s₁.heap.Ns mainGlobals mg) (hb : s₁.heap.Ns builtinsNs mb) (hbb : ∀ x : Str, x ≠ "__name__" → mb x = bootBuiltins x) (hlim : s₁.heap.NoLimit) (hmods : ∃ mm, s₁.heap.Ns sysModules mm) (hsys : K.lookup sysModules = none) (hg : s₁.gens = #[])
    (ha : s₁.heap.get? a = some { cls := .type "list", data := .seq vs.toArray }) (hi : IntsAre vs ns) (hl : ns.length ≤ 63) (hr : Room k callerA)
    (F : ∀ base : Heap, K.In base → base.Ns mainGlobals mg → FnG P w K mg base CX0 k fa fd ["script"] (SpLaw K)) (hbind : ∀ (s : Shared) (u : Value), BindsTo s fd ⟨[u], []⟩ [("script", u)]) :
    codeAny (model P w) callerA (.call (.ref fa) ⟨[.ref a], []⟩) (fun r s' => r = .ok (.ret (.bool true)) ∧ OldK s₁.heap s'.heap ∧ s'.os = s₁.os ∧ AllBare s'.gens) s₁ := by
  have rv := vals_ints hi
  have hlen := hi.length
  have hline : ns.length ≤ sizeLine := Nat.le_trans hl (by rw [sizeLine_eq]; decide)
  obtain ⟨mm, om, em, pm, hom, hdm, _⟩ := hmods
  have ham : a ≠ sysModules := fun z => by
    rw [z, hom] at ha
    cases ha
    exact nomatch hdm
  -- tracked are the modules' dict and the script, both locked
  suffices core : ∀ H : Hp, (∀ b u, H b = some u → (b = a ∧ u = .frz { cls := .type "list", data := .seq vs.toArray } (.lst (ns.map V.int)) ∧ K.lookup a = none) ∨ (b = sysModules ∧ u = .frz om (.own 0))) → SyF H → SqL K H a (ns.map V.int) → HOk P w H s₁.heap →
      codeAny (model P w) callerA (.call (.ref fa) ⟨[.ref a], []⟩) (fun r s' => r = .ok (.ret (.bool true)) ∧ OldK s₁.heap s'.heap ∧ s'.os = s₁.os ∧ AllBare s'.gens) s₁ by
    have sysy : ∀ {H : Hp}, H sysModules = some (.frz om (.own 0)) → SyF H := fun h => ⟨_, h, fun xs z => nomatch z⟩
    cases hk : K.lookup a with
    | some o =>
      have z := KX a o hk
      rw [ha] at z
      cases z
      have one : ∀ b u, upd (fun _ => none) sysModules (HO.frz om (.own 0)) b = some u → b = sysModules ∧ u = .frz om (.own 0) := fun b u z => by
        by_cases hb : b = sysModules
        · rw [hb, upd_same] at z
          cases z
          exact ⟨hb, rfl⟩
        · rw [upd_ne hb] at z
          cases z
      refine core (upd (fun _ => none) sysModules (.frz om (.own 0))) (fun b u z => .inr (one b u z)) (sysy upd_same) (.inr ⟨_, vs.toArray, _, hk, rfl, rfl, rfl, ?_, by simpa using rv⟩) fun b u z => ?_
      · rw [List.size_toArray, hlen]
        exact hline
      · obtain ⟨rfl, rfl⟩ := one b u z
        exact ⟨hom, om, hom⟩
    | none =>
      have here : ∀ b u, upd (upd (fun _ => none) sysModules (HO.frz om (.own 0))) a (HO.frz { cls := .type "list", data := .seq vs.toArray } (.lst (ns.map V.int))) b = some u →
          (b = a ∧ u = .frz { cls := .type "list", data := .seq vs.toArray } (.lst (ns.map V.int))) ∨ (b = sysModules ∧ u = .frz om (.own 0)) := by
        intro b u z
        by_cases hb : b = a
        · rw [hb, upd_same] at z
          cases z
          exact .inl ⟨hb, rfl⟩
        · rw [upd_ne hb] at z
          by_cases hb2 : b = sysModules
          · rw [hb2, upd_same] at z
            cases z
            exact .inr ⟨hb2, rfl⟩
          · rw [upd_ne hb2] at z
            cases z
      refine core (upd (upd (fun _ => none) sysModules (.frz om (.own 0))) a (.frz { cls := .type "list", data := .seq vs.toArray } (.lst (ns.map V.int)))) (fun b u z => (here b u z).imp (fun y => ⟨y.1, y.2, hk⟩) id) (sysy (by rw [upd_ne (Ne.symm ham), upd_same])) (.inl (.inr ⟨_, upd_same⟩)) fun b u z => ?_
      rcases here b u z with ⟨rfl, rfl⟩ | ⟨rfl, rfl⟩
      · exact ⟨ha, by rw [List.length_map]; exact hline, vs, _, rv, ha⟩
      · exact ⟨hom, om, hom⟩
  intro H hH hsy hS hok
  have hnone : ∀ {b : Addr}, b ≠ a → b ≠ sysModules → H b = none := fun {b} h1 h2 => by
    cases q : H b with
    | none => rfl
    | some u => rcases hH b u q with ⟨z, _⟩ | ⟨z, _⟩ <;> contradiction
  have into : ∀ {b : Addr} {o : Obj}, s₁.heap.get? b = some o → H b = none → (hidT s₁.heap H).get? b = some o := fun z n => hidT_get z n
  have names : ∀ {b : Addr} {m : Str → Option Value}, s₁.heap.Ns b m → b ≠ sysModules → (hidT s₁.heap H).Ns b m := by
    rintro b m ⟨o, es, ep, z, d, r⟩ hbs
    refine ⟨o, es, ep, into z (hnone (fun w => ?_) hbs), d, r⟩
    rw [w, ha] at z
    cases z
    exact nomatch d
  have kin : K.In (hidT s₁.heap H) := by
    intro b o z
    refine into (KX b o z) ?_
    cases q : H b with
    | none => rfl
    | some u =>
      rcases hH b u q with ⟨hba, _, hk⟩ | ⟨hba, _⟩
      · rw [hba, hk] at z
        cases z
      · rw [hba, hsys] at z
        cases z
  obtain ⟨mc, hl1, hl2⟩ := hlim
  have hM : Mod K mg (hidT s₁.heap H) := ⟨kin, names hns (by decide), ⟨mb, names hb (by decide), hbb⟩, ⟨mc, names hl1 (by decide), hl2⟩⟩
  have e0 : Env0 P w K mg (hidT s₁.heap H) callerA [] s₁ H :=
    ⟨rfl, hM, fun b o z => of_hidT z, Nat.le_of_eq (hidT_size _ _), trivial, fun b z => absurd (show b ∈ ([] : List Addr) from z) (by simp), hok, .of_eq hg⟩
  refine codeAny_mono ((F _ kin (names hns (by decide))).run callerA [] s₁ H ⟨[.ref a], []⟩ [.ref a] [.ref a] (fun v _ => v = .bl true) (fun _ _ _ => False) hr rfl e0 (hbind s₁ (.ref a)) (.cons rfl .nil) ⟨a, ns, rfl, hsy, hS, hl, fun _ => rfl⟩) ?_
  intro r s' h
  cases r with
  | error z => exact h.elim
  | ok fl =>
    cases fl with
    | next => exact h.elim
    | brk => exact h.elim
    | cont => exact h.elim
    | ret u =>
      obtain ⟨v, H', os, bare, un, hok', r', q⟩ := h
      have q' : v = .bl true := q
      subst q'
      obtain rfl : u = Value.bool true := r'
      refine ⟨rfl, OldK.of_keep fun b o z => ?_, os, bare⟩
      cases hb' : H b with
      | none => exact un.keep b o z hb' (fun y => absurd (show b ∈ ([] : List Addr) from y) (by simp)) (by simp)
      | some u =>
        rcases hH b u hb' with ⟨rfl, rfl, _⟩ | ⟨rfl, rfl⟩
        · have z2 := un.frzs _ _ _ hb'
          obtain ⟨z3, _⟩ := hok' _ _ z2
          rw [ha] at z
          cases z
          exact z3
        · have z2 := un.frzs _ _ _ hb'
          obtain ⟨z3, _⟩ := hok' _ _ z2
          rw [hom] at z
          cases z
          exact z3
theorem walkG {l : PySem.W.OpenLaw} {n : Nat} {q : Program} {loose : List Str} {XP : (Str → Option Value) → Heap → Prop} {YP : World → Heap → Prop} {d : DefRec} {KK : Params → PySem.W.Frag}
    (hn : l.most = some n) (hn2 : n ≤ 63) (hdf : d.params.defaults = []) (hr : Room k callerA) (hY : ∀ (w : World) (h : Heap), YP w h → (KK w.params).In h) (hq : importsNone q = true) (hsys : ∀ w : World, (KK w.params).lookup sysModules = none)
    (F : ∀ (w : World) (mg : Str → Option Value) (fa : Addr) (h : Heap), (KK w.params).In h → h.Ns mainGlobals mg → mg d.name = some (.ref fa) →
      ∃ fd : FuncData, (∀ (s : Shared) (u : Value), BindsTo s fd ⟨[u], []⟩ [("script", u)]) ∧ ∀ base : Heap, (KK w.params).In base → base.Ns mainGlobals mg → FnG l.prog w (KK w.params) mg base CX0 k fa fd ["script"] (SpLaw (KK w.params))) :
    PySem.W.WalkO q loose XP YP l.row.toRowW d [] (fun f vs => PySem.call f vs) := by
  refine Att.attach_call hn hdf ?_
  intro w s₀ s₁ mg mb fa o pm cd doc a vs ns G Y ho hd hcd hmg hobj hints hlen hg
  obtain ⟨fd, hb, hF⟩ := F w mg fa _ (hY w _ Y) G.T.g hmg
  exact law_callG (hY w _ Y) G.T.g G.T.b G.T.builtins G.T.nolimit (let ⟨mm, z, _⟩ := (G.T.seer hq).mods; ⟨mm, z⟩) (hsys w) hg hobj hints (Nat.le_trans hlen hn2) hr hF hb
end
end Pu

namespace Pu
open PySem PySem.Spec PyProof.Rows L2
section
variable {X : Cx} {bo : Bool} {W : WX} {e a b : Expr} {es : List Expr} {pos p : Pos} {x y : Str}
def eUn (g : D → Option Opd) (f : PM Opd) : PM Opd := bnd (opn f) fun o => bnd (rsv o) fun d => lift (g d)
theorem px_un {op : UnaryOp} {g : D → Option Opd} {f : PM Opd} (h : Un1 X (unaryOp op) g) (ha : PX X bo W a f) : PX X bo W (.UnaryOp op a pos) (eUn g f) := by
  obtain ⟨r, h1, h2⟩ := h
  obtain ⟨t, a1, a2⟩ := px_opn ha
  refine ⟨_, pe_un h1 a1, fun c fp F env σ H Q hc R g => ?_⟩
  refine a2 c fp F env σ H _ hc R ((Goes.bnd g).mono (Ex.refl F) fun fp1 F1 env1 H1 o e1 R1 g1 v hn hv => ?_)
  obtain ⟨d, k1, g2⟩ := rsv_ok R1 hv g1
  obtain ⟨o', ho, _⟩ := g2.lift
  exact h2 F1 H1 v d o' Q R1.fh k1 ho fun v' H' got => fin_got R1 g2 ho got
def gNeg : D → Option Opd
  | .int i => some (.val (.int (-i)))
  | _ => none
theorem u1_neg : Un1 X (unaryOp .USub) gNeg := by
  refine ⟨_, un_neg, fun F H x dx o Q e hx hg q => ?_⟩
  cases dx with
  | int i => cases hg; exact ⟨i, bd_int hx, q _ _ (.same den_int)⟩
  | _ => cases hg
/-- a, b = e, f : both kept -/
def sPar (i j : Nat) (fs : PM (List D)) : PM Out := bnd fs fun ds => match ds with
  | [d, d'] => bnd (putS i (.im d)) fun _ => bnd (putS j (.im d')) fun _ => ret .next
  | _ => oops
theorem psx_par {i j : Nat} {px py pt pt2 : Pos} {kt k2 : Nat} {fs : PM (List D)} (hcalm : X.calm = true) (hN : X.N.Nodup) (h : PAF X bo W [a, b] fs) (hij : i ≠ j := by decide) (hi : X.N[i]? = some x := by rfl) (hj : X.N[j]? = some y := by rfl) (hbi : (bo && i == 0) = false := by rfl) (hbj : (bo && j == 0) = false := by rfl)
    (hx : X.env.scope.names.lookup x = some .local := by rfl) (hy : X.env.scope.names.lookup y = some .local := by rfl)
    (hw : swappedStores [.Tuple [.Name x px, .Name y py] kt pt] (.Tuple [a, b] k2 pt2) X.env = pure (some [x, y]) := by rfl) (hs : swapsWithSole [.Tuple [.Name x px, .Name y py] kt pt] (.Tuple [a, b] k2 pt2) pos.line X.env = pure false := by rfl) :
    PSX X bo W (.Assign [.Tuple [.Name x px, .Name y py] kt pt] (.Tuple [a, b] k2 pt2) pos) (sPar i j fs) := by
  obtain ⟨t, h1, h2⟩ := h
  refine ⟨_, ps_par hcalm hN hi hj hij hx hy h1 hw hs, fun c fp F env σ H D hc R g => ?_⟩
  have hi0 : c.br ≠ none → i ≠ 0 := fun z w => by
    rw [hc z, w] at hbi
    cases hbi
  have hj0 : c.br ≠ none → j ≠ 0 := fun z w => by
    rw [hc z, w] at hbj
    cases hbj
  refine h2 c fp F env σ H _ hc R ((GoesS.bnd (σ := σ) g).mono (Ex.refl F) fun fp1 F1 env1 H1 ds e1 R1 g1 vs hl hd => ?_)
  match ds, hd, g1 with
  | [], _, g1 => exact g1.elim
  | [d], _, g1 => exact g1.elim
  | d :: d' :: d2 :: r, _, g1 => exact g1.elim
  | [d, d'], hd, g1 =>
    simp only [Dens] at hd
    obtain ⟨v, r, rfl, z1, v', r', rfl, z2, rfl⟩ := hd
    exact ⟨v, v', rfl, g1 _ F1 _ H1 ((R1.put hi0 z1).put hj0 z2) (Ex.refl F1)⟩
theorem GoesS.at {K : PySem.W.Frag} {c : Ct} {F : Hp} {r : Res Out} {D : Ends} (σ : L2.St) (h : GoesS K c W F r D) : Goes K c W σ F r (fun fp' F' env' H' out => OutOk K c fp' F' σ H' D out) := by
  cases r with
  | ok a env' => exact fun fp' F' H' R e => h fp' F' σ H' R e
  | exc x env' => exact fun fp' F' H' d R e z => h fp' F' σ H' d R e z
  | bad => exact h
/-- x[i] = e at a list that a name holds -/
theorem psx_putAt {i : Nat} {pv pt : Pos} {fe fi : PM Opd} (he : PX X bo W e fe) (hk : PX X bo W a fi) (hN : X.N[i]? = some x := by rfl) (hv : Vis X.env.scope x := by first | exact Or.inl rfl | exact Or.inr (Or.inl rfl) | exact Or.inr (Or.inr rfl)) (hd : (x == ("__debug__" : Str)) = false := by decide)
    (hcd : (x == ("__classdict__" : Str)) = false := by decide)
    (ha : ∀ v, assign (.Subscript (.Name x pv) a pt) X.env v = (do
      let ov ← holding [v] (eval (.Name x pv) X.env)
      let iv ← holding [v, ov] (eval a X.env)
      standAt pt
      holding [v, ov, iv] (setItem ov iv v)
      release [v, ov, iv] []) := by intro _; rfl)
    (hs : swapsWithSole [.Subscript (.Name x pv) a pt] e pos.line X.env = pure false := by rfl) (hw : swappedStores [.Subscript (.Name x pv) a pt] e X.env = pure none := by rfl)
    (h1 : (assignEach [.Subscript (.Name x pv) a pt] X.env).map (·.2) = [assign (.Subscript (.Name x pv) a pt) X.env] := by rfl) : PSX X bo W (.Assign [.Subscript (.Name x pv) a pt] e pos) (sPutAt i fe fi) := by
  obtain ⟨t, a1, a2⟩ := he
  obtain ⟨u, b1, b2⟩ := px_opn hk
  refine ⟨_, ps_asg a1 (pg_sub (pe_var hN hv hd hcd) b1 set_list ha) hs hw h1, fun c fp F env σ H Dn hc R g => ?_⟩
  unfold sPutAt at g
  rw [kept_bnd] at g
  refine a2 c fp F env σ H _ hc R ((GoesS.bnd (σ := σ) g).mono (Ex.refl F) fun fp1 F1 env1 H1 o e1 R1 g1 v hv => ?_)
  obtain ⟨d, fp2, F2, env2, R2, e2, hden, g2⟩ := frz_okS R1 hv g1
  obtain ⟨ds, ad, xs, k1, k2, k3, k4, k5, g3⟩ := lsAt_ok R2 (GoesS.at σ (g2.mono e2))
  refine ⟨.ref ad, k2, ?_⟩
  refine b2 c fp2 F2 env2 σ H1 _ hc R2 ((Goes.bnd g3).mono (Ex.refl F2) fun fp3 F3 env3 H3 oi e3 R3 g4 u hn hu => ?_)
  obtain ⟨dk, q1, g5⟩ := rsv_ok R3 hu g4
  obtain ⟨ds2, ad2, xs2, z1, z2, z3, z4, z5, g6⟩ := lsAt_ok R3 g5
  rw [k2] at z2
  cases z2
  cases dk with
  | int z =>
    simp only at g6
    cases ej : ixN ds2.length z with
    | none => rw [ej] at g6; exact g6.elim
    | some j =>
      rw [ej] at g6
      refine ⟨ad, xs2, z, j, rfl, bd_int q1, z4, by rw [dens_len z5]; exact ej, ?_⟩
      exact g6 fp3 F3 _ (R3.setLs z1 k2 z3 (dens_set (den_mono e3 _ _ hden) j z5)) (Ex.refl F3)
  | _ => exact g6.elim
end
end Pu

namespace Pu
open PySem PySem.Spec PyProof.Rows L2
theorem bt_len : bootBuiltins "len" = some (.builtin "len") := by decide +kernel
theorem bt_abs : bootBuiltins "abs" = some (.builtin "abs") := by decide +kernel
theorem bt_repr : bootBuiltins "repr" = some (.builtin "repr") := by decide +kernel
theorem bt_isinstance : bootBuiltins "isinstance" = some (.builtin "isinstance") := by decide +kernel
theorem bt_tuple : bootBuiltins "tuple" = some (.type "tuple") := by decide +kernel
theorem bt_list : bootBuiltins "list" = some (.type "list") := by decide +kernel
theorem bt_dict : bootBuiltins "dict" = some (.type "dict") := by decide +kernel
theorem bt_int : bootBuiltins "int" = some (.type "int") := by decide +kernel
theorem bt_bool : bootBuiltins "bool" = some (.type "bool") := by decide +kernel
theorem bt_str : bootBuiltins "str" = some (.type "str") := by decide +kernel
section
variable {X : Cx} {pos : Pos} {x : Str}
theorem pv (i : Nat) (hN : X.N[i]? = some x := by rfl) (hv : Vis X.env.scope x := by first | exact Or.inl rfl | exact Or.inr (Or.inl rfl) | exact Or.inr (Or.inr rfl)) (hd : (x == ("__debug__" : Str)) = false := by decide)
    (hcd : (x == ("__classdict__" : Str)) = false := by decide) : PE X (.Name x pos) (tVar i) := pe_var hN hv hd hcd
end
theorem spB_len {K : PySem.W.Frag} {n : Nat} {S : Ab → List D → FR × Ab} {vs : List V} {H : Hp} {Q : VK} {E : XK} (h : SpB K n S vs H Q E) : vs.length = n + 1 := by
  obtain ⟨F, t, a, bw, vs', ds, rfl, h, _⟩ := h
  rw [List.length_cons, h]
theorem spMk_len {K : PySem.W.Frag} {p : Ab → Prop} {vs : List V} {H : Hp} {Q : VK} {E : XK} (h : SpMk K p vs H Q E) : vs.length = 1 := by
  obtain ⟨a, ns, rfl, _⟩ := h
  rfl
end Pu
namespace Pu
open PySem PySem.Spec PyProof.Rows L2
theorem units1 {k : Nat} {A : Around} (r : Room k A) : A.units + 1 < cLine := by have := r.units; omega
end Pu
namespace Pu
open PySem PySem.Spec PyProof.Rows L2
section
variable {X : Cx} {pos pos' : Pos} {x : Str} {e : Expr} {te : TE}
theorem pset (i : Nat) (hN : X.N.Nodup) (he : PE X e te) (hi : X.N[i]? = some x := by rfl) (hx : X.env.scope.names.lookup x = some .local := by rfl) (hs : swapsWith e (some (.Name x pos')) pos.line X.env = pure false := by rfl) :
    PS X (.Assign [.Name x pos'] e pos) (tAsg te (gName i)) := ps_set hN hi (.inl hx) he hs (.inr hx)
end
end Pu
namespace Pu
open PySem PySem.Spec PyProof.Rows L2
section
variable {P : Program} {w : World} {K : PySem.W.Frag} {mg : Str → Option Value} {base : Heap} {k : Nat} {f : Addr} {fd : FuncData} {ps N : List Str} {x qual : Str} {st : Stmt}
theorem fnMk_of {tt : TS} {p : Ab → Prop} (F : Fun K x qual st f fd) (S : FnScope N ["script"] (defScope st))
    (hder : ∀ (cdv : Value) (A : Around) (outer : List Env) (s : Shared) (H : Hp) (E : XK), Room k (A.deeper (envOfC qual (defScope st) s.heap.objs.size f cdv)) → A.guards = some [] → PSs (Ctx0 P w K mg base N qual st f cdv A outer s H E) (defBody st) tt)
    (hw : ∀ vs H (Q : VK) E, SpMk K p vs H Q E → tt { nx := fun _ H' => Q .non H', rt := Q } (L2.start N vs) H) :
    FnG P w K mg base CX0 (k + 1) f fd ["script"] (SpMk K p) := by
  refine fng_of F S ?_ ?_
  · rintro vs H Q E ⟨a, ns, rfl, _⟩
    rfl
  · intro cdv A outer s H vs Q E hr hgu h
    exact ⟨tt, (hder cdv A outer s H E hr hgu).nox, hw vs H Q E h⟩
end
end Pu

namespace Pu
open PySem PySem.Spec PyProof.Rows L2
/-! ### the deck of draws: a list of far numbers, a state -/
def lt61 {x : Int} (h0 : 0 ≤ x) (h1 : x < 2305843009213693951) : Fin 2305843009213693952 := ⟨x.toNat, by omega⟩
theorem lt61_val {x : Int} (h0 : 0 ≤ x) (h1 : x < 2305843009213693951) : (((lt61 h0 h1).val : Nat) : Int) = x := by
  unfold lt61
  exact Int.toNat_of_nonneg h0
def stNext (s : Int) : Int := (s * 1181783497276652981 + 88172645463325) % 2305843009213693951
theorem stNext_lt (s : Int) : 0 ≤ stNext s ∧ stNext s < 2305843009213693951 := ⟨Int.emod_nonneg _ (by decide), Int.emod_lt_of_pos _ (by decide)⟩
def stTwo (o : Int) : Int := (o * o + 374761393 * o + 11) % 2305843009213693921
def drawAt (j1 j2 : Str) (far : List Nat) (st : Fin 2305843009213693952) (m : Int) : FR × Ab :=
  if m < 2 then (.ok (.val (.int 0)), .deck j1 j2 far st)
  else if m < 1073741824 then
    match far.getLast? with
    | some w => (.ok (.val (.int ((w : Int) % m))), .deck j1 j2 (if m ≤ (w : Int) then far.dropLast ++ [((w : Int) / m).toNat] else far.dropLast) st)
    | none => (.ok (.val (.int ((stTwo (stNext (st.val : Int)) / 1048576) % m))), .deck j1 j2 far (lt61 (stNext_lt (st.val : Int)).1 (stNext_lt (st.val : Int)).2))
  else (.bad, .deck j1 j2 far st)
def F_draw1 (k1 k2 : Str) : Ab → List D → FR × Ab
  | .deck j1 j2 far st, [.int m] => if j1 = k1 ∧ j2 = k2 ∧ far.length ≤ 63 then drawAt j1 j2 far st m else (.bad, .deck j1 j2 far st)
  | t, _ => (.bad, t)
/-- a deck with these names -/
def IsDeck (k1 k2 : Str) (t : Ab) : Prop := ∃ far st, t = .deck k1 k2 far st ∧ far.length ≤ 63
theorem draw1_ok {k1 k2 : Str} {t : Ab} {m : Int} (h : IsDeck k1 k2 t) (h1 : 1 ≤ m) (h2 : m < 1073741824) : ∃ i t', F_draw1 k1 k2 t [.int m] = (.ok (.val (.int i)), t') ∧ 0 ≤ i ∧ i < m ∧ IsDeck k1 k2 t' := by
  obtain ⟨far, st, rfl, hl⟩ := h
  have e0 : F_draw1 k1 k2 (.deck k1 k2 far st) [.int m] = drawAt k1 k2 far st m := if_pos ⟨rfl, rfl, hl⟩
  rw [e0]
  unfold drawAt
  by_cases h3 : m < 2
  · rw [if_pos h3]
    exact ⟨0, _, rfl, by omega, by omega, far, st, rfl, hl⟩
  · rw [if_neg h3, if_pos h2]
    cases e : far.getLast? with
    | none => exact ⟨_, _, rfl, Int.emod_nonneg _ (by omega), Int.emod_lt_of_pos _ (by omega), far, _, rfl, hl⟩
    | some w =>
      have hne : far ≠ [] := by intro z; rw [z] at e; cases e
      have hp : 0 < far.length := List.length_pos_iff.mpr hne
      refine ⟨_, _, rfl, Int.emod_nonneg _ (by omega), Int.emod_lt_of_pos _ (by omega), _, st, rfl, ?_⟩
      split
      · rw [List.length_append, List.length_dropLast, List.length_singleton]; omega
      · rw [List.length_dropLast]; omega
abbrev rInt1 : List V → Hp → VK → Prop := fun xs H Q => (∃ i, xs = [.int i] ∧ Q (.int i) H) ∨ ∃ k, xs = [.bl k] ∧ Q (.int (if k then 1 else 0)) H
abbrev tRem (a b : TE) : TE := tOp (rI (fun _ j => 0 < j) fun i j => .int (i % j)) a b
abbrev tPlus (a b : TE) : TE := tOp (rI0 fun i j => .int (i + j)) a b
abbrev tTimes (a b : TE) : TE := tOp (rI CMul fun i j => .int (i * j)) a b
abbrev tOver (a b : TE) : TE := tOp (rI CDiv fun i j => .int (i / j)) a b
abbrev tInt (a : TE) : TE := tCB rInt1 (tCons a tNil)
def drTS (K : PySem.W.Frag) (k1 k2 : Str) : TS :=
  tSeq (tIfS (tTest (tOp (rI0 fun i j => .bl (decide (i < j))) (tVar 1) (tC (.int 2)))) (tRet (tC (.int 0))) tNext)
    (tSeq (tIfS (tTest (tOp (rNeD K) (tDGet (tVar 0) (tC (.str k1))) (tLst tNil)))
        (tSeq (tAsg (tBM0 K "list" rPop (tDGet (tVar 0) (tC (.str k1)))) (gName 4))
          (tSeq (tIfS (tTest (tOp (rI0 fun i j => .bl (decide (j ≤ i))) (tVar 4) (tVar 1)))
              (tDrop (tBM K "list" rAppend (tDGet (tVar 0) (tC (.str k1))) (tCons (tOver (tVar 4) (tVar 1)) tNil))) tNext)
            (tRet (tRem (tInt (tVar 4)) (tVar 1))))) tNext)
      (tSeq (tAsg (tRem (tInt (tPlus (tTimes (tDGet (tVar 0) (tC (.str k2))) (tC (.int 1181783497276652981))) (tC (.int 88172645463325)))) (tC (.int 2305843009213693951))) (gName 2))
        (tSeq (sDPut (tVar 0) (tC (.str k2)) (tVar 2))
          (tSeq (tAsg (tRem (tInt (tPlus (tPlus (tTimes (tVar 2) (tVar 2)) (tTimes (tC (.int 374761393)) (tVar 2))) (tC (.int 11)))) (tC (.int 2305843009213693921))) (gName 3))
            (tRet (tRem (tInt (tOver (tVar 3) (tC (.int 1048576)))) (tVar 1)))))))
theorem dpAll_ints {K : PySem.W.Frag} {H : Hp} (far : List Nat) : DpAll K H (far.map fun (n : Nat) => V.int (n : Int)) (far.map fun (n : Nat) => PyData.int (n : Int)) := by
  induction far with
  | nil => exact .nil
  | cons a r ih => exact .cons (.int _) ih
theorem shaped_ints (far : List Nat) : SeqAt.shaped (.list (far.map fun (n : Nat) => PyData.int (n : Int))) = true := by
  have h : ∀ l : List Nat, PyData.canLayAll0 (l.map fun (n : Nat) => PyData.int (n : Int)) = true ∧ PyData.depthAll (l.map fun (n : Nat) => PyData.int (n : Int)) = 0 := by
    intro l
    induction l with
    | nil => exact ⟨by simp only [List.map_nil, PyData.canLayAll0], by simp only [List.map_nil, PyData.depthAll]⟩
    | cons a r ih => exact ⟨by simp only [List.map_cons, PyData.canLayAll0, PyData.canLay0, ih.1, Bool.and_self], by simp only [List.map_cons, PyData.depthAll, PyData.depth, ih.2, Nat.max_self]⟩
  unfold SeqAt.shaped
  simp only [PyData.canLay0, PyData.depth, (h far).1, (h far).2, Bool.true_and, decide_eq_true_eq]
  decide
theorem eqv_empty (far : List Nat) : PyData.eqv (.list (far.map fun (n : Nat) => PyData.int (n : Int))) (.list []) = far.isEmpty := by
  cases far with
  | nil => simp only [List.map_nil, PyData.eqv, PyData.eqvAll, List.isEmpty_nil]
  | cons a r => simp only [List.map_cons, PyData.eqv, PyData.eqvAll, List.isEmpty_cons]
section
variable {K : PySem.W.Frag} {H : Hp} {σ : L2.St} {Q : VK}
theorem dget_at {a : Addr} {kvs : List (Key × V)} {k : Str} {v : V} {i : Nat} (h0 : σ[i]? = some (some (.ref a))) (h : H a = some (.dK kvs)) (hv : valV kvs (Sum.inr k) = some v) (q : Q v H) : tDGet (tVar i) (tC (.str k)) σ H Q := by
  refine ⟨.ref a, h0, a, v, rfl, ?_, q⟩
  have := DGet.k (k := Sum.inr k) h
  rw [hv] at this
  exact this
theorem rem_at {a b : TE} {i j : Int} (ha : ∀ q : VK, q (.int i) H → a σ H q) (hb : ∀ q : VK, q (.int j) H → b σ H q) (hj : 0 < j) (q : Q (.int (i % j)) H) : tRem a b σ H Q := ha _ (hb _ ⟨i, j, rfl, rfl, hj, q⟩)
theorem plus_at {a b : TE} {i j : Int} (ha : ∀ q : VK, q (.int i) H → a σ H q) (hb : ∀ q : VK, q (.int j) H → b σ H q) (q : Q (.int (i + j)) H) : tPlus a b σ H Q := ha _ (hb _ ⟨i, j, rfl, rfl, q⟩)
theorem times_at {a b : TE} {i j : Int} (ha : ∀ q : VK, q (.int i) H → a σ H q) (hb : ∀ q : VK, q (.int j) H → b σ H q) (hj : CMul i j) (q : Q (.int (i * j)) H) : tTimes a b σ H Q := ha _ (hb _ ⟨i, j, rfl, rfl, hj, q⟩)
theorem over_at {a b : TE} {i j : Int} (ha : ∀ q : VK, q (.int i) H → a σ H q) (hb : ∀ q : VK, q (.int j) H → b σ H q) (hj : CDiv i j) (q : Q (.int (i / j)) H) : tOver a b σ H Q := ha _ (hb _ ⟨i, j, rfl, rfl, hj, q⟩)
theorem int_at {a : TE} {i : Int} (ha : ∀ q : VK, q (.int i) H → a σ H q) (q : Q (.int i) H) : tInt a σ H Q := ha _ (.inl ⟨i, rfl, q⟩)
theorem c_at {v : V} (q : Q v H) : tC v σ H Q := q
theorem var_at {i : Nat} {v : V} (h : σ[i]? = some (some v)) (q : Q v H) : tVar i σ H Q := ⟨v, h, q⟩
end
theorem start5 {N : List Str} (hN : N.length = 5) {x y : V} : L2.start N [x, y] = [some x, some y, none, none, none] := by
  unfold L2.start
  rw [hN]
  rfl
theorem draw_wp {K : PySem.W.Frag} {k1 k2 : Str} (hk : k1 ≠ k2) {vs : List V} {H : Hp} {Q : VK} {E : XK} {D0 : Ends} (h : SpB K 1 (F_draw1 k1 k2) vs H Q E) (hD : D0.rt = Q) {N : List Str} (hN : N.length = 5) :
    drTS K k1 k2 D0 (L2.start N vs) H := by
  obtain ⟨F, t, a, bw, vs', ds, rfl, hl0, e, sy, hab, hF, hd0, hm0⟩ := h
  subst hD
  match vs', ds, hl0, hd0, hm0 with
  | [v], [d], _, hd, hm =>
    simp only [Dens] at hd
    obtain ⟨v0, r0, hv, hd, hr⟩ := hd
    cases hv
    cases t with
    | deck j1 j2 far st =>
      cases d with
      | int m =>
        simp only [Den] at hd
        subst hd
        rw [start5 hN]
        by_cases hc : j1 = k1 ∧ j2 = k2 ∧ far.length ≤ 63
        · have e0 : F_draw1 k1 k2 (.deck j1 j2 far st) [.int m] = drawAt j1 j2 far st m := if_pos hc
          rw [e0] at hm
          obtain ⟨rfl, rfl, hl⟩ := hc
          obtain ⟨a', b, h1, rfl, hab1, hA, hB⟩ := hab
          cases h1
          have kk : ∀ {H' : Hp}, (∀ q o, q ≠ a → q ≠ b → H q = some o → H' q = some o) → Grown F H F H' ∧ ∀ q o, H q = some o → q ∉ [a, b] → H' q = some o := by
            intro H' z
            refine ⟨⟨Ex.refl F, fun q o h => ?_, fun q h => .inl h⟩, fun q o h1 h2 => z q o (fun w => h2 (by rw [w]; simp)) (fun w => h2 (by rw [w]; simp)) h1⟩
            refine z q o (fun w => ?_) (fun w => ?_) (e q o h)
            · rw [w, hF a (by simp)] at h; cases h
            · rw [w, hF b (by simp)] at h; cases h
          unfold drawAt at hm
          have v1 : valV [(Sum.inr j1, V.ref b), (Sum.inr j2, V.int (st.val : Int))] (Sum.inr j1 : Key) = some (.ref b) := valV_pos rfl
          have v2 : valV [(Sum.inr j1, V.ref b), (Sum.inr j2, V.int (st.val : Int))] (Sum.inr j2 : Key) = some (.int (st.val : Int)) := by
            rw [valV_neg (by intro z; exact hk (Sum.inr.inj z)), valV_pos rfl]
          refine ⟨.int m, rfl, m, 2, rfl, rfl, _, rfl, ?_⟩
          show ite (decide (m < 2) = true) _ _
          by_cases c1 : m < 2
          · rw [if_pos (decide_eq_true c1)]
            rw [if_pos c1] at hm
            obtain ⟨g1, g2⟩ := kk (H' := H) (fun q o _ _ h => h)
            exact hm F H (.int 0) g1 g2 hF ⟨a, b, rfl, rfl, hab1, hA, hB⟩ (by show Den _ _ _ _; simp only [Den])
          · rw [if_neg (by simpa using c1)]
            show tSeq _ _ _ _ _
            rw [if_neg c1] at hm
            by_cases c2 : m < 1073741824
            · rw [if_pos c2] at hm
              refine dget_at rfl hA v1 ⟨by simp [sizeLine_eq], fun p hp => ?_⟩
              have npa : a ≠ p := fun z => by rw [← z, hA] at hp; cases hp
              have npb : b ≠ p := fun z => by rw [← z, hB] at hp; cases hp
              have hA1 : upd H p (.lst []) a = some (.dK [(Sum.inr j1, .ref b), (Sum.inr j2, .int (st.val : Int))]) := by rw [upd_ne npa]; exact hA
              have hB1 : upd H p (.lst []) b = some (.lst (far.map fun (n : Nat) => V.int (n : Int))) := by rw [upd_ne npb]; exact hB
              refine ⟨_, .list [], .lst (.inl (.inl hB1)) (dpAll_ints far), .lst (.inl (.inl upd_same)) .nil, shaped_ints far, by decide, _, rfl, ?_⟩
              rw [eqv_empty]
              show ite ((!far.isEmpty) = true) _ _
              cases eg : far.getLast? with
              | none =>
                rw [eg] at hm
                dsimp only at hm
                have hfar : far = [] := List.getLast?_eq_none_iff.mp eg
                subst hfar
                rw [if_neg (by decide)]
                show tSeq _ _ _ _ _
                have s1 := stNext_lt (st.val : Int)
                have hst : ((st.val : Nat) : Int) < 2305843009213693952 := by have := st.isLt; omega
                refine rem_at (i := (st.val : Int) * 1181783497276652981 + 88172645463325) (fun q h => int_at (fun q h => plus_at (fun q h => times_at (fun q h => dget_at rfl hA1 v2 h) (fun q h => c_at h) (.inl ⟨by omega, by omega⟩) h) (fun q h => c_at h) h) h) (fun q h => c_at h) (by decide) ?_
                unfold gName tSeq sDPut
                dsimp only
                refine ⟨.int (stNext (st.val : Int)), rfl, .ref a, rfl, a, _, rfl, DPut.k (k := Sum.inr j2) hA1 (by rw [sizeLine_eq]; exact (by decide : 2 < 16777216)), ?_⟩
                have hp2 : putK [(Sum.inr j1, V.ref b), (Sum.inr j2, V.int (st.val : Int))] (Sum.inr j2 : Key) (.int (stNext (st.val : Int))) = [(Sum.inr j1, .ref b), (Sum.inr j2, .int (stNext (st.val : Int)))] := by
                  unfold putK
                  have n1 : ¬ (Sum.inr j1 : Key) = Sum.inr j2 := fun z => hk (Sum.inr.inj z)
                  simp [n1]
                rw [hp2]
                have hb2 : CMul (stNext (st.val : Int)) (stNext (st.val : Int)) := .inl ⟨by omega, by omega⟩
                refine rem_at (i := stNext (st.val : Int) * stNext (st.val : Int) + 374761393 * stNext (st.val : Int) + 11) (fun q h => int_at (fun q h => plus_at (fun q h => plus_at (fun q h => times_at (fun q h => var_at rfl h) (fun q h => var_at rfl h) hb2 h) (fun q h => times_at (fun q h => c_at h) (fun q h => var_at rfl h) (.inl ⟨by decide, by decide⟩) h) h) (fun q h => c_at h) h) h) (fun q h => c_at h) (by decide) ?_
                refine rem_at (i := stTwo (stNext (st.val : Int)) / 1048576) (fun q h => int_at (fun q h => over_at (fun q h => var_at rfl h) (fun q h => c_at h) ⟨by decide, by decide⟩ h) h) (fun q h => var_at rfl h) (by omega) ?_
                obtain ⟨g1, g2⟩ := kk (H' := upd (upd H p (.lst [])) a (.dK [(Sum.inr j1, .ref b), (Sum.inr j2, .int (stNext (st.val : Int)))])) (fun q o n1 _ h => by
                  rw [upd_ne n1, upd_ne (ne_of_none h hp)]
                  exact h)
                refine hm F _ (.int ((stTwo (stNext (st.val : Int)) / 1048576) % m)) g1 g2 hF ⟨a, b, rfl, rfl, hab1, ?_, ?_⟩ (den_int (K := K) (F := F))
                · have h4 : (((lt61 s1.1 s1.2).val : Nat) : Int) = stNext (st.val : Int) := lt61_val s1.1 s1.2
                  rw [h4, upd_same]
                · rw [upd_ne (Ne.symm hab1), upd_ne npb]; exact hB
              | some w =>
                rw [eg] at hm
                dsimp only at hm
                have hne : far ≠ [] := by intro z; rw [z] at eg; cases eg
                have hfe : far.isEmpty = false := by cases far with
                  | nil => exact absurd rfl hne
                  | cons _ _ => rfl
                rw [hfe, if_pos (by decide)]
                show tSeq _ _ _ _ _
                have hpos : 0 < far.length := List.length_pos_iff.mpr hne
                have hlast : (far.map fun (n : Nat) => V.int (n : Int))[(far.map fun (n : Nat) => V.int (n : Int)).length - 1]? = some (.int (w : Int)) := by
                  rw [List.length_map, List.getElem?_map, ← List.getLast?_eq_getElem?, eg]
                  rfl
                refine dget_at rfl hA1 v1 ⟨.inl ⟨rfl, _, .inl (.inl hB1)⟩, b, _, _, rfl, rfl, hB1, hlast, ?_⟩
                have hdl : (far.map fun (n : Nat) => V.int (n : Int)).dropLast = far.dropLast.map fun (n : Nat) => V.int (n : Int) := by rw [List.map_dropLast]
                rw [hdl]
                have hA2 : upd (upd H p (.lst [])) b (.lst (far.dropLast.map fun (n : Nat) => V.int (n : Int))) a = some (.dK [(Sum.inr j1, .ref b), (Sum.inr j2, .int (st.val : Int))]) := by rw [upd_ne hab1]; exact hA1
                refine ⟨.int (w : Int), rfl, .int m, rfl, (w : Int), m, rfl, rfl, _, rfl, ?_⟩
                show ite (decide (m ≤ (w : Int)) = true) _ _
                by_cases c3 : m ≤ (w : Int)
                · rw [if_pos (decide_eq_true c3)]
                  rw [if_pos c3] at hm
                  refine dget_at rfl hA2 v1 ⟨.inl ⟨rfl, _, .inl (.inl upd_same)⟩, over_at (fun q h => var_at rfl h) (fun q h => var_at rfl h) ⟨by omega, by omega⟩ ?_⟩
                  refine ⟨b, _, _, rfl, rfl, upd_same, by rw [List.length_map, List.length_dropLast, sizeLine_eq]; omega, ?_⟩
                  refine rem_at (i := (w : Int)) (fun q h => int_at (fun q h => var_at rfl h) h) (fun q h => var_at rfl h) (by omega) ?_
                  obtain ⟨g1, g2⟩ := kk (H' := upd (upd (upd H p (.lst [])) b (.lst (far.dropLast.map fun (n : Nat) => V.int (n : Int)))) b (.lst ((far.dropLast.map fun (n : Nat) => V.int (n : Int)) ++ [.int ((w : Int) / m)]))) (fun q o _ n2 h => by
                    rw [upd_ne n2, upd_ne n2, upd_ne (ne_of_none h hp)]
                    exact h)
                  refine hm F _ _ g1 g2 hF ⟨a, b, rfl, rfl, hab1, ?_, ?_⟩ (by show Den _ _ _ _; simp only [Den])
                  · rw [upd_ne hab1]; exact hA2
                  · rw [upd_same, List.map_append]
                    have h5 : ((((w : Int) / m).toNat : Nat) : Int) = (w : Int) / m := Int.toNat_of_nonneg (Int.ediv_nonneg (by omega) (by omega))
                    simp only [List.map_cons, List.map_nil, h5]
                · rw [if_neg (by simpa using c3)]
                  rw [if_neg c3] at hm
                  refine rem_at (i := (w : Int)) (fun q h => int_at (fun q h => var_at rfl h) h) (fun q h => var_at rfl h) (by omega) ?_
                  obtain ⟨g1, g2⟩ := kk (H' := upd (upd H p (.lst [])) b (.lst (far.dropLast.map fun (n : Nat) => V.int (n : Int)))) (fun q o _ n2 h => by
                    rw [upd_ne n2, upd_ne (ne_of_none h hp)]
                    exact h)
                  exact hm F _ _ g1 g2 hF ⟨a, b, rfl, rfl, hab1, hA2, upd_same⟩ (by show Den _ _ _ _; simp only [Den])
            · rw [if_neg c2] at hm
              exact hm.elim
        · have e0 : F_draw1 k1 k2 (.deck j1 j2 far st) [.int m] = (.bad, .deck j1 j2 far st) := if_neg hc
          rw [e0] at hm
          exact hm.elim
      | _ => exact hm.elim
end Pu

namespace Pu
open PySem PySem.Spec PyProof.Rows L2
abbrev rLenSeq (K : PySem.W.Frag) : List V → Hp → VK → Prop := fun xs H Q => ∃ p ys, xs = [.ref p] ∧ (SqL K H p ys ∨ SqT K H p ys) ∧ Q (.int ys.length) H
abbrev rAbs1 : List V → Hp → VK → Prop := fun xs H Q => ∃ i, xs = [.int i] ∧ Q (.int (if i < 0 then -i else i)) H
abbrev tCut (K : PySem.W.Frag) : TE := tSl (rSlL K) (tVar 0) tNoPart (tPart (tC (.int 63)))
def mkBody (k1 k2 : Str) : TS :=
  tSeq (tAsg (tCB rAbs1 (tCons (tVar 2) tNil)) (gName 3))
    (tSeq (tIfS (tTest (tOp (rI0 fun i j => .bl (decide (j ≤ i))) (tVar 3) (tOp (rI CPow fun i j => .int (i ^ j.toNat)) (tC (.int 10)) (tC (.int 18)))))
        (sDPut (tVar 1) (tC (.str k1)) (tOp rCat (tLst (tCons (tVar 3) tNil)) (tDGet (tVar 1) (tC (.str k1))))) tNext)
      (tSeq (tAsg (tPlus (tTimes (tPlus (tPlus (tPlus (tDGet (tVar 1) (tC (.str k2))) (tTimes (tC (.int 2)) (tVar 3))) (tInt (tOp (rI0 fun i j => .bl (decide (i < j))) (tVar 2) (tC (.int 0))))) (tC (.int 1))) (tC (.int 1181783497276652981))) (tC (.int 521288629))) (gName 4))
        (sDPut (tVar 1) (tC (.str k2)) (tRem (tInt (tVar 4)) (tC (.int 2305843009213693951))))))
def mkTS (c0 : Int) (K : PySem.W.Frag) (k1 k2 : Str) : TS :=
  tSeq (tAsg (tDisp [(tC (.str k1), tLst tNil), (tC (.str k2), tPlus (tC (.int c0)) (tCB (rLenSeq K) (tCons (tCut K) tNil)))]) (gName 1))
    (tSeq (tFor (iList K (tCut K)) (gName 2) (mkBody k1 k2)) (tRet (tVar 1)))
theorem cut63 {xs : List V} (h : xs.length ≤ 63) : cutV xs none (some 63) = xs := by
  have e : HT.sIx xs.length xs.length (some 63) = min 63 xs.length := HT.sIx_nat _ _ 63
  unfold cutV
  rw [e, HT.sIx_none, List.drop_zero, Nat.sub_zero, Nat.min_eq_right h, List.take_length]
/-- the deck in the making: at p, of new objects -/
structure DeckAt (k1 k2 : Str) (H0 : Hp) (p : Addr) (n : Nat) (q : Addr) (xs : List V) (H : Hp) : Prop where
  ex : Ex H0 H
  hp : H0 p = none
  hq : H q = some (.lst xs)
  hqp : q ≠ p
  at_ : ∃ (b : Addr) (far : List Nat) (st : Int), p ≠ b ∧ q ≠ b ∧ H0 b = none ∧ H p = some (.dK [(Sum.inr k1, .ref b), (Sum.inr k2, .int st)]) ∧ H b = some (.lst (far.map fun (z : Nat) => V.int (z : Int))) ∧ 0 ≤ st ∧ st < 2305843009213693952 ∧ far.length ≤ n
theorem upd_keep {H0 H : Hp} {p : Addr} {o : HO} (e : Ex H0 H) (h : H0 p = none) : Ex H0 (upd H p o) := fun q u z => by
  rw [upd_ne (ne_of_none z h)]
  exact e q u z
theorem body_wp {k1 k2 : Str} (hk : k1 ≠ k2) {H0 H : Hp} {p q : Addr} {n : Nat} {xs : List V} {A x3 x4 : Option V} {c : Int} {D0 : Ends} (h : DeckAt k1 k2 H0 p n q xs H) (hn : n < 100)
    (hD : ∀ c' x3' x4' H', DeckAt k1 k2 H0 p (n + 1) q xs H' → D0.nx [A, some (.ref p), some c', x3', x4'] H') : mkBody k1 k2 D0 [A, some (.ref p), some (.int c), x3, x4] H := by
  have last : ∀ (w : Int) (x4 : Option V) H, DeckAt k1 k2 H0 p (n + 1) q xs H → (tSeq (tAsg (tPlus (tTimes (tPlus (tPlus (tPlus (tDGet (tVar 1) (tC (.str k2))) (tTimes (tC (.int 2)) (tVar 3))) (tInt (tOp (rI0 fun i j => .bl (decide (i < j))) (tVar 2) (tC (.int 0))))) (tC (.int 1))) (tC (.int 1181783497276652981))) (tC (.int 521288629))) (gName 4))
        (sDPut (tVar 1) (tC (.str k2)) (tRem (tInt (tVar 4)) (tC (.int 2305843009213693951))))) D0 [A, some (.ref p), some (.int c), some (.int w), x4] H := by
    intro w x4 H ⟨ex, hp, hq, hqp, b, far, st, hpb, hqb, hb0, hP, hB, s0, s1, hl⟩
    have v2 : valV [(Sum.inr k1, V.ref b), (Sum.inr k2, V.int st)] (Sum.inr k2 : Key) = some (.int st) := by
      rw [valV_neg (by intro z; exact hk (Sum.inr.inj z)), valV_pos rfl]
    have m2 : CMul 2 w := .inl ⟨by decide, by decide⟩
    show tPlus _ _ _ _ _
    have fin : ∀ u : Int, gName 4 (.int u) [A, some (.ref p), some (.int c), some (.int w), x4] H (sDPut (tVar 1) (tC (.str k2)) (tRem (tInt (tVar 4)) (tC (.int 2305843009213693951))) D0) := by
      intro u
      show sDPut (tVar 1) (tC (.str k2)) (tRem (tInt (tVar 4)) (tC (.int 2305843009213693951))) D0 [A, some (.ref p), some (.int c), some (.int w), some (.int u)] H
      refine rem_at (i := u) (fun q h => int_at (fun q h => var_at rfl h) h) (fun q h => c_at h) (by decide) ?_
      refine ⟨.ref p, rfl, p, _, rfl, DPut.k (k := Sum.inr k2) hP (by rw [sizeLine_eq]; exact (by decide : 2 < 16777216)), ?_⟩
      have hp2 : putK [(Sum.inr k1, V.ref b), (Sum.inr k2, V.int st)] (Sum.inr k2 : Key) (.int (u % 2305843009213693951)) = [(Sum.inr k1, .ref b), (Sum.inr k2, .int (u % 2305843009213693951))] := by
        unfold putK
        have n1 : ¬ (Sum.inr k1 : Key) = Sum.inr k2 := fun z => hk (Sum.inr.inj z)
        simp [n1]
      rw [hp2]
      refine hD _ _ _ _ ⟨upd_keep ex hp, hp, by rw [upd_ne hqp]; exact hq, hqp, b, far, _, hpb, hqb, hb0, upd_same, by rw [upd_ne (Ne.symm hpb)]; exact hB, Int.emod_nonneg _ (by decide), ?_, hl⟩
      have := Int.emod_lt_of_pos u (show (0 : Int) < 2305843009213693951 by decide)
      omega
    by_cases hc : c < 0
    · refine plus_at (fun q h => times_at (fun q h => plus_at (fun q h => plus_at (fun q h => plus_at (fun q h => dget_at rfl hP v2 h) (fun q h => times_at (fun q h => c_at h) (fun q h => var_at rfl h) m2 h) h) (j := 1) (fun q h => ?_) h) (fun q h => c_at h) h) (fun q h => c_at h) (.inr ⟨by decide, by decide⟩) h) (fun q h => c_at h) (fin _)
      refine ⟨.int c, rfl, c, 0, rfl, rfl, .inr ⟨_, rfl, ?_⟩⟩
      rw [decide_eq_true hc]
      exact h
    · refine plus_at (fun q h => times_at (fun q h => plus_at (fun q h => plus_at (fun q h => plus_at (fun q h => dget_at rfl hP v2 h) (fun q h => times_at (fun q h => c_at h) (fun q h => var_at rfl h) m2 h) h) (j := 0) (fun q h => ?_) h) (fun q h => c_at h) h) (fun q h => c_at h) (.inr ⟨by decide, by decide⟩) h) (fun q h => c_at h) (fin _)
      refine ⟨.int c, rfl, c, 0, rfl, rfl, .inr ⟨_, rfl, ?_⟩⟩
      rw [decide_eq_false hc]
      exact h
  refine ⟨.int c, rfl, c, rfl, ?_⟩
  generalize hw : (if c < 0 then -c else c) = w
  have w0 : 0 ≤ w := by rw [← hw]; split <;> omega
  dsimp only [gName, List.set]
  refine ⟨.int w, rfl, 10, 18, rfl, rfl, ⟨by decide, by decide, by decide⟩, w, _, rfl, rfl, _, rfl, ?_⟩
  show ite (decide (_ ≤ w) = true) _ _
  obtain ⟨ex, hp, hq, hqp, b, far, st, hpb, hqb, hb0, hP, hB, s0, s1, hl⟩ := h
  by_cases hc : (10 : Int) ^ (18 : Int).toNat ≤ w
  · rw [if_pos (decide_eq_true hc)]
    refine ⟨.int w, rfl, by rw [sizeLine_eq]; exact (by decide : 1 ≤ 16777216), fun r hr => ?_⟩
    have v1 : valV [(Sum.inr k1, V.ref b), (Sum.inr k2, V.int st)] (Sum.inr k1 : Key) = some (.ref b) := valV_pos rfl
    have nr : ∀ {y : Addr} {o : HO}, H y = some o → y ≠ r := fun z w => by rw [← w, z] at hr; cases hr
    have hP1 : upd H r (.lst [.int w]) p = some (.dK [(Sum.inr k1, .ref b), (Sum.inr k2, .int st)]) := by rw [upd_ne (nr hP)]; exact hP
    refine dget_at rfl hP1 v1 ⟨r, b, _, _, rfl, rfl, upd_same, by rw [upd_ne (nr hB)]; exact hB, ?_, fun u hu => ?_⟩
    · rw [List.length_map, List.length_singleton, sizeLine_eq]; omega
    have nu : ∀ {y : Addr} {o : HO}, upd H r (.lst [.int w]) y = some o → y ≠ u := fun z w => by rw [← w, z] at hu; cases hu
    have ru : r ≠ u := nu upd_same
    refine ⟨.ref p, rfl, p, _, rfl, DPut.k (k := Sum.inr k1) (by rw [upd_ne (nu hP1)]; exact hP1) (by rw [sizeLine_eq]; exact (by decide : 2 < 16777216)), ?_⟩
    have hp2 : putK [(Sum.inr k1, V.ref b), (Sum.inr k2, V.int st)] (Sum.inr k1 : Key) (.ref u) = [(Sum.inr k1, .ref u), (Sum.inr k2, .int st)] := by
      unfold putK
      have n1 : ¬ (Sum.inr k2 : Key) = Sum.inr k1 := fun z => hk (Sum.inr.inj z).symm
      simp [n1]
    rw [hp2]
    have hu0 : H u = none := by rw [upd_ne (Ne.symm ru)] at hu; exact hu
    have pu : p ≠ u := nu hP1
    have h0r : H0 r = none := none_of_ex ex hr
    have h0u : H0 u = none := none_of_ex ex hu0
    refine last w x4 _ ⟨upd_keep (upd_keep (upd_keep ex h0r) h0u) hp, hp, ?_, hqp, u, w.toNat :: far, st, pu, ?_, h0u, upd_same, ?_, s0, s1, by rw [List.length_cons]; omega⟩
    · rw [upd_ne hqp, upd_ne (nu (by rw [upd_ne (nr hq)]; exact hq)), upd_ne (nr hq)]; exact hq
    · exact nu (by rw [upd_ne (nr hq)]; exact hq)
    · rw [upd_ne (Ne.symm pu), upd_same, List.map_cons, Int.toNat_of_nonneg w0]
      rfl
  · rw [if_neg (by simpa using hc)]
    exact last w x4 H ⟨ex, hp, hq, hqp, b, far, st, hpb, hqb, hb0, hP, hB, s0, s1, by omega⟩
theorem mk_wp {c0 : Int} (hc0 : 0 ≤ c0) (hc1 : c0 < 1000000000) {K : PySem.W.Frag} {k1 k2 : Str} (hk : k1 ≠ k2) {vs : List V} {H : Hp} {Q : VK} {E : XK} {D0 : Ends} (h : SpMk K (IsDeck k1 k2) vs H Q E) (hD : D0.rt = Q) {N : List Str} (hN : N.length = 5) :
    mkTS c0 K k1 k2 D0 (L2.start N vs) H := by
  obtain ⟨a, ns, rfl, sy, hs, hl, hQ⟩ := h
  subst hD
  have e5 : L2.start N [V.ref a] = [some (.ref a), none, none, none, none] := by
    unfold L2.start
    rw [hN]
    rfl
  rw [e5]
  have hcut : cutV (ns.map V.int) none (some 63) = ns.map V.int := cut63 (by rw [List.length_map]; exact hl)
  intro p hp
  refine ⟨by rw [sizeLine_eq]; exact Nat.zero_le _, fun b hb => ?_⟩
  have ep : Ex H (upd H p (.dK [])) := Ex.new hp
  have hbp : b ≠ p := fun z => by rw [z, upd_same] at hb; cases hb
  have hb0 : H b = none := by rw [upd_ne hbp] at hb; exact hb
  have eb : Ex H (upd (upd H p (.dK [])) b (.lst [])) := upd_keep ep hb0
  have hsb : SqL K (upd (upd H p (.dK [])) b (.lst [])) a (ns.map V.int) := ex_l eb hs
  refine ⟨.ref a, rfl, 63, rfl, a, _, rfl, hsb, fun q hq => ?_⟩
  rw [hcut]
  have ht0 : ∀ {y : Addr}, y ≠ q → y ≠ b → y ≠ p → upd (upd (upd H p (.dK [])) b (.lst [])) q (.lst (ns.map V.int)) y = H y := fun h1 h2 h3 => by rw [upd_ne h1, upd_ne h2, upd_ne h3]
  have hqb : q ≠ b := fun z => by rw [z, upd_same] at hq; cases hq
  have hqp : q ≠ p := fun z => by rw [z, upd_ne (Ne.symm hbp), upd_same] at hq; cases hq
  have hq0 : H q = none := by rw [upd_ne hqb, upd_ne hqp] at hq; exact hq
  refine ⟨q, ns.map V.int, rfl, .inl (.inl (.inl upd_same)), ?_⟩
  refine ⟨c0, ((ns.map V.int).length : Int), rfl, rfl, ?_⟩
  have hP : upd (upd (upd H p (.dK [])) b (.lst [])) q (.lst (ns.map V.int)) p = some (.dK []) := by rw [upd_ne (Ne.symm hqp), upd_ne (Ne.symm hbp), upd_same]
  refine ⟨hP, [(Sum.inr k1, .ref b), (Sum.inr k2, .int (c0 + ((ns.map V.int).length : Int)))], rfl, (by decide : 2 ≤ 15), ?_⟩
  have hm : mergeK [] [(Sum.inr k1, V.ref b), (Sum.inr k2, V.int (c0 + ((ns.map V.int).length : Int)))] = [(Sum.inr k1, .ref b), (Sum.inr k2, .int (c0 + ((ns.map V.int).length : Int)))] := by
    have n1 : ¬ (Sum.inr k1 : Key) = Sum.inr k2 := fun z => hk (Sum.inr.inj z)
    simp [mergeK, putK, n1]
  rw [hm]
  dsimp only [gName, List.set]
  generalize hH3 : upd (upd (upd (upd H p (.dK [])) b (.lst [])) q (.lst (ns.map V.int))) p (.dK [(Sum.inr k1, V.ref b), (Sum.inr k2, V.int (c0 + ((ns.map V.int).length : Int)))]) = H3
  have e3 : Ex H H3 := by rw [← hH3]; exact upd_keep (upd_keep eb hq0) hp
  have hP3 : H3 p = some (.dK [(Sum.inr k1, V.ref b), (Sum.inr k2, V.int (c0 + ((ns.map V.int).length : Int)))]) := by rw [← hH3, upd_same]
  have hB3 : H3 b = some (.lst []) := by rw [← hH3, upd_ne hbp, upd_ne (Ne.symm hqb), upd_same]
  show tFor _ _ _ _ _ _
  refine ⟨.ref a, rfl, 63, rfl, a, _, rfl, ex_l e3 hs, fun r hr => ?_⟩
  rw [hcut]
  have nr : ∀ {y : Addr} {o : HO}, H3 y = some o → y ≠ r := fun z w => by rw [← w, z] at hr; cases hr
  refine ⟨r, rfl, ⟨_, .inl (.inl upd_same)⟩, ?_⟩
  have hr0 : H r = none := none_of_ex e3 hr
  have start : DeckAt k1 k2 H p 0 r (ns.map V.int) (upd H3 r (.lst (ns.map V.int))) := by
    refine ⟨upd_keep e3 hr0, hp, upd_same, Ne.symm (nr hP3), b, [], _, Ne.symm hbp, Ne.symm (nr hB3), hb0, by rw [upd_ne (nr hP3)]; exact hP3, by rw [upd_ne (nr hB3)]; exact hB3, by omega, ?_, Nat.le_refl _⟩
    rw [List.length_map]
    omega
  refine for_it (walk_list (xs := ns.map V.int)) (fun i σ H' => DeckAt k1 k2 H p i r (ns.map V.int) H' ∧ ∃ x2 x3 x4, σ = [some (.ref a), some (.ref p), x2, x3, x4]) ⟨start, none, none, none, rfl⟩ (fun i σ H' _ h => .inl (.inl h.1.hq)) ?_ ?_
  · rintro i x σ H1 H2 hi ⟨h, x2, x3, x4, rfl⟩ ⟨rfl, hx⟩
    rw [List.getElem?_map] at hx
    cases hn : ns[i]? with
    | none => rw [hn] at hx; cases hx
    | some c =>
      rw [hn] at hx
      cases hx
      rw [List.length_map] at hi
      refine body_wp hk h (by omega) fun c' x3' x4' H' h' => ⟨h', _, _, _, rfl⟩
  · rintro σ H1 ⟨⟨ex, hp, hq, hqp, b, far, st, hpb, hqb, hb0, hP, hB, s0, s1, hl1⟩, x2, x3, x4, rfl⟩
    rw [List.length_map] at hl1
    refine ⟨.ref p, rfl, hQ (.deck k1 k2 far ⟨st.toNat, by omega⟩) H1 (.ref p) [p, b] ⟨far, _, rfl, by omega⟩ ex ⟨p, b, rfl, rfl, hpb, ?_, hB⟩ ?_⟩
    · rw [hP]
      show _ = some (HO.dK [(Sum.inr k1, .ref b), (Sum.inr k2, .int ((st.toNat : Nat) : Int))])
      rw [Int.toNat_of_nonneg s0]
    · intro y hy
      simp only [List.mem_cons, List.not_mem_nil, or_false] at hy
      rcases hy with rfl | rfl
      · exact hp
      · exact hb0
end Pu

namespace Pu
open PySem PySem.Spec PyProof.Rows L2
/-! ### reckoning with runs over data -/
def Ev {α : Type} (r : Res α) (P : α → PEnv → Prop) : Prop := match r with
  | .ok a e => P a e
  | _ => False
theorem Ev.mono {α : Type} {r : Res α} {P P' : α → PEnv → Prop} (h : Ev r P) (k : ∀ a e, P a e → P' a e) : Ev r P' := by
  cases r with
  | ok a e => exact k a e h
  | _ => exact h
theorem Ev.bnd {α β : Type} {m : PM α} {f : α → PM β} {e : PEnv} {P : β → PEnv → Prop} (h : Ev (m e) fun a e' => Ev (f a e') P) : Ev (bnd m f e) P := by
  unfold Pu.bnd
  cases em : m e with
  | ok a e' => rw [em] at h; exact h
  | exc x e' => rw [em] at h; exact h.elim
  | bad => rw [em] at h; exact h.elim
theorem Ev.ret {α : Type} {a : α} {e : PEnv} {P : α → PEnv → Prop} (h : P a e) : Ev (ret a e) P := h
theorem Ev.of {α : Type} {r : Res α} {a : α} {e : PEnv} {P : α → PEnv → Prop} (h : r = .ok a e) (q : P a e) : Ev r P := by rw [h]; exact q
/-- a call that gives something, with the deck as it is then -/
def EvB (r : FR × Ab) (P : Opd → Ab → Prop) : Prop := match r with
  | (.ok o, t) => P o t
  | _ => False
theorem EvB.mono {r : FR × Ab} {P P' : Opd → Ab → Prop} (h : EvB r P) (k : ∀ o t, P o t → P' o t) : EvB r P' := by
  obtain ⟨r, t⟩ := r
  cases r with
  | ok o => exact k o t h
  | _ => exact h
theorem EvB.of {r : FR × Ab} {o : Opd} {t : Ab} {P : Opd → Ab → Prop} (h : r = (.ok o, t)) (q : P o t) : EvB r P := by rw [h]; exact q
theorem ev_runB {N : Nat} {g : PM Out} {t : Ab} {ds : List D} {P : Opd → Ab → Prop} (h : Ev (g (envOf N (.ab t :: ds.map .im))) fun out e => ∃ t', e[0]? = some (some (.ab t')) ∧ ∃ o, out = .ret o ∧ ∃ r, finR true o e = .ok r ∧ P r t') :
    EvB (runB N g t ds) P := by
  unfold runB
  cases eg : g (envOf N (.ab t :: ds.map .im)) with
  | ok out e =>
    rw [eg] at h
    obtain ⟨t', h0, o, rfl, r, hr, hp⟩ := h
    simp only [ab0, h0, hr]
    exact hp
  | exc x e => rw [eg] at h; exact h.elim
  | bad => rw [eg] at h; exact h.elim
theorem ev_runA {N : Nat} {g : PM Out} {ds : List D} {r : Opd} (h : Ev (g (envOf N (ds.map .im))) fun out e => ∃ o, out = .ret o ∧ finR false o e = .ok r) : runA N g ds = .ok r := by
  unfold runA
  cases eg : g (envOf N (ds.map .im)) with
  | ok out e =>
    rw [eg] at h
    obtain ⟨o, rfl, hr⟩ := h
    exact hr
  | exc x e => rw [eg] at h; exact h.elim
  | bad => rw [eg] at h; exact h.elim
theorem ev_true {r : Res Out} (h : Ev r fun out e => out = .ret (.val (.bool true))) : TrueEnd r := by
  cases r with
  | ok out e =>
    have h' : out = .ret (.val (.bool true)) := h
    subst h'
    rfl
  | exc x e => exact h.elim
  | bad => exact h.elim
/-! the run of a call within an expression -/
theorem ev_callB {i : Nat} {F : Ab → List D → FR × Ab} {fs : PM (List D)} {e : PEnv} {P : Opd → PEnv → Prop} (h0 : ∃ t0, e[i]? = some (some (.ab t0)))
    (h : Ev (fs e) fun ds e' => ∃ t, e'[i]? = some (some (.ab t)) ∧ EvB (F t ds) fun o t' => P o (e'.set i (some (.ab t')))) : Ev (eCallB i F fs e) P := by
  obtain ⟨t0, h0⟩ := h0
  unfold eCallB
  refine Ev.bnd ?_
  have e1 : abAtE i e = .ok t0 e := by unfold abAtE; rw [h0]
  rw [e1]
  refine Ev.bnd (h.mono fun ds e' q => ?_)
  obtain ⟨t, h1, h2⟩ := q
  refine Ev.bnd ?_
  have e2 : abAtE i e' = .ok t e' := by unfold abAtE; rw [h1]
  rw [e2]
  show Ev (frB i (F t ds) e') P
  cases eF : F t ds with
  | mk r t' =>
    rw [eF] at h2
    cases r with
    | ok o => exact h2
    | exc x => exact h2.elim
    | bad => exact h2.elim
/-! loops -/
theorem ev_for {s : D → PEnv → Option PEnv} {body : PM Out} {P : Out → PEnv → Prop} (I : List D → PEnv → Prop) :
    ∀ (ds : List D) (e : PEnv), I ds e → (∀ d ds e, I (d :: ds) e → ∃ e1, s d e = some e1 ∧ Ev (body e1) fun o e2 => match o with
      | .next => I ds e2
      | .cont => I ds e2
      | .brk => P .next e2
      | .ret o => P (.ret o) e2) → (∀ e, I [] e → P .next e) → Ev (goFor s body ds e) P
  | [], e, h, _, hd => hd e h
  | d :: ds, e, h, hs, hd => by
    obtain ⟨e1, h1, h2⟩ := hs d ds e h
    unfold goFor
    simp only [h1]
    cases eb : body e1 with
    | ok o e2 =>
      rw [eb] at h2
      cases o with
      | next => exact ev_for I ds e2 h2 hs hd
      | cont => exact ev_for I ds e2 h2 hs hd
      | brk => exact h2
      | ret o => exact h2
    | exc x e2 => rw [eb] at h2; exact h2.elim
    | bad => rw [eb] at h2; exact h2.elim
/-- a comprehension: what is kept so far, the environment -/
theorem ev_lc {vs : List Nat} {s : D → PEnv → Option PEnv} {t : PM Bool} {f : PM Opd} {P : List D → PEnv → Prop} (I : List D → List D → PEnv → Prop) :
    ∀ (ds acc : List D) (e : PEnv), I ds acc e → (∀ d ds acc e, I (d :: ds) acc e → acc.length < bigLine ∧ ∃ e1, s d e = some e1 ∧ Ev (t e1) fun k e2 => if k = true then Ev (kept f e2) (fun y e3 => I ds (acc ++ [y]) (wipeE e3 vs)) else I ds acc (wipeE e2 vs)) →
      (∀ acc e, I [] acc e → P acc e) → Ev (goLc vs s t f ds acc e) P
  | [], acc, e, h, _, hd => hd acc e h
  | d :: ds, acc, e, h, hs, hd => by
    obtain ⟨hl, e1, h1, h2⟩ := hs d ds acc e h
    unfold goLc
    simp only [h1]
    cases et : t e1 with
    | ok k e2 =>
      rw [et] at h2
      have h2' : if k = true then Ev (kept f e2) (fun y e3 => I ds (acc ++ [y]) (wipeE e3 vs)) else I ds acc (wipeE e2 vs) := h2
      cases k with
      | false =>
        rw [if_neg Bool.false_ne_true] at h2'
        exact ev_lc I ds acc _ h2' hs hd
      | true =>
        rw [if_pos rfl] at h2'
        cases ef : kept f e2 with
        | ok y e3 =>
          rw [ef] at h2'
          simp only [ef, if_pos hl]
          exact ev_lc I ds (acc ++ [y]) _ h2' hs hd
        | exc x e3 => rw [ef] at h2'; exact h2'.elim
        | bad => rw [ef] at h2'; exact h2'.elim
    | exc x e2 => rw [et] at h2; exact h2.elim
    | bad => rw [et] at h2; exact h2.elim
theorem ev_eLc {it : PM (List D)} {vs : List Nat} {s : D → PEnv → Option PEnv} {t : PM Bool} {f : PM Opd} {e : PEnv} {P : Opd → PEnv → Prop}
    (h : Ev (it e) fun ds e1 => Ev (goLc vs s t f ds [] (wipeE e1 vs)) fun acc e2 => P (.tmp acc) (rst e1 e2 vs)) : Ev (eLc it vs s t f e) P := by
  unfold eLc
  refine Ev.bnd (h.mono fun ds e1 q => ?_)
  cases eg : goLc vs s t f ds [] (wipeE e1 vs) with
  | ok acc e2 => rw [eg] at q; exact q
  | exc x e2 => rw [eg] at q; exact q.elim
  | bad => rw [eg] at q; exact q.elim
/-! ### data that may be shown: of n parts, k deep -/
structure Sm (n k : Nat) (d : D) : Prop where
  sh : d.showable = true
  ls : d.leavesShort 100 = true
  bk : d.bulk ≤ n
  dp : d.depth ≤ k
theorem Sm.mono {n k n' k' : Nat} {d : D} (h : Sm n k d) (h1 : n ≤ n' := by omega) (h2 : k ≤ k' := by omega) : Sm n' k' d := ⟨h.sh, h.ls, Nat.le_trans h.bk h1, Nat.le_trans h.dp h2⟩
theorem Sm.can {n k : Nat} {d : D} (h : Sm n k d) (h1 : n ≤ 90000 := by omega) (h2 : k ≤ 50 := by omega) : canShow d = true := by
  have h3 := PyData.shown_le_bulk 100 (by decide) d h.ls
  have h4 : d.shown.length ≤ 10000000 := by
    have := h.bk
    omega
  unfold canShow bigLine
  rw [h.sh, decide_eq_true h4, decide_eq_true (Nat.le_trans h.dp h2)]
  rfl
theorem sm_all {n k : Nat} {ds : List D} (h : ∀ d ∈ ds, Sm n k d) : PyData.showableAll ds = true ∧ PyData.leavesShortAll 100 ds = true ∧ PyData.bulkAll ds ≤ ds.length * (n + 1) ∧ PyData.depthAll ds ≤ k := by
  induction ds with
  | nil => exact ⟨by simp only [PyData.showableAll], by simp only [PyData.leavesShortAll], by simp only [PyData.bulkAll]; omega, by simp only [PyData.depthAll]; omega⟩
  | cons d ds ih =>
    obtain ⟨i1, i2, i3, i4⟩ := ih fun x hx => h x (List.mem_cons_of_mem _ hx)
    have hd := h d (by simp)
    refine ⟨?_, ?_, ?_, ?_⟩
    · simp only [PyData.showableAll, hd.sh, i1, Bool.and_self]
    · simp only [PyData.leavesShortAll, hd.ls, i2, Bool.and_self]
    · simp only [PyData.bulkAll, List.length_cons, Nat.succ_mul]
      have := hd.bk
      omega
    · simp only [PyData.depthAll]
      exact Nat.max_le.mpr ⟨hd.dp, i4⟩
theorem sm_tup {n k m : Nat} {ds : List D} (h : ∀ d ∈ ds, Sm n k d) (hl : ds.length ≤ m) : Sm (m * (n + 1)) (k + 1) (.tuple ds) := by
  obtain ⟨i1, i2, i3, i4⟩ := sm_all h
  refine ⟨by simpa only [PyData.showable] using i1, by simpa only [PyData.leavesShort] using i2, ?_, ?_⟩
  · simp only [PyData.bulk]
    exact Nat.le_trans i3 (Nat.mul_le_mul_right _ hl)
  · simp only [PyData.depth]
    omega
theorem sm_lst {n k m : Nat} {ds : List D} (h : ∀ d ∈ ds, Sm n k d) (hl : ds.length ≤ m) : Sm (m * (n + 1)) (k + 1) (.list ds) := by
  obtain ⟨i1, i2, i3, i4⟩ := sm_all h
  refine ⟨by simpa only [PyData.showable] using i1, by simpa only [PyData.leavesShort] using i2, ?_, ?_⟩
  · simp only [PyData.bulk]
    exact Nat.le_trans i3 (Nat.mul_le_mul_right _ hl)
  · simp only [PyData.depth]
    omega
end Pu

namespace Pu
open PySem PySem.Spec PyProof.Rows L2
/-! ### rows for reckoning out a run -/
section
variable {α β : Type} {m : PM α} {f : α → PM β} {a : α} {e e' : PEnv} {g : D → D → Option Opd} {fa fb fc : PM Opd} {ft ft2 : PM Bool} {i : Nat} {d : D} {ds : List D} {o : Opd}
theorem bnd_e : bnd m f e = (match m e with | .ok a e' => f a e' | .exc x e' => .exc x e' | .bad => .bad) := rfl
theorem ret_e : ret a e = .ok a e := rfl
theorem oops_e : (oops : PM α) e = .bad := rfl
theorem lift_s : lift (some a) e = .ok a e := rfl
theorem lift_n : (lift none : PM α) e = .bad := rfl
theorem opn_e : opn fa e = bnd fa thaw e := rfl
theorem thaw_v : thaw (.val d) e = .ok (.val d) e := rfl
theorem thaw_t : thaw (.tmp ds) e = .ok (.val (.list ds)) e := rfl
theorem thaw_s : thaw (.slot i) e = .ok (.slot i) e := rfl
theorem rsv_v : rsv (.val d) e = .ok d e := rfl
theorem rsv_s : rsv (.slot i) e = (match e[i]? with | some (some (.im d)) => .ok d e | some (some (.ls ds)) => .ok (.list ds) e | _ => .bad) := rfl
theorem frz_v : frz (.val d) e = .ok d e := rfl
theorem frz_t : frz (.tmp ds) e = .ok (.list ds) e := rfl
theorem frz_s : frz (.slot i) e = (match e[i]? with | some (some (.im d)) => .ok d e | some (some (.ls ds)) => .ok (.list ds) (e.set i (some (.im (.list ds)))) | _ => .bad) := rfl
theorem kept_e : kept fa e = bnd fa frz e := rfl
theorem eVar_e : eVar i e = (match e[i]? with | some (some (.im d)) => .ok (.val d) e | some (some _) => .ok (.slot i) e | _ => .bad) := rfl
theorem eBin_e : eBin g fa fb e = bnd (opn fa) (fun x => bnd (opn fb) fun y => bnd (rsv x) fun dx => bnd (rsv y) fun dy => lift (g dx dy)) e := rfl
theorem toB_b {b : Bool} : toB (.val (.bool b)) e = .ok b e := rfl
theorem eTest_e : eTest fa e = bnd fa toB e := rfl
theorem bAnd_e : bAnd ft ft2 e = bnd ft (fun k => if k = true then ft2 else ret false) e := rfl
theorem bOr_e : bOr ft ft2 e = bnd ft (fun k => if k = true then ret true else ft2) e := rfl
theorem bNot_e : bNot ft e = bnd ft (fun k => ret (!k)) e := rfl
theorem eTruth_e : eTruth fa e = bnd (opn fa) (fun o => bnd (rsv o) fun d => lift (truth d)) e := rfl
theorem vAnd_e : vAnd fa fb e = bnd (eTest fa) (fun k => if k = true then fb else ret (.val (.bool false))) e := rfl
theorem vOr_e : vOr fa fb e = bnd (eTest fa) (fun k => if k = true then ret (.val (.bool true)) else fb) e := rfl
theorem vNot_e : vNot fa e = bnd (eTest fa) (fun k => ret (.val (.bool (!k)))) e := rfl
theorem eIf_e : eIf ft fa fb e = bnd ft (fun k => if k = true then fa else fb) e := rfl
theorem eTup_e {fs : PM (List D)} : eTup fs e = bnd fs (fun ds => ret (.val (.tuple ds))) e := rfl
theorem eLst_e {fs : PM (List D)} : eLst fs e = bnd fs (fun ds => ret (.tmp ds)) e := rfl
theorem rsvs_n : rsvs [] e = .ok [] e := rfl
theorem rsvs_c {os : List Opd} : rsvs (o :: os) e = bnd (rsv o) (fun d => bnd (rsvs os) fun ds => ret (d :: ds)) e := rfl
theorem eBi_e {g : List D → Option Opd} {fs : PM (List Opd)} : eBi g fs e = bnd fs (fun os => bnd (rsvs os) fun ds => lift (g ds)) e := rfl
theorem toPart_i {z : Int} : toPart (.val (.int z)) e = .ok (some z) e := rfl
theorem eSl_e {g : D → Option Int → Option Int → Option Opd} {lo hi : PM (Option Int)} : eSl g fa lo hi e = bnd (opn fa) (fun o => bnd lo fun l => bnd hi fun h => bnd (rsv o) fun d => lift (g d l h)) e := rfl
theorem eUn_e {g : D → Option Opd} : eUn g fa e = bnd (opn fa) (fun o => bnd (rsv o) fun d => lift (g d)) e := rfl
theorem eIsi_e {T : String} : eIsi T fa e = bnd (opn fa) (fun o => bnd (rsv o) fun d => ret (.val (.bool (isiD T d)))) e := rfl
theorem eChain_e {g' : D → D → Option Opd} : eChain g g' fa fb fc e = (bnd (opn fa) fun x => bnd (opn fb) fun y => bnd (rsv x) fun dx => bnd (rsv y) fun dy => bnd (lift (g dx dy)) fun o => bnd (toB o) fun k =>
  if k = true then (bnd (opn fc) fun z => bnd (rsv y) fun dy2 => bnd (rsv z) fun dz => lift (g' dy2 dz)) else ret (.val (.bool false))) e := rfl
theorem sSeq_e {g1 g2 : PM Out} : sSeq g1 g2 e = bnd g1 (fun o => match o with | .next => g2 | o => ret o) e := rfl
theorem sRet_e : sRet fa e = bnd fa (fun o => ret (.ret o)) e := rfl
theorem sExpr_e : sExpr fa e = bnd fa (fun _ => ret .next) e := rfl
theorem sIf_e {g1 g2 : PM Out} : sIf ft g1 g2 e = bnd ft (fun k => if k = true then g1 else g2) e := rfl
theorem putS_e {s : SV} : putS i s e = .ok () (e.set i (some s)) := rfl
theorem asg_v : asg i (.val d) e = .ok () (e.set i (some (.im d))) := rfl
theorem asg_t : asg i (.tmp ds) e = .ok () (e.set i (some (.ls ds))) := rfl
theorem sSet_e : sSet i fa e = bnd fa (fun o => bnd (asg i o) fun _ => ret .next) e := rfl
theorem tgTup_e {n : Nat} {r : List D → PEnv → Option PEnv} : tgTup n r (.tuple ds) e = if ds.length = n then r ds e else none := rfl
theorem tgCons_e {s : D → PEnv → Option PEnv} {r : List D → PEnv → Option PEnv} : tgCons s r (d :: ds) e = (s d e).bind (r ds) := rfl
theorem tgNil_e : tgNil [] e = some e := rfl
theorem tgName_e : tgName i d e = some (e.set i (some (.im d))) := rfl
theorem sAsg_e {s : D → PEnv → Option PEnv} : sAsg s fa e = bnd (kept fa) (fun d env => match s d env with | some env' => .ok .next env' | none => .bad) e := rfl
theorem sFor_e {it : PM (List D)} {s : D → PEnv → Option PEnv} {body : PM Out} : sFor it s body e = bnd it (goFor s body) e := rfl
theorem eIter_e : eIter fa e = bnd (kept fa) (fun d => lift (itemsOf d)) e := rfl
theorem eEnum_e : eEnum fa e = bnd (eIter fa) (fun ds => ret (enumD ds)) e := rfl
theorem eRng1_e {fs : PM (List D)} : eRng1 fs e = bnd fs (fun ds => bnd (lift (int1 ds)) fun j => ret (rangeD 0 j.toNat)) e := rfl
theorem eRng2_e {fs : PM (List D)} : eRng2 fs e = bnd fs (fun ds => bnd (lift (int2 ds)) fun j => ret (rangeD j.1 (j.2 - j.1).toNat)) e := rfl
theorem eCallA_e {S : List D → FR} {fs : PM (List D)} : eCallA S fs e = bnd fs (fun ds => frOf (S ds)) e := rfl
theorem eCallK_e {is : List Nat} {S : List D → FR} {fs : PM (List D)} : eCallK is S fs e = bnd fs (fun ds => frOf (S (permV is ds))) e := rfl
theorem frOf_k : frOf (.ok o) e = .ok o e := rfl
theorem ite_ap {c : Prop} [Decidable c] {f g : PM α} : (if c then f else g) e = if c then f e else g e := by split <;> rfl
theorem mtc_out {o : Out} {g2 : PM Out} : (match o with | .next => g2 | o => ret o : PM Out) e = (match o with | .next => g2 e | o => .ok o e) := by cases o <;> rfl
end
end Pu
namespace Pu
open PySem PySem.Spec PyProof.Rows L2
def isIntD : D → Bool
  | .int _ => true
  | .bool _ => true
  | _ => false
def isBoolD : D → Bool
  | .bool _ => true
  | _ => false
def isTupD : D → Bool
  | .tuple _ => true
  | _ => false
def isStrD : D → Bool
  | .str _ => true
  | _ => false
theorem isi_int (d : D) : isiD "int" d = isIntD d := by cases d <;> (simp only [isiD, tyN, isIntD]; decide +kernel)
theorem isi_bool (d : D) : isiD "bool" d = isBoolD d := by cases d <;> (simp only [isiD, tyN, isBoolD]; decide +kernel)
theorem isi_tuple (d : D) : isiD "tuple" d = isTupD d := by cases d <;> (simp only [isiD, tyN, isTupD]; decide +kernel)
theorem isi_str (d : D) : isiD "str" d = isStrD d := by cases d <;> (simp only [isiD, tyN, isStrD]; decide +kernel)
end Pu
namespace Pu
open PySem PySem.Spec PyProof.Rows L2
theorem shaped_int (i : Int) : SeqAt.shaped (.int i) = true := rfl
theorem gEq_int {i j : Int} : gEq false (.int i) (.int j) = some (.val (.bool (i == j))) := by simp only [gEq, strPair, shaped_int, and_self, if_true, PyData.eqv, Bool.false_eq_true, if_false]
theorem gNe_int {i j : Int} : gEq true (.int i) (.int j) = some (.val (.bool (!(i == j)))) := by simp only [gEq, strPair, shaped_int, and_self, if_true, PyData.eqv]
theorem gLe_int {i j : Int} : gLe (.int i) (.int j) = some (.val (.bool (decide (i ≤ j)))) := rfl
theorem gLt_int {i j : Int} : gLt (.int i) (.int j) = some (.val (.bool (decide (i < j)))) := rfl
theorem gSub_int {i j : Int} : gSub (.int i) (.int j) = some (.val (.int (i - j))) := rfl
theorem gAdd_int {i j : Int} : gAdd (.int i) (.int j) = some (.val (.int (i + j))) := rfl
end Pu
namespace Pu
open PySem PySem.Spec PyProof.Rows L2
theorem sPar_e {i j : Nat} {fs : PM (List D)} {e : PEnv} : sPar i j fs e = bnd fs (fun ds => match ds with
  | [d, d'] => bnd (putS i (.im d)) fun _ => bnd (putS j (.im d')) fun _ => ret .next
  | _ => oops) e := rfl
theorem gEq_str {a b : Str} : gEq false (.str a) (.str b) = some (.val (.bool (decide (a = b)))) := by simp only [gEq, strPair, Bool.false_eq_true, if_false]
theorem gRepr_1 {d : D} (h : canShow d = true) : gRepr [d] = some (.val (.str d.shown)) := if_pos h
theorem sm_int {i : Int} (h : i.natAbs < 10 ^ 40) : Sm 0 0 (.int i) := by
  have h1 := int_text_length_le10 (a := i) (k := 98) (by decide) (Nat.lt_of_lt_of_le h (Nat.pow_le_pow_right (by decide) (by decide)))
  refine ⟨?_, ?_, ?_, ?_⟩
  · have h2 : i.natAbs.log2 < 1920 := by
      by_cases h0 : i.natAbs = 0
      · rw [h0]; decide
      · rw [Nat.log2_lt h0]
        exact Nat.lt_of_lt_of_le h (Nat.le_trans (by decide : 10 ^ 40 ≤ 2 ^ 200) (Nat.pow_le_pow_right (by decide) (by decide)))
    simp only [PyData.showable, h2, decide_true]
  · have h3 : (PyData.shown (.int i)).length ≤ 100 := by
      simp only [PyData.shown]
      have : (Str.ofString (toString i)).length = (toString i).length := PySem.ofString_length _
      omega
    simp only [PyData.leavesShort, h3, decide_true]
  · simp only [PyData.bulk]; omega
  · simp only [PyData.depth]; omega
theorem sm_none : Sm 0 0 .none := ⟨rfl, rfl, by decide, by decide⟩
theorem sm_bool {b : Bool} : Sm 0 0 (.bool b) := ⟨rfl, rfl, Nat.le_refl _, Nat.le_refl _⟩
end Pu
namespace Pu
open PySem PySem.Spec PyProof.Rows L2
theorem abAtE_e {i : Nat} {e : PEnv} : abAtE i e = (match e[i]? with | some (some (.ab t)) => .ok t e | _ => .bad) := rfl
theorem frB_k {i : Nat} {o : Opd} {t : Ab} {e : PEnv} : frB i (.ok o, t) e = .ok o (e.set i (some (.ab t))) := rfl
theorem eCallB_e {i : Nat} {F : Ab → List D → FR × Ab} {fs : PM (List D)} {e : PEnv} : eCallB i F fs e = bnd (abAtE i) (fun _ => bnd fs fun ds => bnd (abAtE i) fun t => frB i (F t ds)) e := rfl
theorem noExc_e {α : Type} {f : PM α} {e : PEnv} : noExc f e = (match f e with | .ok a e => .ok a e | _ => .bad) := rfl
theorem eDict1_e {z : Str} {f : PM Opd} {e : PEnv} : eDict1 z f e = bnd (noExc (kept f)) (fun d => ret (.val (.dict [(.str z, d)]))) e := rfl
theorem gNeg_int {i : Int} : gNeg (.int i) = some (.val (.int (-i))) := rfl
theorem gAdd_ll {xs ys : List D} (h : xs.length + ys.length ≤ bigLine) : gAdd (.list xs) (.list ys) = some (.tmp (xs ++ ys)) := if_pos h
theorem gAdd_tt {xs ys : List D} (h : xs.length + ys.length ≤ bigLine) : gAdd (.tuple xs) (.tuple ys) = some (.val (.tuple (xs ++ ys))) := if_pos h
theorem gPow_30 : gPow (.int 10) (.int 30) = some (.val (.int 1000000000000000000000000000000)) := rfl
theorem gIx_l {ds : List D} {i : Int} (h0 : 0 ≤ i) (h : i < ds.length) : ∃ d ∈ ds, gIx (.list ds) (.int i) = some (.val d) := by
  have hn : i.toNat < ds.length := by omega
  have e : ds[i.toNat]? = some ds[i.toNat] := List.getElem?_eq_getElem hn
  have e2 := atI_nat e
  rw [Int.toNat_of_nonneg h0] at e2
  refine ⟨ds[i.toNat], List.getElem_mem hn, ?_⟩
  simp only [gIx, e2, Option.map_some]
theorem gIx_t {ds : List D} {i : Int} (h0 : 0 ≤ i) (h : i < ds.length) : ∃ d ∈ ds, gIx (.tuple ds) (.int i) = some (.val d) := by
  have hn : i.toNat < ds.length := by omega
  have e : ds[i.toNat]? = some ds[i.toNat] := List.getElem?_eq_getElem hn
  have e2 := atI_nat e
  rw [Int.toNat_of_nonneg h0] at e2
  refine ⟨ds[i.toNat], List.getElem_mem hn, ?_⟩
  simp only [gIx, e2, Option.map_some]
end Pu
namespace Pu
open PySem PySem.Spec PyProof.Rows L2
theorem eLc_e {it : PM (List D)} {vs : List Nat} {s : D → PEnv → Option PEnv} {t : PM Bool} {f : PM Opd} {e : PEnv} : eLc it vs s t f e = bnd it (fun ds env => match goLc vs s t f ds [] (wipeE env vs) with
  | .ok acc env' => .ok (.tmp acc) (rst env env' vs)
  | _ => .bad) e := rfl
theorem gTuple_l {ds : List D} : gTuple [.list ds] = some (.val (.tuple ds)) := rfl
theorem gTuple_t {ds : List D} : gTuple [.tuple ds] = some (.val (.tuple ds)) := rfl
theorem gList_l {ds : List D} : gList [.list ds] = some (.tmp ds) := rfl
theorem gList_t {ds : List D} : gList [.tuple ds] = some (.tmp ds) := rfl
theorem int1_n {n : Nat} (h : n ≤ 1000) : int1 [.int (n : Nat)] = some (n : Int) := by
  have h2 : inLine (n : Int) = true := decide_eq_true (by omega)
  simp only [int1, h2, if_true]
end Pu
namespace Pu
open PySem PySem.Spec PyProof.Rows L2
theorem sPutAt_e {i : Nat} {fe fi : PM Opd} {e : PEnv} : sPutAt i fe fi e = bnd (kept fe) (fun d => bnd (lsAt i) fun _ => bnd (opn fi) fun o => bnd (rsv o) fun k => bnd (lsAt i) fun ds => match k with
  | .int z => match ixN ds.length z with
    | some j => bnd (putS i (.ls (ds.set j d))) fun _ => ret .next
    | none => oops
  | _ => oops) e := rfl
theorem lsAt_e {i : Nat} {e : PEnv} : lsAt i e = (match e[i]? with | some (some (.ls ds)) => .ok ds e | _ => .bad) := rfl
theorem ixN_ok {n : Nat} {z : Int} (h0 : 0 ≤ z) (h : z < n) : ixN n z = some z.toNat := by
  unfold ixN
  rw [if_pos h0, if_pos h]
theorem mem_cutD {ds : List D} {lo hi : Option Int} {d : D} (h : d ∈ cutD ds lo hi) : d ∈ ds := List.mem_of_mem_drop (List.mem_of_mem_take h)
theorem cutD_len {ds : List D} {lo hi : Option Int} : (cutD ds lo hi).length ≤ ds.length := by
  unfold cutD
  rw [List.length_take, List.length_drop]
  omega
theorem gSl_t {ds : List D} {lo hi : Option Int} : gSl (.tuple ds) lo hi = some (.val (.tuple (cutD ds lo hi))) := rfl
theorem bulkAll_len (ds : List D) : ds.length ≤ PyData.bulkAll ds := by
  induction ds with
  | nil => simp only [PyData.bulkAll, List.length_nil]; omega
  | cons d ds ih => simp only [PyData.bulkAll, List.length_cons]; omega
theorem sm_lines {n k : Nat} {d : D} (h : Sm n k d) : ∀ ts ls, d = .tuple [.tuple ts, .tuple ls] → ls.length ≤ n := by
  rintro ts ls rfl
  have h1 := h.bk
  have h2 := bulkAll_len ls
  simp only [PyData.bulk, PyData.bulkAll] at h1
  omega
end Pu

namespace Pu
open PySem PySem.Spec PyProof.Rows L2 PySem.W PySem.Calls
/-! ### sorted of lists and tuples of alike data -/
def sortOk (ds : List D) : Bool := ds.all (fun d => ds.all (fun d' => PySem.W.alike d d')) && (ds.all (fun d => match d with | .tuple (_ :: _) => true | _ => false) || ds.all (fun d => match d with | .none => false | .tuple _ => false | _ => true)) && ds.all (fun d => decide (d.depth ≤ 50)) && decide (ds.length ≤ bigLine)
theorem sortOk_alike {ds : List D} (h : sortOk ds = true) : AllAlike (ds.map fun d => d) := by
  simp only [sortOk, Bool.and_eq_true, List.all_eq_true] at h
  intro d hd d' hd'
  rw [List.map_id'] at hd hd'
  exact h.1.1.1 d hd d' hd'
theorem sortOk_sortable {ds : List D} (h : sortOk ds = true) : Sortable (ds.map fun d => d) := by
  simp only [sortOk, Bool.and_eq_true, Bool.or_eq_true, List.all_eq_true] at h
  rw [List.map_id']
  rcases h.1.1.2 with z | z
  · refine .inl fun d hd => ?_
    have y := z d hd
    split at y
    · exact ⟨_, _, rfl⟩
    · cases y
  · refine .inr fun d hd => ?_
    have y := z d hd
    constructor
    · rintro rfl; cases y
    · rintro xs rfl; cases y
theorem sortOk_depth {ds : List D} (h : sortOk ds = true) : ∀ d, d ∈ ds → d.depth ≤ 50 := by
  simp only [sortOk, Bool.and_eq_true, List.all_eq_true, decide_eq_true_eq] at h
  exact h.1.2
theorem sortOk_len {ds : List D} (h : sortOk ds = true) : ds.length ≤ bigLine := by
  simp only [sortOk, Bool.and_eq_true, List.all_eq_true, decide_eq_true_eq] at h
  exact h.2
/-- the items in order -/
def sortD (ds : List D) : List D := ds.mergeSort (dataLe false fun d => d)
def gSorted : List D → Option Opd
  | [.list ds] => if sortOk ds = true then some (.tmp (sortD ds)) else none
  | [.tuple ds] => if sortOk ds = true then some (.tmp (sortD ds)) else none
  | _ => none
section
variable {prog : Program} {w : World} {A : Around} {E : Value → Shared → Prop} {s : Shared}
theorem collect_tup {l : Addr} {vs : List Value} {Q : List Value → Shared → Prop} (hl : IsTup s.heap l vs.toArray)
    (h : Q vs { s with heap := (s.heap.push (seqObj "list" #[] 0)).update s.heap.objs.size (Obj.mapSeq (· ++ vs.toArray)) }) (hsz : vs.length ≤ sizeLine) :
    wpAny (model prog w) A (collect (.ref l)) Q E s := by
  obtain ⟨o, ho, hc, n, hd⟩ := id hl
  unfold collect
  refine wpAny_bind (wpAny_runValue (codeAny_builtin entry_proto_collect' ?_))
  show wpAny _ _ (do again (.builtin "list.__iadd__" ⟨[← newList [], .ref l], []⟩)) _ _ s
  refine wpAny_bind (wpAny_newList (wpAny_pure ⟨Code.quiet_builtin _ (by decide +kernel), codeAny_builtin entry_list_iadd' ?_⟩))
  show wpAny _ _ (Builtin.List.listExtendWith (.ref s.heap.objs.size) (.ref l) (.ref s.heap.objs.size)) _ _ { s with heap := s.heap.push (seqObj "list" #[] 0) }
  unfold Builtin.List.listExtendWith
  have ho' : (s.heap.push (seqObj "list" #[] 0)).get? l = some o := Heap.get?_push_of_some _ ho
  refine wpAny_bind (wpAny_typeOf (T := "tuple") ⟨o, ho', hc⟩ ?_)
  have ht : (Value.type "tuple" == Value.type "tuple") = true := by rfl
  rw [if_pos (by rw [ht]; simp)]
  refine wpAny_bind (listItems_at ho' hd ?_)
  refine wpAny_bind (listItems_at (xs := #[]) (n := 0) (Heap.get?_push_size _ rfl) rfl ?_)
  rw [if_neg (by simp)]
  refine wpAny_bind (listUpdate_at (xs := #[]) (n := 0) (Heap.get?_push_size _ rfl) rfl ?_ (Nat.zero_le _) (by show (#[] ++ vs.toArray).size ≤ sizeLine + 1; simp only [Array.size_append, List.size_toArray, List.length_nil]; omega))
  refine wpAny_pure ?_
  show wpAny (model prog w) A (do
      let o ← load s.heap.objs.size
      match o.data with
      | .seq xs _ => pure xs.toList
      | _ => unsupported "internal:collect") Q E { s with heap := (s.heap.push (seqObj "list" #[] 0)).update s.heap.objs.size (Obj.mapSeq (· ++ vs.toArray)) }
  refine wpAny_bind (wpAny_load (get?_update_seq (Heap.get?_push_size _ rfl) _) ?_)
  show wpAny _ _ (pure ((#[] : Array Value) ++ vs.toArray).toList) Q E _
  rw [show ((#[] : Array Value) ++ vs.toArray).toList = vs by simp]
  exact wpAny_pure h
theorem sorted_of_sort_tup {l : Addr} {vs : List Value} {kw : List (Str × Value)} {Q : Value → Shared → Prop} (hl : IsTup s.heap l vs.toArray) (hL : vs.length ≤ sizeLine) (ha1 : argsOk "sorted" ⟨[.ref l], kw⟩) (ha2 : ∀ x, argsOk "list.sort" ⟨[.ref x], kw⟩)
    (body : ∀ E' : Value → Shared → Prop, wpAny (model prog w) A.in1.in1 (Builtin.«list.sort» ⟨[.ref (s.heap.objs.size + 1)], kw⟩) (fun f s' => f = .done (.ret .none) ∧ Q (.ref (s.heap.objs.size + 1)) s') E' { s with heap := copyHeap s.heap vs }) :
    wpAny (model prog w) A (call (.builtin "sorted") [.ref l] kw) Q E s := by
  refine call_function_entry_kw kind_sorted plain_sorted entry_sorted ha1 ?_
  unfold Builtin.«sorted»
  refine wpAny_bind (m := checkCount "sorted" 1 1 _) (wpAny_pure ?_)
  refine wpAny_bind (collect_tup hl ?_ hL)
  refine wpAny_bind (wpAny_newList ?_ hL)
  have hsz : ((s.heap.push (seqObj "list" #[] 0)).update s.heap.objs.size (Obj.mapSeq (· ++ vs.toArray))).objs.size = s.heap.objs.size + 1 := by
    rw [Heap.size_update, size_push']
  show wpAny _ _ _ _ _ { s with heap := copyHeap s.heap vs }
  rw [hsz]
  refine wpAny_bind (wpAny_holding (wpAny_call_entry_kw slot_list_sort ⟨_, copyHeap_at s.heap vs, rfl⟩ entry_list_sort ?body (ha2 _)))
  case body =>
    show wpAny (model prog w) A.in1.in1 (Builtin.«list.sort» ⟨[.ref (s.heap.objs.size + 1)], kw⟩) _ _ _
    refine wpAny_mono (body _) (fun f s' hf => ?_) fun _ _ e => e
    obtain ⟨rfl, hq⟩ := hf
    exact ⟨_, rfl, wpAny_pure ⟨_, rfl, hq⟩⟩
theorem sorted_data_tup {β : Type} {vs : List Value} {bs : List β} {enc : β → PyData} {R : Value → β → Prop} {l : Addr} {Q : Value → Shared → Prop} (hl : IsTup s.heap l vs.toArray) (e : EachIs R vs bs) (er : EachIs (fun v b => ∃ as, Reads s.heap v (enc b) as) vs bs) (hal : AllAlike (bs.map enc)) (hk : Sortable (bs.map enc)) (hL : bs.length ≤ sizeLine)
    (hu : ∀ b, b ∈ bs → A.units + 2 + (enc b).depth < cLine) (h : ∀ out, out.length = bs.length → EachIs R out (bs.mergeSort (dataLe false enc)) → Q (.ref (s.heap.objs.size + 1)) { s with heap := sortedAll s.heap vs (List.toArray out) }) :
    wpAny (model prog w) A (call (.builtin "sorted") [.ref l]) Q E s := by
  have er' : EachIs (fun v b => ∃ as, Reads (sortingHeap (copyHeap s.heap vs) (s.heap.objs.size + 1) vs) v (enc b) as) vs bs := er.mono fun _ _ ⟨as, r⟩ => ⟨as, PyProof.Rows.Reads.keeps (fun _ _ => sorting_copy_old) r⟩
  have hL' : vs.length ≤ sizeLine := by rw [e.length]; exact hL
  have S := SortsAt.data (prog := prog) (w := w) (A := A.in1.in1) (s := { s with heap := sortingHeap (copyHeap s.heap vs) (s.heap.objs.size + 1) vs }) (each_map (R := fun v d => ∃ as, Reads (sortingHeap (copyHeap s.heap vs) (s.heap.objs.size + 1) vs) v d as) enc er') hal hk (bound_map hu)
  exact sorted_of_sort_tup hl hL' (args_sorted1 _) (fun _ => args_list_sort _) fun _ => list_sort_vals (s := { s with heap := copyHeap s.heap vs }) (copyHeap_at s.heap vs) S hL'
    ⟨rfl, h _ (by rw [sortVals_length false rfl]; exact e.length) (sortVals_data false e er' hal)⟩
end
theorem each_vals {K : Frag} {F : Hp} : ∀ {out : List Value} {ds : List D}, EachIs (fun v b => ∃ x, RelV x v ∧ Den K F b x) out ds → ∃ ys, Vals ys out ∧ Dens K F ds ys
  | _, _, .nil => ⟨[], .nil, by simp [Dens]⟩
  | _, _, .cons ⟨x, h1, h2⟩ t => by
    obtain ⟨ys, k1, k2⟩ := each_vals t
    refine ⟨x :: ys, .cons h1 k1, ?_⟩
    simp only [Dens]
    exact ⟨x, ys, rfl, h2, k2⟩
theorem vals_each {K : Frag} {F : Hp} : ∀ {xs : List V} {its : List Value} {ds : List D}, Vals xs its → Dens K F ds xs → EachIs (fun v b => ∃ x, RelV x v ∧ Den K F b x) its ds
  | _, _, [], r, h => by simp only [Dens] at h; subst h; cases r; exact .nil
  | _, _, d :: ds, r, h => by
    simp only [Dens] at h
    obtain ⟨v, vr, rfl, h1, h2⟩ := h
    cases r with
    | cons r1 r2 => exact .cons ⟨v, r1, h1⟩ (vals_each r2 h2)
section
variable {X : Cx}
theorem reads_each {pins : List (Addr × Obj)} {σ : L2.St} {H F : Hp} {s : Shared} (I : Inv X pins σ H s) (e : Ex F H) (sy : SyF F) : ∀ {xs : List V} {its : List Value} {ds : List D}, Vals xs its → Dens X.K F ds xs → EachIs (fun v b => ∃ as, Reads s.heap v b as) its ds
  | _, _, [], r, h => by simp only [Dens] at h; subst h; cases r; exact .nil
  | _, _, d :: ds, r, h => by
    simp only [Dens] at h
    obtain ⟨v, vr, rfl, h1, h2⟩ := h
    cases r with
    | cons r1 r2 =>
      obtain ⟨as, q, _⟩ := den_reads I e sy d v _ h1 r1
      exact .cons ⟨as, q⟩ (reads_each I e sy r2 h2)
def rSortedD (X : Cx) : List V → Hp → VK → Prop := fun xs H Q => ∃ F ds a ys, xs = [.ref a] ∧ Ex F H ∧ SyF F ∧ (SqL X.K H a ys ∨ SqT X.K H a ys) ∧ Dens X.K F ds ys ∧ sortOk ds = true ∧ ∀ p zs, H p = none → Dens X.K F (sortD ds) zs → Q (.ref p) (upd H p (.lst zs))
theorem call_sortedDD (hu : X.A.units + 64 < cLine) : CallR X (.builtin "sorted") (rSortedD X) := by
  intro pins s σ H xs us Q I r h
  obtain ⟨F, ds, a, ys, rfl, e, sy, hs, hd, ok, q⟩ := h
  rw [Vals.ref1 r]
  have hlen : ds.length ≤ sizeLine := big_le (sortOk_len ok)
  have hdep : ∀ b, b ∈ ds → X.A.units + 2 + b.depth < cLine := fun b hb => by
    have := sortOk_depth ok b hb
    omega
  have fin : ∀ (its out : List Value), out.length = ds.length → EachIs (fun v b => ∃ x, RelV x v ∧ Den X.K F b x) out (ds.mergeSort (dataLe false fun d => d)) → EP X pins σ Q (.ref (s.heap.objs.size + 1)) { s with heap := sortedAll s.heap its (List.toArray out) } := by
    intro its out ho eo
    obtain ⟨zs, k1, k2⟩ := each_vals eo
    obtain ⟨ep, he'⟩ := PyProof.Rows.sortedAll_at s.heap its out.toArray
    have hl : zs.length ≤ sizeLine := by rw [k1.length, ho]; exact hlen
    exact ⟨.ref _, upd H (s.heap.objs.size + 1) (.lst zs), I.laid (t' := s.toks) (fun _ _ => PyProof.Rows.sortedAll_old) (Nat.le_succ _) ⟨hl, out, ep, k1, he'⟩, rfl, q _ _ (I.hok.fresh (Nat.le_succ _)) k2⟩
  rcases hs with hs | hs
  · obtain ⟨its, rv, hl, hz⟩ := I.list hs
    exact sorted_data (enc := fun d => d) (R := fun v b => ∃ x, RelV x v ∧ Den X.K F b x) hl.isList (vals_each rv hd) (reads_each I e sy rv hd) (sortOk_alike ok) (sortOk_sortable ok) hlen hdep (fin its)
  · obtain ⟨its, rv, hl, hz⟩ := I.tuple hs
    exact sorted_data_tup (enc := fun d => d) (R := fun v b => ∃ x, RelV x v ∧ Den X.K F b x) hl (vals_each rv hd) (reads_each I e sy rv hd) (sortOk_alike ok) (sortOk_sortable ok) hlen hdep (fin its)
theorem bi_sorted (hu : X.A.units + 64 < cLine) : Bi X (.builtin "sorted") gSorted := by
  refine ⟨_, call_sortedDD hu, fun F H xs ds o Q e sy hx hg q => ?_⟩
  unfold gSorted at hg
  split at hg
  · split at hg
    · rename_i l hc
      cases hg
      obtain ⟨v, rfl, h1⟩ := bdens1 hx
      obtain ⟨a, ys, rfl, k1, k2⟩ := bd_list h1
      exact ⟨F, l, a, ys, rfl, e, sy, .inl (.inl (.inl k1)), k2, hc, fun p zs hp hz => q _ _ (.lst hp hz)⟩
    · cases hg
  · split at hg
    · rename_i l hc
      cases hg
      obtain ⟨v, rfl, h1⟩ := bdens1 hx
      obtain ⟨a, ys, rfl, k1, k2⟩ := bd_tup h1
      exact ⟨F, l, a, ys, rfl, e, sy, .inr (ex_t e k1), k2, hc, fun p zs hp hz => q _ _ (.lst hp hz)⟩
    · cases hg
  · cases hg
end
end Pu

namespace Pu
open PySem PySem.Spec PyProof.Rows L2
/-! ### x in xs, x not in xs: lists and tuples of data without dicts -/
def inOk (x : D) (ds : List D) : Bool := x.canLay0 && PyData.canLayAll0 ds && decide (x.depth ≤ 50)
def anyD (x : D) (ds : List D) : Bool := ds.any fun z => PyData.eqv z x
def gIn (neg : Bool) (x : D) : D → Option Opd
  | .list ds => if inOk x ds = true then some (.val (.bool (if neg = true then !anyD x ds else anyD x ds))) else none
  | .tuple ds => if inOk x ds = true then some (.val (.bool (if neg = true then !anyD x ds else anyD x ds))) else none
  | _ => none
section
variable {X : Cx}
theorem den_bl' {K : PySem.W.Frag} {F : Hp} {b : Bool} : Den K F (.bool b) (.bl b) := by simp only [Den]
def rInQ (K : PySem.W.Frag) (neg : Bool) : R2 := fun x y H Q => ∃ d ds, Dp K H x d ∧ (Dp K H y (.list ds) ∨ Dp K H y (.tuple ds)) ∧ inOk d ds = true ∧ Q (.bl (if neg = true then !anyD d ds else anyD d ds)) H
theorem op_inQ (hu : X.A.units + 64 < cLine) : OpR X (compareOp .In) (rInQ X.K false) := by
  intro pins s σ H x y v u Q I rx ry h
  obtain ⟨d, ds, hd, he, ok, q⟩ := h
  simp only [inOk, Bool.and_eq_true, decide_eq_true_eq] at ok
  obtain ⟨as, r1⟩ := Dp.reads I d x v hd rx
  have room : X.A.units + 1 + min (PyData.depthAll ds) d.depth < cLine := by
    have := Nat.min_le_right (PyData.depthAll ds) d.depth
    omega
  rcases he with he | he
  · obtain ⟨bs, r2⟩ := Dp.reads I (.list ds) y u he ry
    exact SeqAt.in_list_reads r2 r1 ok.1.2 ok.1.1 room ⟨.bl _, H, I, rfl, q⟩
  · obtain ⟨bs, r2⟩ := Dp.reads I (.tuple ds) y u he ry
    exact SeqAt.in_tuple_reads r2 r1 ok.1.2 ok.1.1 room ⟨.bl _, H, I, rfl, q⟩
theorem op_notInQ (hu : X.A.units + 64 < cLine) : OpR X (compareOp .NotIn) (rInQ X.K true) := by
  intro pins s σ H x y v u Q I rx ry h
  obtain ⟨d, ds, hd, he, ok, q⟩ := h
  simp only [inOk, Bool.and_eq_true, decide_eq_true_eq] at ok
  obtain ⟨as, r1⟩ := Dp.reads I d x v hd rx
  have room : X.A.units + 1 + min (PyData.depthAll ds) d.depth < cLine := by
    have := Nat.min_le_right (PyData.depthAll ds) d.depth
    omega
  rcases he with he | he
  · obtain ⟨bs, r2⟩ := Dp.reads I (.list ds) y u he ry
    exact SeqAt.notIn_list_reads r2 r1 ok.1.2 ok.1.1 room ⟨.bl _, H, I, rfl, q⟩
  · obtain ⟨bs, r2⟩ := Dp.reads I (.tuple ds) y u he ry
    exact SeqAt.notIn_tuple_reads r2 r1 ok.1.2 ok.1.1 room ⟨.bl _, H, I, rfl, q⟩
theorem in_dps {K : PySem.W.Frag} {F H : Hp} {dx dy : D} {x y : V} {neg : Bool} {o : Opd} {Q : VK} (e : Ex F H) (hx : BDen K F H dx x) (hy : BDen K F H dy y) (hg : gIn neg dx dy = some o) (q : ∀ v H', Got K F H o v H' → Q v H') : rInQ K neg x y H Q := by
  have lay : ∀ {ds}, inOk dx ds = true → dx.canLay0 = true ∧ PyData.canLayAll0 ds = true := fun h => by
    simp only [inOk, Bool.and_eq_true] at h
    exact h.1
  cases dy with
  | list ds =>
    simp only [gIn] at hg
    split at hg
    · rename_i ok
      cases hg
      exact ⟨dx, ds, bden_dp e (lay ok).1 hx, .inl (bden_dp e (by simpa [PyData.canLay0] using (lay ok).2) hy), ok, q _ _ (.same den_bl')⟩
    · cases hg
  | tuple ds =>
    simp only [gIn] at hg
    split at hg
    · rename_i ok
      cases hg
      exact ⟨dx, ds, bden_dp e (lay ok).1 hx, .inr (bden_dp e (by simpa [PyData.canLay0] using (lay ok).2) hy), ok, q _ _ (.same den_bl')⟩
    · cases hg
  | _ => cases hg
theorem o2_in (hu : X.A.units + 64 < cLine) : Op2 X (compareOp .In) (gIn false) :=
  ⟨_, op_inQ hu, fun F H x y dx dy o Q e hx hy hg q => in_dps e hx hy hg q⟩
theorem o2_notIn (hu : X.A.units + 64 < cLine) : Op2 X (compareOp .NotIn) (gIn true) :=
  ⟨_, op_notInQ hu, fun F H x y dx dy o Q e hx hy hg q => in_dps e hx hy hg q⟩
end
end Pu

namespace Pu
open PySem PySem.Spec PyProof.Rows L2
/-! ### own exceptions, told by the names of their classes -/
abbrev Wc (cv : Value → Value) (W : WX) : WX := fun c d σ H => W (cv c) d σ H
def cvOf (l : List (String × Addr)) : Value → Value
  | .type s => match l.lookup s with
    | some a => .ref a
    | none => .type s
  | v => v
def exn0 (c : String) : Exn := ⟨.type c, none⟩
def sRaise0 (c : String) : PM Out := fun env => .exc (exn0 c) env
def mtch (l : List (String × Bool)) : Value → Option Bool
  | .type s => l.lookup s
  | _ => none
/-- try: g except (what m takes): h -/
def sTry (m : Value → Option Bool) (g h : PM Out) : PM Out := fun env => match g env with
  | .ok o e => .ok o e
  | .exc x e => match m x.cls with
    | some true => noExc h e
    | some false => .exc x e
    | none => .bad
  | .bad => .bad
def MtOk (K : PySem.W.Frag) (cv : Value → Value) (m : Value → Option Bool) (C : Value) : Prop := ∀ v b, m v = some b → PySem.W.exmOne K (cv v) C = some b
theorem mtch_ok {K : PySem.W.Frag} {cv : Value → Value} {C : Value} {l : List (String × Bool)} (h : ∀ p ∈ l, PySem.W.exmOne K (cv (.type p.1)) C = some p.2) : MtOk K cv (mtch l) C := by
  intro v b e
  unfold mtch at e
  split at e
  · rename_i s
    induction l with
    | nil => cases e
    | cons p l ih =>
      obtain ⟨k, c⟩ := p
      rw [List.lookup_cons] at e
      split at e
      · rename_i hk
        cases e
        have hk' : s = k := by simpa using hk
        subst hk'
        exact h _ List.mem_cons_self
      · exact ih (fun p hp => h p (List.mem_cons_of_mem _ hp)) e
  · cases e
section
variable {X : Cx} {C : Addr} {bmB : List Value} {B newId initId : String}
/-- X() -/
theorem pmk_own0 {x : Str} {p pos : Pos} (F : ExcBaseFacts B newId initId bmB) (q : PySem.W.excIn X.K C bmB newId = true) (gC : X.mg x = some (.ref C)) (kC : PySem.W.keepIn X.K (.ref C) = true) (r : Raises X (.ref C)) (hg : Gl X x)
    (hdb : (x == ("__debug__" : Str)) = false := by decide) : PMk X (.Call (.Name x p) [] [] pos) (fun _ H Q => Q (.ref C) none H) := by
  intro pins s σ H Q I h
  refine wpAny_Call_Name_kw (ld_glob I hg gC ?_ hdb)
  refine PySem.W.callWith_K0 I.kIn kC ?_
  show wpAny _ _ (call (.ref C) []) _ _ _
  obtain ⟨bm, N, nm, qn, bs, hdct, sn, sub, ab, col, dd, k0, k1, k2, k3, k5, mN, hC, hN, hni, T⟩ := exc_obj I.kIn q
  refine wpAny_call_exc_subT F T hC hN hni (fun h' e hm => ?_) (by show 0 ≤ sizeLine; rw [sizeLine_eq]; omega)
  exact mk_of I hm r h (I.hok.gone hm.new)
variable {bo : Bool} {W : WX} {cv : Value → Value}
theorem psx_raise0 {c : String} {x : Str} {p pos pos' : Pos} (tk : Takes X W) (hc : X.calm = true) (q : PySem.W.excIn X.K C HandSPX.veTail "ValueError.__new__" = true) (gC : X.mg x = some (.ref C)) (kC : PySem.W.keepIn X.K (.ref C) = true)
    (h1 : PySem.W.subIn X.K (.ref C) (.type "BaseException") = some true) (h2 : PySem.W.typeIn X.K (.ref C) = some (.type "type")) (hcv : cv (.type c) = .ref C) (hg : Gl X x := by rfl) (hdb : (x == ("__debug__" : Str)) = false := by decide) :
    PSX X bo (Wc cv W) (.Raise (some (.Call (.Name x p) [] [] pos)) none pos') (sRaise0 c) := by
  refine ⟨_, ps_raise hc tk (pmk_own0 PySem.F.excBase_ValueError q gC kC (raises_own h1 h2) hg hdb), fun cc fp F env σ H D hcc R g => ?_⟩
  have g' : Wc cv W (Value.type c) none σ H := g fp F σ H none R (Ex.refl F) rfl
  unfold Wc at g'
  rw [hcv] at g'
  exact g'
end
section
variable {X : Cx} {bo : Bool} {W : WX} {cv : Value → Value} {c : Value} {x : Str} {body suite : List Stmt} {b₀ : Stmt} {np pos pos' : Pos} {m : Value → Option Bool} {g h : PM Out}
theorem psx_try (tk : Takes X W) (hc : Names X x c) (hm : MtOk X.K cv m c)
    (hb : ∀ (W' : WX) (pn : List (Addr × Obj)) (xe : Value → Shared → Prop), Takes (X.tr pn xe) W' → PassesOwn (model X.prog X.w) X.A X.env xe → PSsX (X.tr pn xe) bo (Wc cv W') body g)
    (hsu : ∀ (a : Addr) (pn : List (Addr × Obj)), PSsX (X.suite a pn) bo W0 (b₀ :: suite) h)
    (hs : X.stack = X.env :: X.outer := by rfl) (hf : X.env.frame = some X.env.locals := by rfl) :
    PSX X bo (Wc cv W) (.Try body [.ExceptHandler (some (.Name x np)) none (b₀ :: suite) pos'] [] [] pos) (sTry m g h) := by
  refine ⟨_, ps_try_only (tb := fun W' => semS X.K bo (Wc cv W') g) (ts := fun a cls d => semS X.K bo W0 h) hs hf hc tk (fun W' pn xe tk' po => pssx_sem (hb W' pn xe tk' po)) (fun a oe cls d pn _ _ => pssx_sem (hsu a ((a, oe) :: pn))), fun cc fp F env σ H D hcc R gg => ?_⟩
  refine ⟨cc, fp, F, env, hcc, R, ?_⟩
  unfold sTry at gg
  cases eg : g env with
  | bad => rw [eg] at gg; exact gg.elim
  | ok o e => rw [eg] at gg; exact gg
  | exc z e =>
    rw [eg] at gg
    simp only at gg
    intro fp' F' σ' H' d R' e' hx
    show wOnly X.K c _ W D (cv z.cls) d σ' H'
    cases em : m z.cls with
    | none => rw [em] at gg; exact gg.elim
    | some b =>
      refine ⟨b, hm _ _ em, fun hb1 a ha => ?_, fun hb0 => ?_⟩
      · subst hb1
        rw [em] at gg
        refine ⟨cc, fp', F', e, hcc, R', ?_⟩
        simp only [noExc] at gg
        cases eh : h e with
        | ok o2 e2 =>
          rw [eh] at gg
          exact GoesS.mono gg e'
        | exc z2 e2 => rw [eh] at gg; exact gg.elim
        | bad => rw [eh] at gg; exact gg.elim
      · subst hb0
        rw [em] at gg
        exact gg fp' F' σ' H' d R' e' hx
end
/-! ### defs that may raise; defs that let nothing out -/
def SpX (cv : Value → Value) (K : PySem.W.Frag) (n : Nat) (S : List D → FR) : Sp := fun vs H Q E => SpA K n S vs H Q fun c d H' => E (cv c) d H'
def noX : FR → FR
  | .exc _ => .bad
  | r => r
section
variable {P : Program} {w : World} {K : PySem.W.Frag} {mg : Str → Option Value} {base : Heap} {CX : CXT} {k : Nat} {f : Addr} {fd : FuncData} {ps N : List Str} {x qual : Str} {st : Stmt} {cv : Value → Value}
abbrev CtxX (P : Program) (w : World) (K : PySem.W.Frag) (mg : Str → Option Value) (base : Heap) (N : List Str) (qual : Str) (st : Stmt) (f : Addr) (cdv : Value) (A : Around) (outer : List Env) (s : Shared) (H : Hp) (E : XK) : Cx :=
  cxOf (L2.CX P w) P w K mg base N qual (defScope st) f cdv A outer s H E
theorem fnX_of {n m : Nat} {g : PM Out} (F : Fun K x qual st f fd) (S : FnScope N ps (defScope st)) (hn : ps.length = n) (hm : N.length = m)
    (hder : ∀ (cdv : Value) (A : Around) (outer : List Env) (s : Shared) (H : Hp) (E : XK), Room k (A.deeper (envOfC qual (defScope st) s.heap.objs.size f cdv)) → A.guards = some [] → PSsX (CtxX P w K mg base N qual st f cdv A outer s H E) false (Wc cv (WD E)) (defBody st) g) :
    FnG P w K mg base (L2.CX P w) (k + 1) f fd ps (SpX cv K n (runA m g)) := by
  subst hn hm
  refine fng_of F S ?_ ?_
  · rintro vs H Q E ⟨F, ds, _, _, h, _⟩
    exact h
  · rintro cdv A outer s H vs Q E hr hgu ⟨F0, ds, e, sy, hl, hd, h⟩
    obtain ⟨t, h1, h2⟩ := hder cdv A outer s H E hr hgu
    refine ⟨t, h1, ?_⟩
    have hN : vs.length ≤ N.length := by
      rw [hl]
      have := congrArg List.length S.pre
      rw [List.length_take] at this
      omega
    exact h2 (ctA F0 H) _ F0 _ _ H _ (fun z => absurd rfl z) (rel_startA e sy hd hN) (spA_body (E := fun c d H' => E (cv c) d H') e hd hN h)
/-- a def of data with a try, that lets nothing out -/
theorem fnT_of {n m : Nat} {g : PM Out} (F : Fun K x qual st f fd) (S : FnScope N ps (defScope st)) (hn : ps.length = n) (hm : N.length = m)
    (hder : ∀ (cdv : Value) (A : Around) (outer : List Env) (s : Shared) (H : Hp) (E : XK), Room k (A.deeper (envOfC qual (defScope st) s.heap.objs.size f cdv)) → A.guards = some [] → PSsX (Ctx0 P w K mg base N qual st f cdv A outer s H E) false (Wc cv W0) (defBody st) g) :
    FnG P w K mg base CX0 (k + 1) f fd ps (SpA K n fun ds => noX (runA m g ds)) := by
  subst hn hm
  refine fng_of F S ?_ ?_
  · rintro vs H Q E ⟨F, ds, _, _, h, _⟩
    exact h
  · rintro cdv A outer s H vs Q E hr hgu ⟨F0, ds, e, sy, hl, hd, h⟩
    obtain ⟨t, h1, h2⟩ := hder cdv A outer s H E hr hgu
    refine ⟨t, h1.nox, ?_⟩
    have hN : vs.length ≤ N.length := by
      rw [hl]
      have := congrArg List.length S.pre
      rw [List.length_take] at this
      omega
    refine h2 (ctA F0 H) _ F0 _ _ H _ (fun z => absurd rfl z) (rel_startA e sy hd hN) ?_
    have h' : match runA N.length g ds with
      | .ok r => ∀ F' H' v, Grown F0 H F' H' → Ex H H' → RetOk K F' H H' r v → Q v H'
      | .exc x => ∀ F' H' d, Grown F0 H F' H' → Ex H H' → ExnOk K F' H' x d → (fun (c : Value) (d : Option Addr) (H' : Hp) => False) x.cls d H'
      | .bad => False := by
      have h2 := h
      simp only at h2
      cases e1 : runA N.length g ds with
      | ok r => rw [e1] at h2; exact h2
      | exc x => rw [e1] at h2; exact (show False from h2).elim
      | bad => rw [e1] at h2; exact h2
    exact spA_body (E := fun _ _ _ => False) e hd hN h'
end
section
variable {X : Cx} {bo : Bool} {W : WX} {cv : Value → Value} {e : Expr} {es : List Expr} {pos p : Pos} {x : Str} {CX : CXT} {k n : Nat} {f : Addr} {fd : FuncData} {ps : List Str}
theorem px_callX {S : List D → FR} {fs : PM (List D)} (F : FnG X.prog X.w X.K X.mg X.base CX k f fd ps (SpX cv X.K n S)) (hr : Room k X.A) (hgu : X.A.guards = some []) (hm : X.mg x = some (.ref f)) (hk : PySem.W.keepIn X.K (.ref f) = true) (hb : Binds X.K fd ps []) (hx : ∀ σ, PassesAt CX X σ (WE W σ))
    (ha : PAF X bo (Wc cv W) (e :: es) fs) (hg : Gl X x := by rfl) (hn : (e :: es).length = n := by rfl) (hdb : (x == ("__debug__" : Str)) = false := by decide) (he : starEach (e :: es) X.env = (false, eval e X.env) :: starEach es X.env := by rfl) (hpl : (backTo pos (starEach es X.env)).any (·.1) = false := by rfl) :
    PX X bo (Wc cv W) (.Call (.Name x p) (e :: es) [] pos) (eCallA S fs) := by
  obtain ⟨t, h1, h2⟩ := ha
  refine ⟨_, pe_g F hr hgu hg hm hk hb hx h1 hdb he hpl, fun c fp F0 env σ H Q hc R g => ?_⟩
  exact h2 c fp F0 env σ H _ hc R ((Goes.bnd g).mono (Ex.refl F0) fun fp1 F1 env1 H1 ds e1 R1 g1 vs hl hd => rd_callA (W := Wc cv W) R1 (hl.trans hn) hd g1)
theorem px_callXK {S : List D → FR} {ks : List Str} {is : List Nat} {kws : List Keyword} {fs : PM (List D)} (F : FnG X.prog X.w X.K X.mg X.base CX k f fd ps (SpX cv X.K n S)) (hr : Room k X.A) (hgu : X.A.guards = some []) (hm : X.mg x = some (.ref f)) (hk : PySem.W.keepIn X.K (.ref f) = true) (hx : ∀ σ, PassesAt CX X σ (WE W σ))
    (hb : KwBinds fd ps ks is) (ha : PKF X bo (Wc cv W) kws fs) (hlen : kws.length = ks.length := by rfl) (his : ∀ i ∈ is, i < ks.length := by decide) (hn : is.length = n := by rfl) (hg : Gl X x := by rfl) (hall : (backToKw pos (keywordEach kws X.env)).all (·.1.isSome) = true := by rfl) (hks : (backToKw pos (keywordEach kws X.env)).filterMap (·.1) = ks := by rfl)
    (hdb : (x == ("__debug__" : Str)) = false := by decide) (hpl : ((backTo pos (starEach [] X.env)).any (·.1) || (backToKw pos (keywordEach kws X.env)).any (·.1.isNone)) = false := by rfl) :
    PX X bo (Wc cv W) (.Call (.Name x p) [] kws pos) (eCallK is S fs) := by
  obtain ⟨t, h1, h2⟩ := ha
  refine ⟨fun σ H Q => t σ H fun vs H1 => vs.length = ks.length ∧ SpX cv X.K n S (permV is vs) H1 Q (WE W σ), ⟨?_⟩, fun c fp F0 env σ H Q hc R g => ?_⟩
  · intro pins s σ H Q I h
    refine wpAny_Call_Name_kw (ld_glob I hg hm ?_ hdb)
    refine PySem.W.callWith_KW0 (h₀ := X.base) I.ok.mod.kin hk hall (thn (h1.run pos pins s σ H _ I h) ?_) hpl
    rintro ws s1 ⟨vs, H1, I1, r, hl, q⟩
    refine ⟨I1.kIn, ?_⟩
    rw [hks]
    exact run_g F hr hgu (hb s1 ws (by rw [← r.length]; exact hl)) (hx σ) I1 (perm_vals r fun i hi => by rw [hl]; exact his i hi) q
  · refine h2 c fp F0 env σ H _ hc R ((Goes.bnd g).mono (Ex.refl F0) fun fp1 F1 env1 H1 ds e1 R1 g1 vs hl hd => ⟨hl.trans hlen, ?_⟩)
    obtain ⟨z1, z2⟩ := perm_dens (is := is) hd fun i hi => by rw [hl.trans hlen]; exact his i hi
    exact rd_callA (W := Wc cv W) R1 (z2.trans hn) z1 g1
end
end Pu
namespace Pu
open PySem PySem.Spec PyProof.Rows L2
theorem exm_by {K : PySem.W.Frag} {C S : Addr} {b : Bool} (h1 : PySem.W.subIn K (.ref S) (.type "BaseException") = some true) (h2 : PySem.W.isClsIn K S = true) (h3 : PySem.W.typeIn K (.ref S) = some (.type "type")) (h4 : PySem.W.subIn K (.ref C) (.ref S) = some b) :
    PySem.W.exmOne K (.ref C) (.ref S) = some b := by
  have e1 : (PySem.W.subIn K (.ref S) (.type "BaseException") == some true) = true := by rw [h1] <;> rfl
  have e2 : ((PySem.W.clsIn K S).isSome && PySem.W.typeIn K (.ref S) == some (.type "type")) = true := by
    have h2' : (PySem.W.clsIn K S).isSome = true := h2
    rw [h2', h3] <;> rfl
  show (if (PySem.W.subIn K (.ref S) (.type "BaseException") == some true) = true then (if ((PySem.W.clsIn K S).isSome && PySem.W.typeIn K (.ref S) == some (.type "type")) = true then PySem.W.subIn K (.ref C) (.ref S) else none) else none) = some b
  rw [if_pos e1, if_pos e2]
  exact h4
theorem bt_sorted : bootBuiltins "sorted" = some (.builtin "sorted") := by decide +kernel
end Pu

namespace Pu
open PySem PySem.Spec PyProof.Rows L2
/-! ### list(range(..)), tuple(range(..)) -/
theorem dens_rg {K : PySem.W.Frag} {F : Hp} (a : Int) (n : Nat) : Dens K F (rangeD a n) ((List.range n).map fun i => V.int (a + (i : Nat))) := by
  have h : ∀ l : List Nat, Dens K F (l.map fun i => .int (a + (i : Nat))) (l.map fun i => V.int (a + (i : Nat))) := by
    intro l
    induction l with
    | nil => simp [Dens]
    | cons x l ih =>
      simp only [List.map_cons, Dens]
      exact ⟨_, _, rfl, den_int, ih⟩
  exact h _
def rgLen (a b : Int) : Option (Int × Nat) := if inLine a = true ∧ inLine b = true ∧ (b - a).toNat ≤ 1000000 then some (a, (b - a).toNat) else none
theorem rgLen_ok {a b : Int} {p : Int × Nat} (h : rgLen a b = some p) : p = (a, (b - a).toNat) ∧ RgOk a b := by
  unfold rgLen at h
  split at h
  · rename_i hh
    obtain ⟨h1, h2, h3⟩ := hh
    have q1 := inLine_ok h1
    have q2 := inLine_ok h2
    refine ⟨(Option.some.inj h).symm, q1.1, q1.2, q2.1, q2.2, ?_⟩
    omega
  · cases h
def rg1 : D → Option (Int × Nat)
  | .int i => rgLen 0 i
  | _ => none
def rg2 : D → D → Option (Int × Nat)
  | .int i, .int j => rgLen i j
  | _, _ => none
def eLrg1 (f : PM Opd) : PM Opd := bnd (kept f) fun d => bnd (lift (rg1 d)) fun p => ret (.tmp (rangeD p.1 p.2))
def eLrg2 (f g : PM Opd) : PM Opd := bnd (kept f) fun d => bnd (kept g) fun d' => bnd (lift (rg2 d d')) fun p => ret (.tmp (rangeD p.1 p.2))
def eTrg1 (f : PM Opd) : PM Opd := bnd (kept f) fun d => bnd (lift (rg1 d)) fun p => ret (.val (.tuple (rangeD p.1 p.2)))
section
variable {X : Cx} {bo : Bool} {W : WX} {a b : Expr} {pos p pos2 p2 : Pos}
theorem px_lrg1 {f : PM Opd} (hc : X.calm = true) (hml : X.mg "list" = none) (hmr : X.mg "range" = none) (ha : PX X bo W a f) (hgl : Gl X "list" := by rfl) (hgr : Gl X "range" := by rfl)
    (na : starEach [a] X.env = (false, eval a X.env) :: starEach [] X.env := by rfl)
    (nl : starEach [.Call (.Name "range" p2) [a] [] pos2] X.env = (false, eval (.Call (.Name "range" p2) [a] [] pos2) X.env) :: starEach [] X.env := by rfl) :
    PX X bo W (.Call (.Name "list" p) [.Call (.Name "range" p2) [a] [] pos2] [] pos) (eLrg1 f) := by
  obtain ⟨t, a1, a2⟩ := ha
  refine ⟨_, pe_listRg hc hgl hml (prg_1 hgr hmr a1 na) nl, fun c fp F env σ H Q hcc R g => ?_⟩
  unfold eLrg1 at g
  rw [kept_bnd] at g
  refine a2 c fp F env σ H _ hcc R ((Goes.bnd g).mono (Ex.refl F) fun fp1 F1 env1 H1 o e1 R1 g1 v hv => ?_)
  obtain ⟨d, fp2, F2, env2, R2, e2, hd, g2⟩ := frz_ok R1 hv g1
  obtain ⟨q, hq, g3⟩ := goes_lift_bnd g2
  cases d with
  | int i =>
    obtain ⟨rfl, ok⟩ := rgLen_ok (show rgLen 0 i = some q from hq)
    have hv' : v = .int i := by simpa only [Den] using hd
    refine ⟨i, hv', ok, fun r hr => ?_⟩
    obtain ⟨F3, R3, e3, k3⟩ := R2.got (Got.lst (K := X.K) (ds := rangeD 0 (i - 0).toNat) (xs := rgV 0 i) hr (dens_rg 0 _))
    exact g3 fp2 F3 _ R3 (e2.trans e3) _ k3
  | _ => cases hq
theorem px_lrg2 {f g : PM Opd} (hc : X.calm = true) (hml : X.mg "list" = none) (hmr : X.mg "range" = none) (ha : PX X bo W a f) (hb : PX X bo W b g) (hgl : Gl X "list" := by rfl) (hgr : Gl X "range" := by rfl)
    (na : starEach [a, b] X.env = (false, eval a X.env) :: starEach [b] X.env := by rfl) (nb : starEach [b] X.env = (false, eval b X.env) :: starEach [] X.env := by rfl) (hp : (backTo pos2 (starEach [b] X.env)).any (·.1) = false := by rfl)
    (nl : starEach [.Call (.Name "range" p2) [a, b] [] pos2] X.env = (false, eval (.Call (.Name "range" p2) [a, b] [] pos2) X.env) :: starEach [] X.env := by rfl) :
    PX X bo W (.Call (.Name "list" p) [.Call (.Name "range" p2) [a, b] [] pos2] [] pos) (eLrg2 f g) := by
  obtain ⟨t, a1, a2⟩ := ha
  obtain ⟨u, b1, b2⟩ := hb
  refine ⟨_, pe_listRg hc hgl hml (prg_2 hgr hmr a1 b1 na nb hp) nl, fun c fp F env σ H Q hcc R gg => ?_⟩
  unfold eLrg2 at gg
  rw [kept_bnd] at gg
  refine a2 c fp F env σ H _ hcc R ((Goes.bnd gg).mono (Ex.refl F) fun fp1 F1 env1 H1 o e1 R1 g1 v hv => ?_)
  obtain ⟨d, fp2, F2, env2, R2, e2, hd, g2⟩ := frz_ok R1 hv g1
  rw [kept_bnd] at g2
  refine b2 c fp2 F2 env2 σ H1 _ hcc R2 ((Goes.bnd g2).mono e2 fun fp3 F3 env3 H3 o' e3 R3 g3 v' hv' => ?_)
  obtain ⟨d', fp4, F4, env4, R4, e4, hd', g4⟩ := frz_ok R3 hv' g3
  obtain ⟨q, hq, g5⟩ := goes_lift_bnd g4
  cases d with
  | int i =>
    cases d' with
    | int j =>
      obtain ⟨rfl, ok⟩ := rgLen_ok (show rgLen i j = some q from hq)
      have hv1 : v = .int i := by simpa only [Den] using hd
      have hv2 : v' = .int j := by simpa only [Den] using hd'
      refine ⟨i, j, hv1, hv2, ok, fun r hr => ?_⟩
      obtain ⟨F5, R5, e5, k5⟩ := R4.got (Got.lst (K := X.K) (ds := rangeD i (j - i).toNat) (xs := rgV i j) hr (dens_rg i _))
      exact g5 fp4 F5 _ R5 (e4.trans e5) _ k5
    | _ => cases hq
  | _ => cases hq
theorem px_trg1 {f : PM Opd} (hc : X.calm = true) (hml : X.mg "tuple" = none) (hmr : X.mg "range" = none) (ha : PX X bo W a f) (hgl : Gl X "tuple" := by rfl) (hgr : Gl X "range" := by rfl)
    (na : starEach [a] X.env = (false, eval a X.env) :: starEach [] X.env := by rfl)
    (nl : starEach [.Call (.Name "range" p2) [a] [] pos2] X.env = (false, eval (.Call (.Name "range" p2) [a] [] pos2) X.env) :: starEach [] X.env := by rfl) :
    PX X bo W (.Call (.Name "tuple" p) [.Call (.Name "range" p2) [a] [] pos2] [] pos) (eTrg1 f) := by
  obtain ⟨t, a1, a2⟩ := ha
  refine ⟨_, pe_tupRg hc hgl hml (prg_1 hgr hmr a1 na) nl, fun c fp F env σ H Q hcc R g => ?_⟩
  unfold eTrg1 at g
  rw [kept_bnd] at g
  refine a2 c fp F env σ H _ hcc R ((Goes.bnd g).mono (Ex.refl F) fun fp1 F1 env1 H1 o e1 R1 g1 v hv => ?_)
  obtain ⟨d, fp2, F2, env2, R2, e2, hd, g2⟩ := frz_ok R1 hv g1
  obtain ⟨q, hq, g3⟩ := goes_lift_bnd g2
  cases d with
  | int i =>
    obtain ⟨rfl, ok⟩ := rgLen_ok (show rgLen 0 i = some q from hq)
    have hv' : v = .int i := by simpa only [Den] using hd
    refine ⟨i, hv', ok, fun r hr => ?_⟩
    obtain ⟨F3, R3, e3, k3⟩ := R2.got (Got.tup (K := X.K) (ds := rangeD 0 (i - 0).toNat) (xs := rgV 0 i) hr (dens_rg 0 _))
    exact g3 fp2 F3 _ R3 (e2.trans e3) _ k3
  | _ => cases hq
end
end Pu
namespace Pu
open PySem PySem.Spec PyProof.Rows L2
theorem psetC {X : Cx} {e : Expr} {te : TE} {x : Str} {pos pos' : Pos} (i : Nat) (hN : X.N.Nodup) (he : PE X e te) (hi : X.N[i]? = some x := by rfl) (hx : Loc X.env.scope x := by first | exact Or.inl rfl | exact Or.inr rfl) (hs : swapsWith e (some (.Name x pos')) pos.line X.env = pure false := by rfl)
    (hf : X.fn x = true ∨ X.env.scope.names.lookup x = some .local := by first | exact .inl rfl | exact .inr rfl | assumption) :
    PS X (.Assign [.Name x pos'] e pos) (tAsg te (gName i)) := ps_set hN hi hx he hs hf
end Pu

namespace Pu
open PySem PySem.Spec PyProof.Rows L2
/-! ### texts: methods, str(..), int(..), f-strings -/
def strD : D → Option Str
  | .str a => some a
  | _ => none
def strsD : List D → Option (List Str)
  | [] => some []
  | .str a :: ds => (strsD ds).map (a :: ·)
  | _ :: _ => none
theorem dens_strs {K : PySem.W.Frag} {F : Hp} : ∀ {ds : List D} {ys : List Str} {xs : List V}, strsD ds = some ys → Dens K F ds xs → xs = ys.map V.str
  | [], ys, xs, h, hd => by
    cases h
    have q : xs = [] := by simpa only [Dens] using hd
    exact q
  | .str a :: ds, ys, xs, h, hd => by
    simp only [strsD] at h
    cases e : strsD ds with
    | none => rw [e] at h; cases h
    | some zs =>
      rw [e] at h
      cases h
      simp only [Dens, Den] at hd
      obtain ⟨v, r, rfl, rfl, h2⟩ := hd
      rw [dens_strs e h2]
      rfl
  | .none :: ds, ys, xs, h, hd => by cases h
  | .bool _ :: ds, ys, xs, h, hd => by cases h
  | .int _ :: ds, ys, xs, h, hd => by cases h
  | .list _ :: ds, ys, xs, h, hd => by cases h
  | .tuple _ :: ds, ys, xs, h, hd => by cases h
  | .dict _ :: ds, ys, xs, h, hd => by cases h
theorem strs_dens {K : PySem.W.Frag} {F : Hp} : ∀ (ys : List Str), Dens K F (ys.map .str) (ys.map V.str)
  | [] => by simp [Dens]
  | y :: ys => by
    simp only [List.map_cons, Dens, Den]
    exact ⟨_, _, rfl, rfl, strs_dens ys⟩
/-- a method of texts, of no, of one argument -/
def Mt0 (X : Cx) (id : String) (g : Str → Option Opd) : Prop :=
  ∃ r, MtR X id r ∧ ∀ F H a o (Q : VK), Ex F H → g a = some o → (∀ v H', Got X.K F H o v H' → Q v H') → r (.str a) [] H Q
def Mt1 (X : Cx) (id : String) (g : Str → D → Option Opd) : Prop :=
  ∃ r, MtR X id r ∧ ∀ F H a y dy o (Q : VK), Ex F H → BDen X.K F H dy y → g a dy = some o → (∀ v H', Got X.K F H o v H' → Q v H') → r (.str a) [y] H Q
def eM0 (g : Str → Option Opd) (f : PM Opd) : PM Opd := bnd (opn f) fun x => bnd (rsv x) fun dx => bnd (lift (strD dx)) fun a => lift (g a)
def eM1 (g : Str → D → Option Opd) (f h : PM Opd) : PM Opd := bnd (opn f) fun x => bnd (rsv x) fun dx => bnd (lift (strD dx)) fun a => bnd (opn h) fun y => bnd (rsv y) fun dy => lift (g a dy)
theorem strD_ok {K : PySem.W.Frag} {F H : Hp} {d : D} {a : Str} {v : V} (h : strD d = some a) (hd : BDen K F H d v) : v = .str a := by
  cases d with
  | str b => cases h; exact bd_str hd
  | _ => cases h
section
variable {X : Cx} {bo : Bool} {W : WX} {a b e : Expr} {es : List Expr} {pos p apos : Pos}
theorem px_m0 {id : String} {name : Str} {g : Str → Option Opd} {f : PM Opd} (h : Mt0 X id g) (slot : Slot "str" name id) (ty : typeOf (.builtin id) = pure (.type "method_descriptor")) (ha : PX X bo W a f)
    (hbase : attributeBase a name X.env (eval a X.env) = eval a X.env := by rfl) (hline : (apos.endLine == pos.line) = true := by rfl) : PX X bo W (.Call (.Attribute a name apos) [] [] pos) (eM0 g f) := by
  obtain ⟨r, r1, r2⟩ := h
  obtain ⟨t, h1, h2⟩ := px_opn ha
  refine ⟨_, pe_m0 slot ty r1 h1 hbase hline, fun c fp F env σ H Q hc R gg => ?_⟩
  refine h2 c fp F env σ H _ hc R ((Goes.bnd gg).mono (Ex.refl F) fun fp1 F1 env1 H1 o e1 R1 g1 v hn hv => ?_)
  obtain ⟨d, k1, g2⟩ := rsv_ok R1 hv g1
  obtain ⟨z, hz, g3⟩ := goes_lift_bnd g2
  have hv' := strD_ok hz k1
  subst hv'
  obtain ⟨o', ho, _⟩ := g3.lift
  exact ⟨⟨z, rfl⟩, r2 F1 H1 z o' Q R1.fh ho fun v' H' got => fin_got R1 g3 ho got⟩
theorem px_m1 {id : String} {name : Str} {g : Str → D → Option Opd} {f fb : PM Opd} (h : Mt1 X id g) (slot : Slot "str" name id) (ty : typeOf (.builtin id) = pure (.type "method_descriptor")) (ha : PX X bo W a f) (hb : PX X bo W b fb)
    (hs : starEach [b] X.env = [(false, eval b X.env)] := by rfl) (hbase : attributeBase a name X.env (eval a X.env) = eval a X.env := by rfl) (hline : (apos.endLine == pos.line) = true := by rfl) : PX X bo W (.Call (.Attribute a name apos) [b] [] pos) (eM1 g f fb) := by
  obtain ⟨r, r1, r2⟩ := h
  obtain ⟨t, h1, h2⟩ := px_opn ha
  obtain ⟨t', h3, h4⟩ := px_opn hb
  refine ⟨_, pe_m1 slot ty r1 h1 h3 hs hbase hline, fun c fp F env σ H Q hc R gg => ?_⟩
  refine h2 c fp F env σ H _ hc R ((Goes.bnd gg).mono (Ex.refl F) fun fp1 F1 env1 H1 o e1 R1 g1 v hn hv => ?_)
  obtain ⟨d, k1, g2⟩ := rsv_ok R1 hv g1
  obtain ⟨z, hz, g3⟩ := goes_lift_bnd g2
  have hv' := strD_ok hz k1
  subst hv'
  refine ⟨⟨z, rfl⟩, ?_⟩
  refine h4 c fp1 F1 env1 σ H1 _ hc R1 ((Goes.bnd g3).mono (Ex.refl F1) fun fp2 F2 env2 H2 oy e2 R2 g4 u hm hu => ?_)
  obtain ⟨dy, k2, g5⟩ := rsv_ok R2 hu g4
  obtain ⟨o', ho, _⟩ := g5.lift
  exact r2 F2 H2 z u dy o' Q R2.fh k2 ho fun v' H' got => fin_got R2 g5 ho got
end
def gAscii (a : Str) : Option Opd := some (.val (.bool (Txt.isascii a)))
def gDigit (a : Str) : Option Opd := some (.val (.bool (Txt.isdigit a)))
def gSplit (a : Str) : D → Option Opd
  | .str b => if b.length ≠ 0 ∧ a.length + 2 ≤ bigLine then some (.tmp ((Txt.split a b).map .str)) else none
  | _ => none
def gPart (a : Str) : D → Option Opd
  | .str b => if b.length ≠ 0 ∧ a.length ≤ bigLine then some (.val (.tuple [.str (Txt.partition a b).1, .str (Txt.partition a b).2.1, .str (Txt.partition a b).2.2])) else none
  | _ => none
def gFind (a : Str) : D → Option Opd
  | .str b => some (.val (.int (Txt.find a b)))
  | _ => none
def gCount (a : Str) : D → Option Opd
  | .str b => some (.val (.int (Txt.count a b)))
  | _ => none
def gStarts (a : Str) : D → Option Opd
  | .str b => some (.val (.bool (Txt.startswith a b)))
  | _ => none
def gEnds (a : Str) : D → Option Opd
  | .str b => some (.val (.bool (Txt.endswith a b)))
  | _ => none
def joinD (a : Str) (ds : List D) : Option Opd := (strsD ds).bind fun ys => if (ys.map (·.length)).sum + ys.length * a.length ≤ bigLine then some (.val (.str (Txt.join a ys))) else none
def gJoin (a : Str) : D → Option Opd
  | .list ds => joinD a ds
  | .tuple ds => joinD a ds
  | _ => none
section
variable {X : Cx}
theorem m_ascii : Mt0 X "str.isascii" gAscii := ⟨_, mt_isascii, fun F H a o Q e hg q => by cases hg; exact ⟨a, rfl, rfl, trivial, q _ _ (.same (by simp only [Den]))⟩⟩
theorem m_digit : Mt0 X "str.isdigit" gDigit := ⟨_, mt_isdigit, fun F H a o Q e hg q => by cases hg; exact ⟨a, rfl, rfl, trivial, q _ _ (.same (by simp only [Den]))⟩⟩
theorem m_find : Mt1 X "str.find" gFind := ⟨_, mt_find, fun F H a y dy o Q e hy hg q => by
  cases dy with
  | str b => cases hg; exact ⟨a, b, rfl, by rw [bd_str hy], q _ _ (.same (by simp only [Den]))⟩
  | _ => cases hg⟩
theorem m_count : Mt1 X "str.count" gCount := ⟨_, mt_count, fun F H a y dy o Q e hy hg q => by
  cases dy with
  | str b => cases hg; exact ⟨a, b, rfl, by rw [bd_str hy], q _ _ (.same (by simp only [Den]))⟩
  | _ => cases hg⟩
theorem m_starts : Mt1 X "str.startswith" gStarts := ⟨_, mt_startswith, fun F H a y dy o Q e hy hg q => by
  cases dy with
  | str b => cases hg; exact ⟨a, b, rfl, by rw [bd_str hy], q _ _ (.same (by simp only [Den]))⟩
  | _ => cases hg⟩
theorem m_ends : Mt1 X "str.endswith" gEnds := ⟨_, mt_endswith, fun F H a y dy o Q e hy hg q => by
  cases dy with
  | str b => cases hg; exact ⟨a, b, rfl, by rw [bd_str hy], q _ _ (.same (by simp only [Den]))⟩
  | _ => cases hg⟩
theorem beq0 {n : Nat} (h : n ≠ 0) : (n == 0) = false := by simpa using h
theorem m_split : Mt1 X "str.split" gSplit := ⟨_, mt_split, fun F H a y dy o Q e hy hg q => by
  cases dy with
  | str b =>
    simp only [gSplit] at hg
    split at hg
    · rename_i hh
      cases hg
      refine ⟨a, b, rfl, by rw [bd_str hy], beq0 hh.1, big_le hh.2, fun p hp => ?_⟩
      exact q _ _ (.lst hp (strs_dens _))
    · cases hg
  | _ => cases hg⟩
theorem m_part : Mt1 X "str.partition" gPart := ⟨_, mt_partition, fun F H a y dy o Q e hy hg q => by
  cases dy with
  | str b =>
    simp only [gPart] at hg
    split at hg
    · rename_i hh
      cases hg
      refine ⟨a, b, rfl, by rw [bd_str hy], beq0 hh.1, big_le hh.2, fun p hp => ?_⟩
      exact q _ _ (.tup hp (by simp [Dens, Den]))
    · cases hg
  | _ => cases hg⟩
theorem join_ok {a : Str} {ds : List D} {o : Opd} (h : joinD a ds = some o) : ∃ ys, strsD ds = some ys ∧ (ys.map (·.length)).sum + ys.length * a.length ≤ 16777216 ∧ o = .val (.str (Txt.join a ys)) := by
  unfold joinD at h
  cases e : strsD ds with
  | none => rw [e] at h; cases h
  | some ys =>
    rw [e] at h
    simp only [Option.bind_some] at h
    split at h
    · rename_i hh
      cases h
      have : bigLine ≤ 16777216 := by decide
      exact ⟨ys, rfl, by omega, rfl⟩
    · cases h
theorem m_join : Mt1 X "str.join" gJoin := ⟨_, mt_join, fun F H a y dy o Q e hy hg q => by
  cases dy with
  | list ds =>
    obtain ⟨p, xs, rfl, h1, h2⟩ := bd_list hy
    obtain ⟨ys, k1, k2, rfl⟩ := join_ok hg
    have := dens_strs k1 h2
    subst this
    exact ⟨a, p, ys, rfl, rfl, .inl (.inl (.inl h1)), k2, q _ _ (.same (by simp only [Den]))⟩
  | tuple ds =>
    obtain ⟨p, xs, rfl, h1, h2⟩ := bd_tup hy
    obtain ⟨ys, k1, k2, rfl⟩ := join_ok hg
    have := dens_strs k1 h2
    subst this
    exact ⟨a, p, ys, rfl, rfl, .inr (ex_t e h1), k2, q _ _ (.same (by simp only [Den]))⟩
  | _ => cases hg⟩
def gStr : List D → Option Opd
  | [.int i] => if i.natAbs.log2 < 1920 then some (.val (.str (toString i))) else none
  | _ => none
theorem bi_str : Bi X (.type "str") gStr := by
  refine ⟨_, call_str_int, fun F H xs ds o Q e sy hx hg q => ?_⟩
  unfold gStr at hg
  split at hg
  · split at hg
    · rename_i hh
      cases hg
      obtain ⟨v, rfl, h1⟩ := bdens1 hx
      exact ⟨_, by rw [bd_int h1], hh, q _ _ (.same den_str)⟩
    · cases hg
  · cases hg
def gIntS : List D → Option Opd
  | [.str a] => if a.length ≤ 640 then (PySem.intText? a).map fun n => .val (.int n) else none
  | _ => none
theorem bi_intS : Bi X (.type "int") gIntS := by
  refine ⟨_, call_int_str, fun F H xs ds o Q e sy hx hg q => ?_⟩
  unfold gIntS at hg
  split at hg
  · split at hg
    · rename_i a hh
      cases en : PySem.intText? a with
      | none => rw [en] at hg; cases hg
      | some n =>
        rw [en] at hg
        cases hg
        obtain ⟨v, rfl, h1⟩ := bdens1 hx
        exact ⟨_, _, by rw [bd_str h1], en, hh, q _ _ (.same den_int)⟩
    · cases hg
  · cases hg
end
/-! f-strings -/
def fmtD : D → Option Str
  | .str a => if a.length ≤ bigLine then some a else none
  | .int i => if i.natAbs.log2 < 1920 then some (toString i) else none
  | _ => none
def addS (acc y : Str) : Option Str := if acc.length + y.length ≤ bigLine then some (acc ++ y) else none
def PJX (X : Cx) (bo : Bool) (W : WX) (es : List Expr) (f : Str → PM Str) : Prop :=
  ∃ ts, PJ X es ts ∧ ∀ c fp F env σ H acc (Q : Str → Hp → Prop), OkC c bo → Rel X.K c fp F env σ H →
    Goes X.K c W σ F (f acc env) (fun fp' F' env' H' y => Q y H') → tJs ts acc σ H Q
def jNil : Str → PM Str := fun acc => ret acc
def jLit (s : Str) (f : Str → PM Str) : Str → PM Str := fun acc => bnd (lift (addS acc s)) f
def jFmt (g : PM Opd) (f : Str → PM Str) : Str → PM Str := fun acc => bnd (opn g) fun x => bnd (rsv x) fun d => bnd (lift (fmtD d)) fun y => bnd (lift (addS acc y)) f
def eJoin (f : Str → PM Str) : PM Opd := bnd (f Str.empty) fun y => ret (.val (.str y))
theorem addS_ok {acc y z : Str} (h : addS acc y = some z) : z = acc ++ y ∧ (acc ++ y).length ≤ sizeLine := by
  unfold addS at h
  split at h
  · rename_i hh
    refine ⟨(Option.some.inj h).symm, ?_⟩
    rw [Str.length_append]
    exact big_le hh
  · cases h
section
variable {X : Cx} {bo : Bool} {W : WX} {a b e : Expr} {es : List Expr} {pos p apos : Pos}
theorem pjx_nil : PJX X bo W [] jNil := ⟨[], .nil, fun c fp F env σ H acc Q hc R g => g fp F H R (Ex.refl F)⟩
theorem pjx_lit {s : Str} {j : Nat} {f : Str → PM Str} (h : PJX X bo W es f) : PJX X bo W (.Constant (.str s) j pos :: es) (jLit s f) := by
  obtain ⟨ts, h1, h2⟩ := h
  refine ⟨_, .cons (t := tC (.str s)) pe_str h1, fun c fp F env σ H acc Q hc R g => ?_⟩
  obtain ⟨z, hz, g1⟩ := goes_lift_bnd g
  obtain ⟨rfl, hl⟩ := addS_ok hz
  exact ⟨s, rfl, hl, h2 c fp F env σ H _ Q hc R g1⟩
theorem pjx_fmt {g : PM Opd} {f : Str → PM Str} (hg : PX X bo W a g) (h : PJX X bo W es f) : PJX X bo W (.FormattedValue a (-1) none pos :: es) (jFmt g f) := by
  obtain ⟨ts, h1, h2⟩ := h
  obtain ⟨t, h3, h4⟩ := px_opn hg
  refine ⟨_, .cons (pe_fmt h3) h1, fun c fp F env σ H acc Q hc R gg => ?_⟩
  refine h4 c fp F env σ H _ hc R ((Goes.bnd gg).mono (Ex.refl F) fun fp1 F1 env1 H1 o e1 R1 g1 v hn hv => ?_)
  obtain ⟨d, k1, g2⟩ := rsv_ok R1 hv g1
  obtain ⟨y, hy, g3⟩ := goes_lift_bnd g2
  obtain ⟨z, hz, g4⟩ := goes_lift_bnd g3
  obtain ⟨rfl, hl⟩ := addS_ok hz
  have fin : ∃ y' : Str, V.str y = .str y' ∧ (acc ++ y').length ≤ sizeLine ∧ tJs ts (acc ++ y') σ H1 Q := ⟨y, rfl, hl, h2 c fp1 F1 env1 σ H1 _ Q hc R1 g4⟩
  cases d with
  | str w =>
    simp only [fmtD] at hy
    split at hy
    · rename_i hw
      cases hy
      exact .inl ⟨_, bd_str k1, big_le hw, fin⟩
    · cases hy
  | int i =>
    simp only [fmtD] at hy
    split at hy
    · rename_i hw
      cases hy
      exact .inr ⟨_, bd_int k1, hw, fin⟩
    · cases hy
  | _ => cases hy
theorem px_join {v1 v2 : Expr} {rest : List Expr} {f : Str → PM Str} (h : PJX X bo W (v1 :: v2 :: rest) f) : PX X bo W (.JoinedStr (v1 :: v2 :: rest) pos) (eJoin f) := by
  obtain ⟨ts, h1, h2⟩ := h
  refine ⟨_, pe_joined h1, fun c fp F env σ H Q hc R g => ?_⟩
  refine h2 c fp F env σ H _ _ hc R ((Goes.bnd g).mono (Ex.refl F) fun fp1 F1 env1 H1 y e1 R1 g1 => ?_)
  exact g1 fp1 F1 H1 R1 (Ex.refl F1) (.str y) (by show Den _ _ _ _; simp only [Den])
end
section
variable {X : Cx} {bo : Bool} {W : WX} {pos p : Pos} {x : Str} {CX : CXT} {k : Nat} {f : Addr} {fd : FuncData} {ps : List Str}
theorem px_callA0 {S : List D → FR} (F : FnG X.prog X.w X.K X.mg X.base CX k f fd ps (SpA X.K 0 S)) (hr : Room k X.A) (hgu : X.A.guards = some []) (hm : X.mg x = some (.ref f)) (hk : PySem.W.keepIn X.K (.ref f) = true) (hb : Binds X.K fd ps []) (hx : ∀ σ, PassesAt CX X σ (WE W σ))
    (hp : ps = []) (hg : Gl X x := by rfl) (hdb : (x == ("__debug__" : Str)) = false := by decide) : PX X bo W (.Call (.Name x p) [] [] pos) (eCallA S (ret [])) := by
  subst hp
  refine ⟨fun σ H Q => SpA X.K 0 S [] H Q (WE W σ), ⟨fun pins s σ H Q I h => ?_⟩, fun c fp F0 env σ H Q hc R g => ?_⟩
  · refine wpAny_Call_Name_kw (ld_glob I hg hm ?_ hdb)
    have b := hb s [] I.kIn rfl
    exact PySem.W.callWith_K0 I.kIn hk (run_g (zs := []) F hr hgu b (hx σ) I .nil h)
  · exact rd_callA (n := 0) (ds := []) R rfl (by simp only [Dens]) g
end
end Pu

namespace Pu
open PySem PySem.Spec PyProof.Rows L2
section
variable {c : String} {e : PEnv} {x : Exn} {m : Value → Option Bool} {g h : PM Out} {o : Opd}
theorem sRaise0_e : sRaise0 c e = .exc (exn0 c) e := rfl
theorem frOf_x : frOf (.exc x) e = .exc x e := rfl
theorem sTry_e : sTry m g h e = (match g e with | .ok o e => .ok o e | .exc x e => (match m x.cls with | some true => noExc h e | some false => .exc x e | none => .bad) | .bad => .bad) := rfl
theorem noX_k : noX (.ok o) = .ok o := rfl
/-- a comprehension that goes the same way each time -/
theorem lc_map {α : Type} {vs : List Nat} {s : D → PEnv → Option PEnv} {t : PM Bool} {f : PM Opd} {W : PEnv} {enc : α → D} {p : α → Bool} {k : α → D} : ∀ (xs : List α) (acc : List D), acc.length + xs.length ≤ 1000000 →
    (∀ x ∈ xs, ∃ e1 e2, s (enc x) W = some e1 ∧ t e1 = .ok (p x) e2 ∧ (p x = true → ∃ e3, kept f e2 = .ok (k x) e3 ∧ wipeE e3 vs = W) ∧ (p x = false → wipeE e2 vs = W)) → goLc vs s t f (xs.map enc) acc W = .ok (acc ++ (xs.filter p).map k) W
  | [], acc, _, _ => by simp [goLc]
  | x :: xs, acc, hl, h => by
    obtain ⟨e1, e2, h1, h2, h3, h4⟩ := h x (by simp)
    rw [List.length_cons] at hl
    rw [List.map_cons]
    unfold goLc
    simp only [h1, h2]
    cases hp : p x with
    | false =>
      have ih := lc_map (enc := enc) (p := p) (k := k) xs acc (by omega) fun y hy => h y (List.mem_cons_of_mem _ hy)
      show goLc vs s t f (xs.map enc) acc (wipeE e2 vs) = _
      rw [h4 hp, ih, List.filter_cons, hp]
      rfl
    | true =>
      obtain ⟨e3, k1, k2⟩ := h3 hp
      have hb : acc.length < bigLine := by unfold bigLine; omega
      simp only [k1, if_pos hb, k2]
      have ih := lc_map (enc := enc) (p := p) (k := k) xs (acc ++ [k x]) (by rw [List.length_append, List.length_singleton]; omega) fun y hy => h y (List.mem_cons_of_mem _ hy)
      simp only [ih, List.filter_cons, hp, if_true, List.map_cons, List.append_assoc, List.singleton_append]
end
/-! ### pairs of ints in order -/
def leP (p q : Int × Int) : Bool := decide (p.1 < q.1 ∨ (p.1 = q.1 ∧ p.2 ≤ q.2))
def prD (p : Int × Int) : D := .tuple [.int p.1, .int p.2]
def sortP (ps : List (Int × Int)) : List (Int × Int) := ps.mergeSort leP
theorem leP_tr (a b c : Int × Int) (h1 : leP a b = true) (h2 : leP b c = true) : leP a c = true := by
  simp only [leP, decide_eq_true_eq] at *
  omega
theorem leP_tot (a b : Int × Int) : (leP a b || leP b a) = true := by
  simp only [leP, Bool.or_eq_true, decide_eq_true_eq]
  omega
theorem leP_anti {a b : Int × Int} (h1 : leP a b = true) (h2 : leP b a = true) : a = b := by
  simp only [leP, decide_eq_true_eq] at *
  obtain ⟨a1, a2⟩ := a
  obtain ⟨b1, b2⟩ := b
  simp only at h1 h2
  have e1 : a1 = b1 := by omega
  have e2 : a2 = b2 := by omega
  rw [e1, e2]
theorem sortD_prs (ps : List (Int × Int)) : sortD (ps.map prD) = (sortP ps).map prD := by
  unfold sortD sortP
  rw [← List.map_mergeSort (r := leP)]
  intro a _ b _
  have h := congrFun (congrFun (PySem.W.dataLe_ii (β := Int × Int) (fun p => p.1) (fun p => p.2)) a) b
  have h' : PySem.W.dataLe false (fun d : D => d) (prD a) (prD b) = PySem.W.dataLe false (fun b : Int × Int => PyData.tuple [.int b.1, .int b.2]) a b := rfl
  rw [h', h]
  rfl
theorem sortP_perm (ps : List (Int × Int)) : (sortP ps).Perm ps := List.mergeSort_perm ps leP
theorem sortP_len (ps : List (Int × Int)) : (sortP ps).length = ps.length := (sortP_perm ps).length_eq
theorem sortP_le (ps : List (Int × Int)) : (sortP ps).Pairwise (fun a b => leP a b = true) := List.pairwise_mergeSort leP_tr leP_tot ps
theorem eq_of_le {ps qs : List (Int × Int)} (h : ps.Perm qs) (h1 : ps.Pairwise (fun a b => leP a b = true)) (h2 : qs.Pairwise (fun a b => leP a b = true)) : ps = qs :=
  h.eq_of_pairwise (fun a b _ _ => leP_anti) h1 h2
theorem sortP_of {ps qs : List (Int × Int)} (h : ps.Perm qs) (h2 : qs.Pairwise (fun a b => leP a b = true)) : sortP ps = qs := eq_of_le ((sortP_perm ps).trans h) (sortP_le ps) h2
theorem sortOk_prs {ps : List (Int × Int)} (h : ps.length ≤ 100000) : sortOk (ps.map prD) = true := by
  have h1 : ∀ d ∈ ps.map prD, ∃ p, d = prD p := fun d hd => by
    obtain ⟨p, _, rfl⟩ := List.mem_map.mp hd
    exact ⟨p, rfl⟩
  unfold sortOk
  rw [Bool.and_eq_true, Bool.and_eq_true, Bool.and_eq_true, Bool.or_eq_true]
  refine ⟨⟨⟨List.all_eq_true.mpr fun d hd => List.all_eq_true.mpr fun d' hd' => ?_, .inl (List.all_eq_true.mpr fun d hd => ?_)⟩, List.all_eq_true.mpr fun d hd => ?_⟩, ?_⟩
  · obtain ⟨p, rfl⟩ := h1 d hd
    obtain ⟨q, rfl⟩ := h1 d' hd'
    simp [prD, PySem.W.alike, PySem.W.alikeAll]
  · obtain ⟨p, rfl⟩ := h1 d hd
    rfl
  · obtain ⟨p, rfl⟩ := h1 d hd
    simp [prD, PyData.depth, PyData.depthAll]
  · rw [List.length_map]
    refine decide_eq_true ?_
    unfold bigLine
    omega
theorem gSorted_prs {ps : List (Int × Int)} (h : ps.length ≤ 100000) : gSorted [.list (ps.map prD)] = some (.tmp ((sortP ps).map prD)) := by
  simp only [gSorted, sortOk_prs h, if_true, sortD_prs]
theorem gSorted_prsT {ps : List (Int × Int)} (h : ps.length ≤ 100000) : gSorted [.tuple (ps.map prD)] = some (.tmp ((sortP ps).map prD)) := by
  simp only [gSorted, sortOk_prs h, if_true, sortD_prs]
/-! a line among lines -/
theorem eqv_pr (p q : Int × Int) : PyData.eqv (prD p) (prD q) = decide (p = q) := by
  obtain ⟨a, b⟩ := p
  obtain ⟨c, d⟩ := q
  simp only [prD, PyData.eqv, PyData.eqvAll]
  by_cases h1 : a = c
  · by_cases h2 : b = d
    · simp [h1, h2]
    · simp [h1, h2]
  · simp [h1]
theorem anyD_prs (p : Int × Int) (ps : List (Int × Int)) : anyD (prD p) (ps.map prD) = decide (p ∈ ps) := by
  unfold anyD
  rw [List.any_map]
  induction ps with
  | nil => rfl
  | cons q ps ih =>
    rw [List.any_cons, ih]
    simp only [Function.comp, eqv_pr]
    by_cases h : q = p
    · simp [h]
    · have h' : ¬ p = q := fun z => h z.symm
      simp [h, h']
theorem layAll_prs : ∀ ps : List (Int × Int), PyData.canLayAll0 (ps.map prD) = true
  | [] => by simp [PyData.canLayAll0]
  | p :: ps => by
    rw [List.map_cons]
    simp [PyData.canLayAll0, layAll_prs ps, prD, PyData.canLay0]
theorem inOk_prs (p : Int × Int) (ps : List (Int × Int)) : inOk (prD p) (ps.map prD) = true := by
  unfold inOk
  rw [layAll_prs]
  simp [prD, PyData.canLay0, PyData.canLayAll0, PyData.depth, PyData.depthAll]
theorem gIn_prs (neg : Bool) (p : Int × Int) (ps : List (Int × Int)) : gIn neg (prD p) (.tuple (ps.map prD)) = some (.val (.bool (if neg = true then !decide (p ∈ ps) else decide (p ∈ ps)))) := by
  simp only [gIn, inOk_prs, if_true, anyD_prs]
end Pu

namespace Pu.L
open PySem PySem.Spec PyProof.Rows L2 Pu

def topS (i : Nat) : Stmt := PySem.Challenge.pw_singlegates_k02_whole_lines_of_nets.main.body.getD i (.Pass ⟨0, 0, 0, 0⟩)
abbrev sis_integer : Stmt := topS 6
theorem scis_integer : FnScope ["value"] ["value"] (defScope sis_integer) := ⟨rfl, rfl, rfl, by decide +kernel, rfl, by decide +kernel, by decide +kernel⟩
abbrev sis_within : Stmt := topS 7
theorem scis_within : FnScope ["value", "least", "most"] ["value", "least", "most"] (defScope sis_within) := ⟨rfl, rfl, rfl, by decide +kernel, rfl, by decide +kernel, by decide +kernel⟩
abbrev sis_row : Stmt := topS 8
theorem scis_row : FnScope ["value", "many"] ["value", "many"] (defScope sis_row) := ⟨rfl, rfl, rfl, by decide +kernel, rfl, by decide +kernel, by decide +kernel⟩
abbrev sis_pair : Stmt := topS 9
theorem scis_pair : FnScope ["value"] ["value"] (defScope sis_pair) := ⟨rfl, rfl, rfl, by decide +kernel, rfl, by decide +kernel, by decide +kernel⟩
abbrev s_is_line : Stmt := topS 19
theorem sc_is_line : FnScope ["value", "many", "origin", "target"] ["value", "many"] (defScope s_is_line) := ⟨rfl, rfl, rfl, by decide +kernel, rfl, by decide +kernel, by decide +kernel⟩
abbrev s_is_built : Stmt := topS 18
theorem sc_is_built : FnScope ["value", "tracks", "lines"] ["value"] (defScope s_is_built) := ⟨rfl, rfl, rfl, by decide +kernel, rfl, by decide +kernel, by decide +kernel⟩
abbrev snet_error : Stmt := topS 11
theorem scnet_error : FnScope ["value", "spot", "tracks", "lines", "station", "many", "line"] ["value"] (defScope snet_error) := ⟨rfl, rfl, rfl, by decide +kernel, rfl, by decide +kernel, by decide +kernel⟩
abbrev snexts : Stmt := topS 12
theorem scnexts : FnScope ["net", "station", "origin", "target"] ["net", "station"] (defScope snexts) := ⟨rfl, rfl, rfl, by decide +kernel, rfl, by decide +kernel, by decide +kernel⟩
abbrev sbefores : Stmt := topS 13
theorem scbefores : FnScope ["net", "station", "origin", "target"] ["net", "station"] (defScope sbefores) := ⟨rfl, rfl, rfl, by decide +kernel, rfl, by decide +kernel, by decide +kernel⟩
abbrev sturned : Stmt := topS 14
theorem scturned : FnScope ["net", "tracks", "lines", "origin", "target"] ["net"] (defScope sturned) := ⟨rfl, rfl, rfl, by decide +kernel, rfl, by decide +kernel, by decide +kernel⟩
abbrev swider : Stmt := topS 15
theorem scwider : FnScope ["net", "station", "tracks", "lines"] ["net", "station"] (defScope swider) := ⟨rfl, rfl, rfl, by decide +kernel, rfl, by decide +kernel, by decide +kernel⟩
abbrev slaid : Stmt := topS 16
theorem sclaid : FnScope ["net", "origin", "target", "tracks", "lines"] ["net", "origin", "target"] (defScope slaid) := ⟨rfl, rfl, rfl, by decide +kernel, rfl, by decide +kernel, by decide +kernel⟩
abbrev sshut : Stmt := topS 17
theorem scshut : FnScope ["net", "origin", "target", "tracks", "lines", "line"] ["net", "origin", "target"] (defScope sshut) := ⟨rfl, rfl, rfl, by decide +kernel, rfl, by decide +kernel, by decide +kernel⟩
abbrev s_law_deck : Stmt := topS 21
theorem sc_law_deck : FnScope ["script", "deck", "cell", "whole", "state"] ["script"] (defScope s_law_deck) := ⟨rfl, rfl, rfl, by decide +kernel, rfl, by decide +kernel, by decide +kernel⟩
abbrev s_law_draw : Stmt := topS 22
theorem sc_law_draw : FnScope ["deck", "many", "one", "two", "whole"] ["deck", "many"] (defScope s_law_draw) := ⟨rfl, rfl, rfl, by decide +kernel, rfl, by decide +kernel, by decide +kernel⟩
abbrev s_law_pick : Stmt := topS 23
theorem sc_law_pick : FnScope ["deck", "items"] ["deck", "items"] (defScope s_law_pick) := ⟨rfl, rfl, rfl, by decide +kernel, rfl, by decide +kernel, by decide +kernel⟩
abbrev s_law_pairs : Stmt := topS 24
theorem sc_law_pairs : FnScope ["size", "found", "one", "other"] ["size"] (defScope s_law_pairs) := ⟨rfl, rfl, rfl, by decide +kernel, rfl, by decide +kernel, by decide +kernel⟩
abbrev s_law_net : Stmt := topS 25
theorem sc_law_net : FnScope ["deck", "size", "tracks", "part", "station", "pair"] ["deck", "size"] (defScope s_law_net) := ⟨rfl, rfl, rfl, by decide +kernel, rfl, by decide +kernel, by decide +kernel⟩
abbrev s_law_deed : Stmt := topS 26
theorem sc_law_deed : FnScope ["word", "net", "one", "other"] ["word", "net", "one", "other"] (defScope s_law_deed) := ⟨rfl, rfl, rfl, by decide +kernel, rfl, by decide +kernel, by decide +kernel⟩
abbrev s_law_due : Stmt := topS 27
theorem sc_law_due : FnScope ["word", "net", "one", "other", "kept", "tracks", "lines", "line"] ["word", "net", "one", "other"] (defScope s_law_due) := ⟨rfl, rfl, rfl, by decide +kernel, rfl, by decide +kernel, by decide +kernel⟩
abbrev s_law_rows_hold : Stmt := topS 28
theorem sc_law_rows_hold : FnScope ["net", "back", "station", "tracks", "lines", "out", "into", "line"] ["net"] (defScope s_law_rows_hold) := ⟨rfl, rfl, rfl, by decide +kernel, rfl, by decide +kernel, by decide +kernel⟩
abbrev s_law_is_done : Stmt := topS 29
theorem sc_law_is_done : FnScope ["word", "net", "one", "other", "due", "told", "back"] ["word", "net", "one", "other"] (defScope s_law_is_done) := ⟨rfl, rfl, rfl, by decide +kernel, rfl, by decide +kernel, by decide +kernel⟩
abbrev slaw : Stmt := topS 30
theorem sclaw : FnScope ["script", "deck", "size", "full", "net", "known", "pairs", "turn", "word", "one", "other", "station"] ["script"] (defScope slaw) := ⟨rfl, rfl, rfl, by decide +kernel, rfl, by decide +kernel, by decide +kernel⟩
/-- what the top has laid down -/
structure T (K : PySem.W.Frag) (mg : Str → Option Value) where
  b_abs : mg "abs" = none
  b_bool : mg "bool" = none
  b_enumerate : mg "enumerate" = none
  b_int : mg "int" = none
  b_isinstance : mg "isinstance" = none
  b_len : mg "len" = none
  b_range : mg "range" = none
  b_repr : mg "repr" = none
  b_sorted : mg "sorted" = none
  b_tuple : mg "tuple" = none
  t_MAX_STATIONS : Tok
  c_MAX_STATIONS : mg "MAX_STATIONS" = some (.int 10 t_MAX_STATIONS)
  t_MAX_TRACKS : Tok
  c_MAX_TRACKS : mg "MAX_TRACKS" = some (.int 4 t_MAX_TRACKS)
  a_is_integer : Addr
  d_is_integer : FuncData
  F_is_integer : Fun K "is_integer" "is_integer" sis_integer a_is_integer d_is_integer
  g_is_integer : mg "is_integer" = some (.ref a_is_integer)
  n_is_integer : Binds K d_is_integer ["value"] []
  a_is_within : Addr
  d_is_within : FuncData
  F_is_within : Fun K "is_within" "is_within" sis_within a_is_within d_is_within
  g_is_within : mg "is_within" = some (.ref a_is_within)
  n_is_within : Binds K d_is_within ["value", "least", "most"] []
  a_is_row : Addr
  d_is_row : FuncData
  F_is_row : Fun K "is_row" "is_row" sis_row a_is_row d_is_row
  g_is_row : mg "is_row" = some (.ref a_is_row)
  n_is_row : Binds K d_is_row ["value", "many"] []
  a_is_pair : Addr
  d_is_pair : FuncData
  F_is_pair : Fun K "is_pair" "is_pair" sis_pair a_is_pair d_is_pair
  g_is_pair : mg "is_pair" = some (.ref a_is_pair)
  n_is_pair : Binds K d_is_pair ["value"] []
  a__is_line : Addr
  d__is_line : FuncData
  F__is_line : Fun K "_is_line" "_is_line" s_is_line a__is_line d__is_line
  g__is_line : mg "_is_line" = some (.ref a__is_line)
  n__is_line : Binds K d__is_line ["value", "many"] []
  a__is_built : Addr
  d__is_built : FuncData
  F__is_built : Fun K "_is_built" "_is_built" s_is_built a__is_built d__is_built
  g__is_built : mg "_is_built" = some (.ref a__is_built)
  n__is_built : Binds K d__is_built ["value"] []
  a_net_error : Addr
  d_net_error : FuncData
  F_net_error : Fun K "net_error" "net_error" snet_error a_net_error d_net_error
  g_net_error : mg "net_error" = some (.ref a_net_error)
  n_net_error : Binds K d_net_error ["value"] []
  a_nexts : Addr
  d_nexts : FuncData
  F_nexts : Fun K "nexts" "nexts" snexts a_nexts d_nexts
  g_nexts : mg "nexts" = some (.ref a_nexts)
  n_nexts : Binds K d_nexts ["net", "station"] []
  a_befores : Addr
  d_befores : FuncData
  F_befores : Fun K "befores" "befores" sbefores a_befores d_befores
  g_befores : mg "befores" = some (.ref a_befores)
  n_befores : Binds K d_befores ["net", "station"] []
  a_turned : Addr
  d_turned : FuncData
  F_turned : Fun K "turned" "turned" sturned a_turned d_turned
  g_turned : mg "turned" = some (.ref a_turned)
  n_turned : Binds K d_turned ["net"] []
  a_wider : Addr
  d_wider : FuncData
  F_wider : Fun K "wider" "wider" swider a_wider d_wider
  g_wider : mg "wider" = some (.ref a_wider)
  n_wider : Binds K d_wider ["net", "station"] []
  a_laid : Addr
  d_laid : FuncData
  F_laid : Fun K "laid" "laid" slaid a_laid d_laid
  g_laid : mg "laid" = some (.ref a_laid)
  n_laid : Binds K d_laid ["net", "origin", "target"] []
  a_shut : Addr
  d_shut : FuncData
  F_shut : Fun K "shut" "shut" sshut a_shut d_shut
  g_shut : mg "shut" = some (.ref a_shut)
  n_shut : Binds K d_shut ["net", "origin", "target"] []
  a__law_deck : Addr
  d__law_deck : FuncData
  F__law_deck : Fun K "_law_deck" "_law_deck" s_law_deck a__law_deck d__law_deck
  g__law_deck : mg "_law_deck" = some (.ref a__law_deck)
  n__law_deck : Binds K d__law_deck ["script"] []
  a__law_draw : Addr
  d__law_draw : FuncData
  F__law_draw : Fun K "_law_draw" "_law_draw" s_law_draw a__law_draw d__law_draw
  g__law_draw : mg "_law_draw" = some (.ref a__law_draw)
  n__law_draw : Binds K d__law_draw ["deck", "many"] []
  a__law_pick : Addr
  d__law_pick : FuncData
  F__law_pick : Fun K "_law_pick" "_law_pick" s_law_pick a__law_pick d__law_pick
  g__law_pick : mg "_law_pick" = some (.ref a__law_pick)
  n__law_pick : Binds K d__law_pick ["deck", "items"] []
  a__law_pairs : Addr
  d__law_pairs : FuncData
  F__law_pairs : Fun K "_law_pairs" "_law_pairs" s_law_pairs a__law_pairs d__law_pairs
  g__law_pairs : mg "_law_pairs" = some (.ref a__law_pairs)
  n__law_pairs : Binds K d__law_pairs ["size"] []
  a__law_net : Addr
  d__law_net : FuncData
  F__law_net : Fun K "_law_net" "_law_net" s_law_net a__law_net d__law_net
  g__law_net : mg "_law_net" = some (.ref a__law_net)
  n__law_net : Binds K d__law_net ["deck", "size"] []
  a__law_deed : Addr
  d__law_deed : FuncData
  F__law_deed : Fun K "_law_deed" "_law_deed" s_law_deed a__law_deed d__law_deed
  g__law_deed : mg "_law_deed" = some (.ref a__law_deed)
  n__law_deed : Binds K d__law_deed ["word", "net", "one", "other"] []
  a__law_due : Addr
  d__law_due : FuncData
  F__law_due : Fun K "_law_due" "_law_due" s_law_due a__law_due d__law_due
  g__law_due : mg "_law_due" = some (.ref a__law_due)
  n__law_due : Binds K d__law_due ["word", "net", "one", "other"] []
  a__law_rows_hold : Addr
  d__law_rows_hold : FuncData
  F__law_rows_hold : Fun K "_law_rows_hold" "_law_rows_hold" s_law_rows_hold a__law_rows_hold d__law_rows_hold
  g__law_rows_hold : mg "_law_rows_hold" = some (.ref a__law_rows_hold)
  n__law_rows_hold : Binds K d__law_rows_hold ["net"] []
  a__law_is_done : Addr
  d__law_is_done : FuncData
  F__law_is_done : Fun K "_law_is_done" "_law_is_done" s_law_is_done a__law_is_done d__law_is_done
  g__law_is_done : mg "_law_is_done" = some (.ref a__law_is_done)
  n__law_is_done : Binds K d__law_is_done ["word", "net", "one", "other"] []
  e_Unfit : Addr
  xe_Unfit : PySem.W.excIn K e_Unfit HandSPX.veTail "ValueError.__new__" = true
  ge_Unfit : mg "Unfit" = some (.ref e_Unfit)
  ke_Unfit : PySem.W.keepIn K (.ref e_Unfit) = true
  be_Unfit : PySem.W.subIn K (.ref e_Unfit) (.type "BaseException") = some true
  te_Unfit : PySem.W.typeIn K (.ref e_Unfit) = some (.type "type")
  me_Unfit_Unfit : PySem.W.exmOne K (.ref e_Unfit) (.ref e_Unfit) = some true
def cvT {K : PySem.W.Frag} {mg : Str → Option Value} (t : T K mg) : Value → Value := cvOf [("Unfit", t.e_Unfit)]
theorem cv_Unfit {K : PySem.W.Frag} {mg : Str → Option Value} (t : T K mg) : cvT t (.type "Unfit") = .ref t.e_Unfit := rfl
def mt_Unfit : Value → Option Bool := mtch [("Unfit", true)]
theorem MT_Unfit {K : PySem.W.Frag} {mg : Str → Option Value} (t : T K mg) : MtOk K (cvT t) mt_Unfit (.ref t.e_Unfit) := mtch_ok (List.forall_mem_cons.mpr ⟨t.me_Unfit_Unfit, (fun _ h => nomatch h)⟩)
def F__law_draw : Ab → List D → FR × Ab := F_draw1 "deep" "state"
def g_is_integer : PM Out :=
(sRet (vAnd (eIsi "int" (eVar 0)) (vNot (eIsi "bool" (eVar 0)))))
def F_is_integer : List D → FR := runA 1 g_is_integer
def g_is_within : PM Out :=
(sRet (vAnd (eCallA F_is_integer (bnd (kept (eVar 0)) fun d => bnd (ret []) fun ds => ret (d :: ds))) (eChain gLe gLe (eVar 1) (eVar 0) (eVar 2))))
def F_is_within : List D → FR := runA 3 g_is_within
def g_is_row : PM Out :=
(sRet (vAnd (eIsi "tuple" (eVar 0)) (eBin (gEq false) (eBi gLen (bnd (opn (eVar 0)) fun o => bnd (ret []) fun os => ret (o :: os))) (eVar 1))))
def F_is_row : List D → FR := runA 2 g_is_row
def g_is_pair : PM Out :=
(sRet (eCallA F_is_row (bnd (kept (eVar 0)) fun d => bnd (bnd (kept (ret (.val (.int 2)))) fun d => bnd (ret []) fun ds => ret (d :: ds)) fun ds => ret (d :: ds))))
def F_is_pair : List D → FR := runA 1 g_is_pair
def g__is_line : PM Out :=
(sSeq (sIf (bNot (eTruth (eCallA F_is_pair (bnd (kept (eVar 0)) fun d => bnd (ret []) fun ds => ret (d :: ds)))))
(sRet (ret (.val (.bool false))))
(ret .next))
(sSeq (sAsg (tgTup 2 (tgCons (tgName 2) (tgCons (tgName 3) tgNil))) (eVar 0))
(sRet (vAnd (eCallA F_is_within (bnd (kept (eVar 2)) fun d => bnd (bnd (kept (ret (.val (.int 0)))) fun d => bnd (bnd (kept (eBin gSub (eVar 1) (ret (.val (.int 1))))) fun d => bnd (ret []) fun ds => ret (d :: ds)) fun ds => ret (d :: ds)) fun ds => ret (d :: ds))) (vAnd (eCallA F_is_within (bnd (kept (eVar 3)) fun d => bnd (bnd (kept (ret (.val (.int 0)))) fun d => bnd (bnd (kept (eBin gSub (eVar 1) (ret (.val (.int 1))))) fun d => bnd (ret []) fun ds => ret (d :: ds)) fun ds => ret (d :: ds)) fun ds => ret (d :: ds))) (eBin (gEq true) (eVar 2) (eVar 3)))))))
def F__is_line : List D → FR := runA 4 g__is_line
def g__is_built : PM Out :=
(sSeq (sIf (bNot (eTruth (eCallA F_is_pair (bnd (kept (eVar 0)) fun d => bnd (ret []) fun ds => ret (d :: ds)))))
(sRet (ret (.val (.bool false))))
(ret .next))
(sSeq (sAsg (tgTup 2 (tgCons (tgName 1) (tgCons (tgName 2) tgNil))) (eVar 0))
(sSeq (sIf (bOr (bNot (eTruth (eIsi "tuple" (eVar 1)))) (bNot (eTruth (eIsi "tuple" (eVar 2)))))
(sRet (ret (.val (.bool false))))
(ret .next))
(sRet (eChain gLe gLe (ret (.val (.int 1))) (eBi gLen (bnd (opn (eVar 1)) fun o => bnd (ret []) fun os => ret (o :: os))) (ret (.val (.int 10))))))))
def F__is_built : List D → FR := runA 3 g__is_built
def B_net_error_0 : PM Out :=
(sIf (eTest (eBin gLe (eBin gIx (eVar 3) (eVar 1)) (eBin gIx (eVar 3) (eBin gSub (eVar 1) (ret (.val (.int 1)))))))
(sRet (eTup (bnd (kept (ret (.val (.str "order")))) fun d => bnd (bnd (kept (eVar 1)) fun d => bnd (ret []) fun ds => ret (d :: ds)) fun ds => ret (d :: ds))))
(ret .next))
def B_net_error_1 : PM Out :=
(sIf (bNot (eTruth (eCallA F__is_line (bnd (kept (eVar 6)) fun d => bnd (bnd (kept (eBi gLen (bnd (opn (eVar 2)) fun o => bnd (ret []) fun os => ret (o :: os)))) fun d => bnd (ret []) fun ds => ret (d :: ds)) fun ds => ret (d :: ds)))))
(sRet (eTup (bnd (kept (ret (.val (.str "line")))) fun d => bnd (bnd (kept (eVar 1)) fun d => bnd (ret []) fun ds => ret (d :: ds)) fun ds => ret (d :: ds))))
(ret .next))
def B_net_error_2 : PM Out :=
(sIf (bNot (eTruth (eCallA F_is_within (bnd (kept (eVar 5)) fun d => bnd (bnd (kept (ret (.val (.int 1)))) fun d => bnd (bnd (kept (ret (.val (.int 4)))) fun d => bnd (ret []) fun ds => ret (d :: ds)) fun ds => ret (d :: ds)) fun ds => ret (d :: ds)))))
(sRet (eTup (bnd (kept (ret (.val (.str "tracks")))) fun d => bnd (bnd (kept (eVar 4)) fun d => bnd (ret []) fun ds => ret (d :: ds)) fun ds => ret (d :: ds))))
(ret .next))
def g_net_error : PM Out :=
(sSeq (sIf (bNot (eTruth (eCallA F__is_built (bnd (kept (eVar 0)) fun d => bnd (ret []) fun ds => ret (d :: ds)))))
(sRet (ret (.val (.str "form"))))
(ret .next))
(sSeq (sAsg (tgTup 2 (tgCons (tgName 2) (tgCons (tgName 3) tgNil))) (eVar 0))
(sSeq (sFor (eEnum (eVar 2)) (tgTup 2 (tgCons (tgName 4) (tgCons (tgName 5) tgNil))) B_net_error_2)
(sSeq (sFor (eEnum (eVar 3)) (tgTup 2 (tgCons (tgName 1) (tgCons (tgName 6) tgNil))) B_net_error_1)
(sSeq (sFor (eRng2 (bnd (kept (ret (.val (.int 1)))) fun d => bnd (bnd (kept (eBi gLen (bnd (opn (eVar 3)) fun o => bnd (ret []) fun os => ret (o :: os)))) fun d => bnd (ret []) fun ds => ret (d :: ds)) fun ds => ret (d :: ds))) (tgName 1) B_net_error_0)
(sRet (ret (.val .none))))))))
def F_net_error : List D → FR := runA 7 g_net_error
def D_nexts_0 : PM Bool :=
(eTest (eBin (gEq false) (eVar 2) (eVar 1)))
def C_nexts_1 : PM Opd :=
(eVar 3)
def g_nexts : PM Out :=
(sRet (eBi gTuple (bnd (opn (eLc (eIter (eBin gIx (eVar 0) (ret (.val (.int 1))))) [2, 3] (tgTup 2 (tgCons (tgName 2) (tgCons (tgName 3) tgNil))) D_nexts_0 C_nexts_1)) fun o => bnd (ret []) fun os => ret (o :: os))))
def F_nexts : List D → FR := runA 4 g_nexts
def D_befores_0 : PM Bool :=
(eTest (eBin (gEq false) (eVar 3) (eVar 1)))
def C_befores_1 : PM Opd :=
(eVar 2)
def g_befores : PM Out :=
(sRet (eBi gTuple (bnd (opn (eLc (eIter (eBin gIx (eVar 0) (ret (.val (.int 1))))) [2, 3] (tgTup 2 (tgCons (tgName 2) (tgCons (tgName 3) tgNil))) D_befores_0 C_befores_1)) fun o => bnd (ret []) fun os => ret (o :: os))))
def F_befores : List D → FR := runA 4 g_befores
def C_turned_0 : PM Opd :=
(eTup (bnd (kept (eVar 4)) fun d => bnd (bnd (kept (eVar 3)) fun d => bnd (ret []) fun ds => ret (d :: ds)) fun ds => ret (d :: ds)))
def g_turned : PM Out :=
(sSeq (sAsg (tgTup 2 (tgCons (tgName 1) (tgCons (tgName 2) tgNil))) (eVar 0))
(sRet (eTup (bnd (kept (eVar 1)) fun d => bnd (bnd (kept (eBi gTuple (bnd (opn (eBi gSorted (bnd (opn (eLc (eIter (eVar 2)) [3, 4] (tgTup 2 (tgCons (tgName 3) (tgCons (tgName 4) tgNil))) (ret true) C_turned_0)) fun o => bnd (ret []) fun os => ret (o :: os)))) fun o => bnd (ret []) fun os => ret (o :: os)))) fun d => bnd (ret []) fun ds => ret (d :: ds)) fun ds => ret (d :: ds)))))
def F_turned : List D → FR := runA 5 g_turned
def g_wider : PM Out :=
(sSeq (sAsg (tgTup 2 (tgCons (tgName 2) (tgCons (tgName 3) tgNil))) (eVar 0))
(sSeq (sIf (eTest (eBin (gEq false) (eBin gIx (eVar 2) (eVar 1)) (ret (.val (.int 4)))))
(sRaise0 "Unfit")
(ret .next))
(sRet (eTup (bnd (kept (eBin gAdd (eBin gAdd (eSl gSl (eVar 2) (ret none) (bnd (eVar 1) toPart)) (eTup (bnd (kept (eBin gAdd (eBin gIx (eVar 2) (eVar 1)) (ret (.val (.int 1))))) fun d => bnd (ret []) fun ds => ret (d :: ds)))) (eSl gSl (eVar 2) (bnd (eBin gAdd (eVar 1) (ret (.val (.int 1)))) toPart) (ret none)))) fun d => bnd (bnd (kept (eVar 3)) fun d => bnd (ret []) fun ds => ret (d :: ds)) fun ds => ret (d :: ds))))))
def F_wider : List D → FR := runA 4 g_wider
def g_laid : PM Out :=
(sSeq (sAsg (tgTup 2 (tgCons (tgName 3) (tgCons (tgName 4) tgNil))) (eVar 0))
(sSeq (sIf (bOr (eTest (eBin (gEq false) (eVar 1) (eVar 2))) (eTest (eBin (gIn false) (eTup (bnd (kept (eVar 1)) fun d => bnd (bnd (kept (eVar 2)) fun d => bnd (ret []) fun ds => ret (d :: ds)) fun ds => ret (d :: ds))) (eVar 4))))
(sRaise0 "Unfit")
(ret .next))
(sRet (eTup (bnd (kept (eVar 3)) fun d => bnd (bnd (kept (eBi gTuple (bnd (opn (eBi gSorted (bnd (opn (eBin gAdd (eVar 4) (eTup (bnd (kept (eTup (bnd (kept (eVar 1)) fun d => bnd (bnd (kept (eVar 2)) fun d => bnd (ret []) fun ds => ret (d :: ds)) fun ds => ret (d :: ds)))) fun d => bnd (ret []) fun ds => ret (d :: ds))))) fun o => bnd (ret []) fun os => ret (o :: os)))) fun o => bnd (ret []) fun os => ret (o :: os)))) fun d => bnd (ret []) fun ds => ret (d :: ds)) fun ds => ret (d :: ds))))))
def F_laid : List D → FR := runA 5 g_laid
def D_shut_0 : PM Bool :=
(eTest (eBin (gEq true) (eVar 5) (eTup (bnd (kept (eVar 1)) fun d => bnd (bnd (kept (eVar 2)) fun d => bnd (ret []) fun ds => ret (d :: ds)) fun ds => ret (d :: ds)))))
def C_shut_1 : PM Opd :=
(eVar 5)
def g_shut : PM Out :=
(sSeq (sAsg (tgTup 2 (tgCons (tgName 3) (tgCons (tgName 4) tgNil))) (eVar 0))
(sSeq (sIf (eTest (eBin (gIn true) (eTup (bnd (kept (eVar 1)) fun d => bnd (bnd (kept (eVar 2)) fun d => bnd (ret []) fun ds => ret (d :: ds)) fun ds => ret (d :: ds))) (eVar 4)))
(sRaise0 "Unfit")
(ret .next))
(sRet (eTup (bnd (kept (eVar 3)) fun d => bnd (bnd (kept (eBi gTuple (bnd (opn (eLc (eIter (eVar 4)) [5] (tgName 5) D_shut_0 C_shut_1)) fun o => bnd (ret []) fun os => ret (o :: os)))) fun d => bnd (ret []) fun ds => ret (d :: ds)) fun ds => ret (d :: ds))))))
def F_shut : List D → FR := runA 6 g_shut
def g__law_pick : PM Out :=
(sRet (eBin gIx (eVar 1) (eCallB 0 F__law_draw (bnd (kept (eBi gLen (bnd (opn (eVar 1)) fun o => bnd (ret []) fun os => ret (o :: os)))) fun d => bnd (ret []) fun ds => ret (d :: ds)))))
def F__law_pick : Ab → List D → FR × Ab := runB 2 g__law_pick
def D__law_pairs_0 : PM Bool :=
(eTest (eBin (gEq true) (eVar 3) (eVar 2)))
def C__law_pairs_1 : PM Opd :=
(eTup (bnd (kept (eVar 2)) fun d => bnd (bnd (kept (eVar 3)) fun d => bnd (ret []) fun ds => ret (d :: ds)) fun ds => ret (d :: ds)))
def B__law_pairs_2 : PM Out :=
(sExpr (eExt 1 (eLc (eRng1 (bnd (kept (eVar 0)) fun d => bnd (ret []) fun ds => ret (d :: ds))) [3] (tgName 3) D__law_pairs_0 C__law_pairs_1)))
def g__law_pairs : PM Out :=
(sSeq (sSet 1 (eLst (ret [])))
(sSeq (sFor (eRng1 (bnd (kept (eVar 0)) fun d => bnd (ret []) fun ds => ret (d :: ds))) (tgName 2) B__law_pairs_2)
(sRet (eVar 1))))
def F__law_pairs : List D → FR := runA 4 g__law_pairs
def D__law_net_0 : PM Bool :=
(eTest (eBin gLt (eCallB 0 F__law_draw (bnd (kept (ret (.val (.int 6)))) fun d => bnd (ret []) fun ds => ret (d :: ds))) (eVar 3)))
def C__law_net_1 : PM Opd :=
(eVar 5)
def C__law_net_2 : PM Opd :=
(eCallB 0 F__law_pick (bnd (kept (eLst (bnd (kept (ret (.val (.int 1)))) fun d => bnd (bnd (kept (ret (.val (.int 1)))) fun d => bnd (bnd (kept (ret (.val (.int 1)))) fun d => bnd (bnd (kept (ret (.val (.int 2)))) fun d => bnd (bnd (kept (ret (.val (.int 2)))) fun d => bnd (bnd (kept (ret (.val (.int 3)))) fun d => bnd (bnd (kept (ret (.val (.int 4)))) fun d => bnd (ret []) fun ds => ret (d :: ds)) fun ds => ret (d :: ds)) fun ds => ret (d :: ds)) fun ds => ret (d :: ds)) fun ds => ret (d :: ds)) fun ds => ret (d :: ds)) fun ds => ret (d :: ds)))) fun d => bnd (ret []) fun ds => ret (d :: ds)))
def g__law_net : PM Out :=
(sSeq (sSet 2 (eBi gTuple (bnd (opn (eLc (eRng1 (bnd (kept (eVar 1)) fun d => bnd (ret []) fun ds => ret (d :: ds))) [4] (tgName 4) (ret true) C__law_net_2)) fun o => bnd (ret []) fun os => ret (o :: os))))
(sSeq (sSet 3 (eCallB 0 F__law_pick (bnd (kept (eLst (bnd (kept (ret (.val (.int 1)))) fun d => bnd (bnd (kept (ret (.val (.int 2)))) fun d => bnd (bnd (kept (ret (.val (.int 2)))) fun d => bnd (bnd (kept (ret (.val (.int 3)))) fun d => bnd (bnd (kept (ret (.val (.int 6)))) fun d => bnd (ret []) fun ds => ret (d :: ds)) fun ds => ret (d :: ds)) fun ds => ret (d :: ds)) fun ds => ret (d :: ds)) fun ds => ret (d :: ds)))) fun d => bnd (ret []) fun ds => ret (d :: ds))))
(sRet (eTup (bnd (kept (eVar 2)) fun d => bnd (bnd (kept (eBi gTuple (bnd (opn (eLc (eIter (eCallA F__law_pairs (bnd (kept (eVar 1)) fun d => bnd (ret []) fun ds => ret (d :: ds)))) [5] (tgName 5) D__law_net_0 C__law_net_1)) fun o => bnd (ret []) fun os => ret (o :: os)))) fun d => bnd (ret []) fun ds => ret (d :: ds)) fun ds => ret (d :: ds))))))
def F__law_net : Ab → List D → FR × Ab := runB 6 g__law_net
def g__law_deed : PM Out :=
(sTry mt_Unfit
(sSeq (sIf (eTest (eBin (gEq false) (eVar 0) (ret (.val (.str "wider")))))
(sRet (eCallA F_wider (bnd (kept (eVar 1)) fun d => bnd (bnd (kept (eVar 2)) fun d => bnd (ret []) fun ds => ret (d :: ds)) fun ds => ret (d :: ds))))
(ret .next))
(sRet (eIf (eTest (eBin (gEq false) (eVar 0) (ret (.val (.str "laid"))))) (eCallA F_laid (bnd (kept (eVar 1)) fun d => bnd (bnd (kept (eVar 2)) fun d => bnd (bnd (kept (eVar 3)) fun d => bnd (ret []) fun ds => ret (d :: ds)) fun ds => ret (d :: ds)) fun ds => ret (d :: ds))) (eCallA F_shut (bnd (kept (eVar 1)) fun d => bnd (bnd (kept (eVar 2)) fun d => bnd (bnd (kept (eVar 3)) fun d => bnd (ret []) fun ds => ret (d :: ds)) fun ds => ret (d :: ds)) fun ds => ret (d :: ds))))))
(sRet (ret (.val (.str "unfit")))))
def F__law_deed : List D → FR := fun ds => noX (runA 4 g__law_deed ds)
def D__law_due_0 : PM Bool :=
(eTest (eBin (gEq true) (eVar 7) (eTup (bnd (kept (eVar 2)) fun d => bnd (bnd (kept (eVar 3)) fun d => bnd (ret []) fun ds => ret (d :: ds)) fun ds => ret (d :: ds)))))
def C__law_due_1 : PM Opd :=
(eVar 7)
def g__law_due : PM Out :=
(sSeq (sAsg (tgTup 2 (tgCons (tgName 5) (tgCons (tgName 6) tgNil))) (eVar 1))
(sSeq (sIf (eTest (eBin (gEq false) (eVar 0) (ret (.val (.str "wider")))))
(sRet (eIf (eTest (eBin (gEq false) (eBin gIx (eVar 5) (eVar 2)) (ret (.val (.int 4))))) (ret (.val (.str "unfit"))) (eTup (bnd (kept (eBin gAdd (eBin gAdd (eSl gSl (eVar 5) (ret none) (bnd (eVar 2) toPart)) (eTup (bnd (kept (eBin gAdd (eBin gIx (eVar 5) (eVar 2)) (ret (.val (.int 1))))) fun d => bnd (ret []) fun ds => ret (d :: ds)))) (eSl gSl (eVar 5) (bnd (eBin gAdd (eVar 2) (ret (.val (.int 1)))) toPart) (ret none)))) fun d => bnd (bnd (kept (eVar 6)) fun d => bnd (ret []) fun ds => ret (d :: ds)) fun ds => ret (d :: ds)))))
(ret .next))
(sSeq (sIf (eTest (eBin (gEq false) (eVar 0) (ret (.val (.str "laid")))))
(sRet (eIf (bOr (eTest (eBin (gEq false) (eVar 2) (eVar 3))) (eTest (eBin (gIn false) (eTup (bnd (kept (eVar 2)) fun d => bnd (bnd (kept (eVar 3)) fun d => bnd (ret []) fun ds => ret (d :: ds)) fun ds => ret (d :: ds))) (eVar 6)))) (ret (.val (.str "unfit"))) (eTup (bnd (kept (eVar 5)) fun d => bnd (bnd (kept (eBi gTuple (bnd (opn (eBi gSorted (bnd (opn (eBin gAdd (eVar 6) (eTup (bnd (kept (eTup (bnd (kept (eVar 2)) fun d => bnd (bnd (kept (eVar 3)) fun d => bnd (ret []) fun ds => ret (d :: ds)) fun ds => ret (d :: ds)))) fun d => bnd (ret []) fun ds => ret (d :: ds))))) fun o => bnd (ret []) fun os => ret (o :: os)))) fun o => bnd (ret []) fun os => ret (o :: os)))) fun d => bnd (ret []) fun ds => ret (d :: ds)) fun ds => ret (d :: ds)))))
(ret .next))
(sSeq (sSet 4 (eBi gTuple (bnd (opn (eLc (eIter (eVar 6)) [7] (tgName 7) D__law_due_0 C__law_due_1)) fun o => bnd (ret []) fun os => ret (o :: os))))
(sRet (eIf (eTest (eBin (gEq false) (eBi gLen (bnd (opn (eVar 4)) fun o => bnd (ret []) fun os => ret (o :: os))) (eBi gLen (bnd (opn (eVar 6)) fun o => bnd (ret []) fun os => ret (o :: os))))) (ret (.val (.str "unfit"))) (eTup (bnd (kept (eVar 5)) fun d => bnd (bnd (kept (eVar 4)) fun d => bnd (ret []) fun ds => ret (d :: ds)) fun ds => ret (d :: ds)))))))))
def F__law_due : List D → FR := runA 8 g__law_due
def D__law_rows_hold_0 : PM Bool :=
(eTest (eBin (gEq false) (eBin gIx (eVar 7) (ret (.val (.int 1)))) (eVar 2)))
def C__law_rows_hold_1 : PM Opd :=
(eBin gIx (eVar 7) (ret (.val (.int 0))))
def D__law_rows_hold_2 : PM Bool :=
(eTest (eBin (gEq false) (eBin gIx (eVar 7) (ret (.val (.int 0)))) (eVar 2)))
def C__law_rows_hold_3 : PM Opd :=
(eBin gIx (eVar 7) (ret (.val (.int 1))))
def B__law_rows_hold_4 : PM Out :=
(sSeq (sSet 5 (eBi gTuple (bnd (opn (eLc (eIter (eVar 4)) [7] (tgName 7) D__law_rows_hold_2 C__law_rows_hold_3)) fun o => bnd (ret []) fun os => ret (o :: os))))
(sSeq (sSet 6 (eBi gTuple (bnd (opn (eLc (eIter (eVar 4)) [7] (tgName 7) D__law_rows_hold_0 C__law_rows_hold_1)) fun o => bnd (ret []) fun os => ret (o :: os))))
(sSeq (sIf (eTest (eBin (gEq true) (eBi gRepr (bnd (opn (eLst (bnd (kept (eCallA F_nexts (bnd (kept (eVar 0)) fun d => bnd (bnd (kept (eVar 2)) fun d => bnd (ret []) fun ds => ret (d :: ds)) fun ds => ret (d :: ds)))) fun d => bnd (bnd (kept (eCallA F_befores (bnd (kept (eVar 0)) fun d => bnd (bnd (kept (eVar 2)) fun d => bnd (ret []) fun ds => ret (d :: ds)) fun ds => ret (d :: ds)))) fun d => bnd (ret []) fun ds => ret (d :: ds)) fun ds => ret (d :: ds)))) fun o => bnd (ret []) fun os => ret (o :: os))) (eBi gRepr (bnd (opn (eLst (bnd (kept (eVar 5)) fun d => bnd (bnd (kept (eVar 6)) fun d => bnd (ret []) fun ds => ret (d :: ds)) fun ds => ret (d :: ds)))) fun o => bnd (ret []) fun os => ret (o :: os)))))
(sRet (ret (.val (.bool false))))
(ret .next))
(sIf (eTest (eBin (gEq true) (eBi gRepr (bnd (opn (eLst (bnd (kept (eCallA F_nexts (bnd (kept (eVar 1)) fun d => bnd (bnd (kept (eVar 2)) fun d => bnd (ret []) fun ds => ret (d :: ds)) fun ds => ret (d :: ds)))) fun d => bnd (bnd (kept (eCallA F_befores (bnd (kept (eVar 1)) fun d => bnd (bnd (kept (eVar 2)) fun d => bnd (ret []) fun ds => ret (d :: ds)) fun ds => ret (d :: ds)))) fun d => bnd (ret []) fun ds => ret (d :: ds)) fun ds => ret (d :: ds)))) fun o => bnd (ret []) fun os => ret (o :: os))) (eBi gRepr (bnd (opn (eLst (bnd (kept (eVar 6)) fun d => bnd (bnd (kept (eVar 5)) fun d => bnd (ret []) fun ds => ret (d :: ds)) fun ds => ret (d :: ds)))) fun o => bnd (ret []) fun os => ret (o :: os)))))
(sRet (ret (.val (.bool false))))
(ret .next)))))
def C__law_rows_hold_5 : PM Opd :=
(eTup (bnd (kept (eBin gIx (eVar 7) (ret (.val (.int 1))))) fun d => bnd (bnd (kept (eBin gIx (eVar 7) (ret (.val (.int 0))))) fun d => bnd (ret []) fun ds => ret (d :: ds)) fun ds => ret (d :: ds)))
def g__law_rows_hold : PM Out :=
(sSeq (sAsg (tgTup 2 (tgCons (tgName 3) (tgCons (tgName 4) tgNil))) (eVar 0))
(sSeq (sSet 1 (eTup (bnd (kept (eVar 3)) fun d => bnd (bnd (kept (eBi gTuple (bnd (opn (eBi gSorted (bnd (opn (eLc (eIter (eVar 4)) [7] (tgName 7) (ret true) C__law_rows_hold_5)) fun o => bnd (ret []) fun os => ret (o :: os)))) fun o => bnd (ret []) fun os => ret (o :: os)))) fun d => bnd (ret []) fun ds => ret (d :: ds)) fun ds => ret (d :: ds))))
(sSeq (sIf (bOr (eTest (eBin (gEq true) (eBi gRepr (bnd (opn (eCallA F_turned (bnd (kept (eVar 0)) fun d => bnd (ret []) fun ds => ret (d :: ds)))) fun o => bnd (ret []) fun os => ret (o :: os))) (eBi gRepr (bnd (opn (eVar 1)) fun o => bnd (ret []) fun os => ret (o :: os))))) (eTest (eBin (gEq true) (eBi gRepr (bnd (opn (eCallA F_turned (bnd (kept (eCallA F_turned (bnd (kept (eVar 0)) fun d => bnd (ret []) fun ds => ret (d :: ds)))) fun d => bnd (ret []) fun ds => ret (d :: ds)))) fun o => bnd (ret []) fun os => ret (o :: os))) (eBi gRepr (bnd (opn (eVar 0)) fun o => bnd (ret []) fun os => ret (o :: os))))))
(sRet (ret (.val (.bool false))))
(ret .next))
(sSeq (sFor (eRng1 (bnd (kept (eBi gLen (bnd (opn (eVar 3)) fun o => bnd (ret []) fun os => ret (o :: os)))) fun d => bnd (ret []) fun ds => ret (d :: ds))) (tgName 2) B__law_rows_hold_4)
(sRet (ret (.val (.bool true))))))))
def F__law_rows_hold : List D → FR := runA 8 g__law_rows_hold
def g__law_is_done : PM Out :=
(sSeq (sSet 4 (eCallA F__law_due (bnd (kept (eVar 0)) fun d => bnd (bnd (kept (eVar 1)) fun d => bnd (bnd (kept (eVar 2)) fun d => bnd (bnd (kept (eVar 3)) fun d => bnd (ret []) fun ds => ret (d :: ds)) fun ds => ret (d :: ds)) fun ds => ret (d :: ds)) fun ds => ret (d :: ds))))
(sSeq (sSet 5 (eCallA F__law_deed (bnd (kept (eVar 0)) fun d => bnd (bnd (kept (eVar 1)) fun d => bnd (bnd (kept (eVar 2)) fun d => bnd (bnd (kept (eVar 3)) fun d => bnd (ret []) fun ds => ret (d :: ds)) fun ds => ret (d :: ds)) fun ds => ret (d :: ds)) fun ds => ret (d :: ds))))
(sSeq (sIf (bOr (eTest (eBin (gEq true) (eBi gRepr (bnd (opn (eVar 5)) fun o => bnd (ret []) fun os => ret (o :: os))) (eBi gRepr (bnd (opn (eVar 4)) fun o => bnd (ret []) fun os => ret (o :: os))))) (eTest (eBin (gEq true) (eBi gRepr (bnd (opn (eCallA F__law_deed (bnd (kept (eVar 0)) fun d => bnd (bnd (kept (eVar 1)) fun d => bnd (bnd (kept (eVar 2)) fun d => bnd (bnd (kept (eVar 3)) fun d => bnd (ret []) fun ds => ret (d :: ds)) fun ds => ret (d :: ds)) fun ds => ret (d :: ds)) fun ds => ret (d :: ds)))) fun o => bnd (ret []) fun os => ret (o :: os))) (eBi gRepr (bnd (opn (eVar 4)) fun o => bnd (ret []) fun os => ret (o :: os))))))
(sRet (ret (.val (.bool false))))
(ret .next))
(sSeq (sIf (bOr (eTest (eBin (gEq false) (eVar 4) (ret (.val (.str "unfit"))))) (eTest (eBin (gEq false) (eVar 0) (ret (.val (.str "wider"))))))
(sRet (ret (.val (.bool true))))
(ret .next))
(sSeq (sIf (eTest (eBin (gIsN true) (eCallA F_net_error (bnd (kept (eVar 5)) fun d => bnd (ret []) fun ds => ret (d :: ds))) (ret (.val .none))))
(sRet (ret (.val (.bool false))))
(ret .next))
(sSeq (sSet 6 (eCallA F__law_deed (bnd (kept (eIf (eTest (eBin (gEq false) (eVar 0) (ret (.val (.str "laid"))))) (ret (.val (.str "shut"))) (ret (.val (.str "laid"))))) fun d => bnd (bnd (kept (eVar 5)) fun d => bnd (bnd (kept (eVar 2)) fun d => bnd (bnd (kept (eVar 3)) fun d => bnd (ret []) fun ds => ret (d :: ds)) fun ds => ret (d :: ds)) fun ds => ret (d :: ds)) fun ds => ret (d :: ds))))
(sRet (eBin (gEq false) (eBi gRepr (bnd (opn (eVar 6)) fun o => bnd (ret []) fun os => ret (o :: os))) (eBi gRepr (bnd (opn (eVar 1)) fun o => bnd (ret []) fun os => ret (o :: os)))))))))))
def F__law_is_done : List D → FR := runA 7 g__law_is_done
def C_law_0 : PM Opd :=
(eCallA F__law_deed (bnd (kept (ret (.val (.str "wider")))) fun d => bnd (bnd (kept (eVar 3)) fun d => bnd (bnd (kept (eVar 11)) fun d => bnd (bnd (kept (ret (.val (.int 0)))) fun d => bnd (ret []) fun ds => ret (d :: ds)) fun ds => ret (d :: ds)) fun ds => ret (d :: ds)) fun ds => ret (d :: ds)))
def B_law_1 : PM Out :=
(sIf (bNot (eTruth (eCallA F__law_is_done (bnd (kept (eVar 8)) fun d => bnd (bnd (kept (eVar 4)) fun d => bnd (bnd (kept (eVar 9)) fun d => bnd (bnd (kept (eVar 10)) fun d => bnd (ret []) fun ds => ret (d :: ds)) fun ds => ret (d :: ds)) fun ds => ret (d :: ds)) fun ds => ret (d :: ds)))))
(sRet (ret (.val (.bool false))))
(ret .next))
def B_law_2 : PM Out :=
(sSeq (sAsg (tgTup 2 (tgCons (tgName 9) (tgCons (tgName 10) tgNil))) (eCallB 1 F__law_pick (bnd (kept (eVar 6)) fun d => bnd (ret []) fun ds => ret (d :: ds))))
(sFor (eIter (eTup (bnd (kept (ret (.val (.str "wider")))) fun d => bnd (bnd (kept (ret (.val (.str "laid")))) fun d => bnd (bnd (kept (ret (.val (.str "shut")))) fun d => bnd (ret []) fun ds => ret (d :: ds)) fun ds => ret (d :: ds)) fun ds => ret (d :: ds)))) (tgName 8) B_law_1))
def C_law_3 : PM Opd :=
(eTup (bnd (kept (eVar 11)) fun d => bnd (bnd (kept (eVar 11)) fun d => bnd (ret []) fun ds => ret (d :: ds)) fun ds => ret (d :: ds)))
def B_law_4 : PM Out :=
(sSeq (sSet 4 (eCallB 1 F__law_net (bnd (kept (eVar 2)) fun d => bnd (ret []) fun ds => ret (d :: ds))))
(sSeq (sSet 5 (eBi gRepr (bnd (opn (eVar 4)) fun o => bnd (ret []) fun os => ret (o :: os))))
(sSeq (sIf (bNot (eTruth (eCallA F__law_rows_hold (bnd (kept (eVar 4)) fun d => bnd (ret []) fun ds => ret (d :: ds)))))
(sRet (ret (.val (.bool false))))
(ret .next))
(sSeq (sSet 6 (eBin gAdd (eCallA F__law_pairs (bnd (kept (eVar 2)) fun d => bnd (ret []) fun ds => ret (d :: ds))) (eLc (eRng1 (bnd (kept (eVar 2)) fun d => bnd (ret []) fun ds => ret (d :: ds))) [11] (tgName 11) (ret true) C_law_3)))
(sSeq (sFor (eRng1 (bnd (kept (ret (.val (.int 6)))) fun d => bnd (ret []) fun ds => ret (d :: ds))) (tgName 7) B_law_2)
(sIf (eTest (eBin (gEq true) (eBi gRepr (bnd (opn (eVar 4)) fun o => bnd (ret []) fun os => ret (o :: os))) (eVar 5)))
(sRet (ret (.val (.bool false))))
(ret .next)))))))
def g_law : PM Out :=
(sSeq (sFor (eIter (eTup (bnd (kept (ret (.val (.int 1)))) fun d => bnd (bnd (kept (ret (.val (.int 2)))) fun d => bnd (bnd (kept (eCallB 1 F__law_pick (bnd (kept (eLst (bnd (kept (ret (.val (.int 3)))) fun d => bnd (bnd (kept (ret (.val (.int 4)))) fun d => bnd (ret []) fun ds => ret (d :: ds)) fun ds => ret (d :: ds)))) fun d => bnd (ret []) fun ds => ret (d :: ds)))) fun d => bnd (bnd (kept (eCallB 1 F__law_pick (bnd (kept (eLst (bnd (kept (ret (.val (.int 5)))) fun d => bnd (bnd (kept (ret (.val (.int 6)))) fun d => bnd (ret []) fun ds => ret (d :: ds)) fun ds => ret (d :: ds)))) fun d => bnd (ret []) fun ds => ret (d :: ds)))) fun d => bnd (bnd (kept (ret (.val (.int 10)))) fun d => bnd (ret []) fun ds => ret (d :: ds)) fun ds => ret (d :: ds)) fun ds => ret (d :: ds)) fun ds => ret (d :: ds)) fun ds => ret (d :: ds)))) (tgName 2) B_law_4)
(sSeq (sSet 3 (eTup (bnd (kept (eBin gMul (eTup (bnd (kept (ret (.val (.int 4)))) fun d => bnd (ret []) fun ds => ret (d :: ds))) (ret (.val (.int 3))))) fun d => bnd (bnd (kept (eTup (bnd (kept (eTup (bnd (kept (ret (.val (.int 0)))) fun d => bnd (bnd (kept (ret (.val (.int 1)))) fun d => bnd (ret []) fun ds => ret (d :: ds)) fun ds => ret (d :: ds)))) fun d => bnd (ret []) fun ds => ret (d :: ds)))) fun d => bnd (ret []) fun ds => ret (d :: ds)) fun ds => ret (d :: ds))))
(sRet (eBin (gEq false) (eLc (eRng1 (bnd (kept (ret (.val (.int 3)))) fun d => bnd (ret []) fun ds => ret (d :: ds))) [11] (tgName 11) (ret true) C_law_0) (eBin gMul (eLst (bnd (kept (ret (.val (.str "unfit")))) fun d => bnd (ret []) fun ds => ret (d :: ds))) (ret (.val (.int 3))))))))
section
variable {P : Program} {w : World} {K : PySem.W.Frag} {mg : Str → Option Value} {base : Heap}
theorem G_is_integer (t : T K mg) : FnG P w K mg base CX0 1 t.a_is_integer t.d_is_integer ["value"] (SpA K 1 F_is_integer) := by
  refine fnA_of (g := g_is_integer) t.F_is_integer scis_integer rfl rfl fun cdv A outer s H E hr hgu => ?_
  have hu := hr.units
  have hu1 := hr.units0
  exact (pssx_one (psx_ret (px_and (px_isi (px_var 0) (by unfold tyLike; decide) t.b_isinstance t.b_int bt_int) (px_one (px_not (px_isi (px_var 0) (by unfold tyLike; decide) t.b_isinstance t.b_bool bt_bool))))))
theorem G_is_within (t : T K mg) : FnG P w K mg base CX0 2 t.a_is_within t.d_is_within ["value", "least", "most"] (SpA K 3 F_is_within) := by
  refine fnA_of (g := g_is_within) t.F_is_within scis_within rfl rfl fun cdv A outer s H E hr hgu => ?_
  have hu := hr.units
  have hu1 := hr.units0
  exact (pssx_one (psx_ret (px_and (px_callA ((G_is_integer t).mono (by decide)) hr hgu t.g_is_integer t.F_is_integer.kp t.n_is_integer pass0A (paf_cons (px_var 0) paf_nil)) (px_one (px_chain (o2_le hu1) (o2_le hu1) (px_var 1) (px_var 0) (px_var 2))))))
theorem G_is_row (t : T K mg) : FnG P w K mg base CX0 1 t.a_is_row t.d_is_row ["value", "many"] (SpA K 2 F_is_row) := by
  refine fnA_of (g := g_is_row) t.F_is_row scis_row rfl rfl fun cdv A outer s H E hr hgu => ?_
  have hu := hr.units
  have hu1 := hr.units0
  exact (pssx_one (psx_ret (px_and (px_isi (px_var 0) (by unfold tyLike; decide) t.b_isinstance t.b_tuple bt_tuple) (px_one (px_cmp (o2_eq hu) (px_bi bi_len (pax_cons (px_var 0) pax_nil) rfl t.b_len bt_len) (px_var 1) (nomark _))))))
theorem G_is_pair (t : T K mg) : FnG P w K mg base CX0 2 t.a_is_pair t.d_is_pair ["value"] (SpA K 1 F_is_pair) := by
  refine fnA_of (g := g_is_pair) t.F_is_pair scis_pair rfl rfl fun cdv A outer s H E hr hgu => ?_
  have hu := hr.units
  have hu1 := hr.units0
  exact (pssx_one (psx_ret (px_callA ((G_is_row t).mono (by decide)) hr hgu t.g_is_row t.F_is_row.kp t.n_is_row pass0A (paf_cons (px_var 0) (paf_cons px_int paf_nil)))))
theorem G__is_line (t : T K mg) : FnG P w K mg base CX0 3 t.a__is_line t.d__is_line ["value", "many"] (SpA K 2 F__is_line) := by
  refine fnA_of (g := g__is_line) t.F__is_line sc_is_line rfl rfl fun cdv A outer s H E hr hgu => ?_
  have hu := hr.units
  have hu1 := hr.units0
  exact (pssx_cons (psx_if (ptx_not (ptx_truth (px_callA ((G_is_pair t).mono (by decide)) hr hgu t.g_is_pair t.F_is_pair.kp t.n_is_pair pass0A (paf_cons (px_var 0) paf_nil))))
    (pssx_one (psx_ret px_bl))
    pssx_nil)
    (pssx_cons (psx_asg (px_var 0) (tgx_tup rfl (tgsx_cons (tgx_name (i := 2) sc_is_line.nd) (tgsx_cons (tgx_name (i := 3) sc_is_line.nd) tgsx_nil))))
    (pssx_one (psx_ret (px_and (px_callA ((G_is_within t).mono (by decide)) hr hgu t.g_is_within t.F_is_within.kp t.n_is_within pass0A (paf_cons (px_var 2) (paf_cons px_int (paf_cons (px_op o2_sub (px_var 1) px_int) paf_nil)))) (px_and (px_callA ((G_is_within t).mono (by decide)) hr hgu t.g_is_within t.F_is_within.kp t.n_is_within pass0A (paf_cons (px_var 3) (paf_cons px_int (paf_cons (px_op o2_sub (px_var 1) px_int) paf_nil)))) (px_one (px_cmp (o2_ne hu) (px_var 2) (px_var 3) (nomark _)))))))))
theorem G__is_built (t : T K mg) : FnG P w K mg base CX0 3 t.a__is_built t.d__is_built ["value"] (SpA K 1 F__is_built) := by
  refine fnA_of (g := g__is_built) t.F__is_built sc_is_built rfl rfl fun cdv A outer s H E hr hgu => ?_
  have hu := hr.units
  have hu1 := hr.units0
  exact (pssx_cons (psx_if (ptx_not (ptx_truth (px_callA ((G_is_pair t).mono (by decide)) hr hgu t.g_is_pair t.F_is_pair.kp t.n_is_pair pass0A (paf_cons (px_var 0) paf_nil))))
    (pssx_one (psx_ret px_bl))
    pssx_nil)
    (pssx_cons (psx_asg (px_var 0) (tgx_tup rfl (tgsx_cons (tgx_name (i := 1) sc_is_built.nd) (tgsx_cons (tgx_name (i := 2) sc_is_built.nd) tgsx_nil))))
    (pssx_cons (psx_if (ptx_pw (pwx_or (ptx_not (ptx_truth (px_isi (px_var 1) (by unfold tyLike; decide) t.b_isinstance t.b_tuple bt_tuple))) (pwx_or1 (ptx_not (ptx_truth (px_isi (px_var 2) (by unfold tyLike; decide) t.b_isinstance t.b_tuple bt_tuple))))))
    (pssx_one (psx_ret px_bl))
    pssx_nil)
    (pssx_one (psx_ret (px_chain (o2_le hu1) (o2_le hu1) px_int (px_bi bi_len (pax_cons (px_var 1) pax_nil) rfl t.b_len bt_len) (px_glob rfl t.c_MAX_STATIONS)))))))
theorem G_net_error (t : T K mg) : FnG P w K mg base CX0 4 t.a_net_error t.d_net_error ["value"] (SpA K 1 F_net_error) := by
  refine fnA_of (g := g_net_error) t.F_net_error scnet_error rfl rfl fun cdv A outer s H E hr hgu => ?_
  have hu := hr.units
  have hu1 := hr.units0
  exact (pssx_cons (psx_if (ptx_not (ptx_truth (px_callA ((G__is_built t).mono (by decide)) hr hgu t.g__is_built t.F__is_built.kp t.n__is_built pass0A (paf_cons (px_var 0) paf_nil))))
    (pssx_one (psx_ret px_str))
    pssx_nil)
    (pssx_cons (psx_asg (px_var 0) (tgx_tup rfl (tgsx_cons (tgx_name (i := 2) scnet_error.nd) (tgsx_cons (tgx_name (i := 3) scnet_error.nd) tgsx_nil))))
    (pssx_cons (psx_for PassesOwn.never rfl (pix_enum t.b_enumerate (px_var 2)) (tgx_tup rfl (tgsx_cons (tgx_name (i := 4) scnet_error.nd) (tgsx_cons (tgx_name (i := 5) scnet_error.nd) tgsx_nil)))
    (pssx_one (psx_if (ptx_not (ptx_truth (px_callA ((G_is_within t).mono (by decide)) hr hgu t.g_is_within t.F_is_within.kp t.n_is_within pass0A (paf_cons (px_var 5) (paf_cons px_int (paf_cons (px_glob rfl t.c_MAX_TRACKS) paf_nil))))))
    (pssx_one (psx_ret (px_tup (paf_cons px_str (paf_cons (px_var 4) paf_nil)))))
    pssx_nil)))
    (pssx_cons (psx_for PassesOwn.never rfl (pix_enum t.b_enumerate (px_var 3)) (tgx_tup rfl (tgsx_cons (tgx_name (i := 1) scnet_error.nd) (tgsx_cons (tgx_name (i := 6) scnet_error.nd) tgsx_nil)))
    (pssx_one (psx_if (ptx_not (ptx_truth (px_callA ((G__is_line t).mono (by decide)) hr hgu t.g__is_line t.F__is_line.kp t.n__is_line pass0A (paf_cons (px_var 6) (paf_cons (px_bi bi_len (pax_cons (px_var 2) pax_nil) rfl t.b_len bt_len) paf_nil)))))
    (pssx_one (psx_ret (px_tup (paf_cons px_str (paf_cons (px_var 1) paf_nil)))))
    pssx_nil)))
    (pssx_cons (psx_for PassesOwn.never rfl (pix_range2 rfl t.b_range (paf_cons px_int (paf_cons (px_bi bi_len (pax_cons (px_var 3) pax_nil) rfl t.b_len bt_len) paf_nil))) (tgx_name (i := 1) scnet_error.nd)
    (pssx_one (psx_if (ptx_cmp (o2_le hu1) (px_ix i2_ix (px_var 3) (px_var 1) (fun _ _ => rfl)) (px_ix i2_ix (px_var 3) (px_op o2_sub (px_var 1) px_int) (fun _ _ => rfl)) (nomark _))
    (pssx_one (psx_ret (px_tup (paf_cons px_str (paf_cons (px_var 1) paf_nil)))))
    pssx_nil)))
    (pssx_one (psx_ret px_non)))))))
theorem G_nexts (t : T K mg) : FnG P w K mg base CX0 1 t.a_nexts t.d_nexts ["net", "station"] (SpA K 2 F_nexts) := by
  refine fnA_of (g := g_nexts) t.F_nexts scnexts rfl rfl fun cdv A outer s H E hr hgu => ?_
  have hu := hr.units
  have hu1 := hr.units0
  exact (pssx_one (psx_ret (px_ty bi_tuple (pax_cons (px_lc (own := [("origin", 2), ("target", 3)]) rfl scnexts.nd (pix_seq (px_ix i2_ix (px_var 0) px_int (fun _ _ => rfl))) (blkOk_by (show blkC ["net", "station", "origin", "target"] (defScope snexts) _ _ = true from by decide +kernel)) (fun _ _ _ _ _ => (tgx_tup rfl (tgsx_cons (tgx_name (i := 2) scnexts.nd) (tgsx_cons (tgx_name (i := 3) scnexts.nd) tgsx_nil)))) (fun _ _ _ _ _ => (ptsx_one (ptx_cmp (o2_eq hu) (px_var 2) (px_var 1) (nomark _)))) (fun _ _ _ _ _ => (px_var 3)) (by decide) (by decide)) pax_nil) rfl t.b_tuple bt_tuple)))
theorem G_befores (t : T K mg) : FnG P w K mg base CX0 1 t.a_befores t.d_befores ["net", "station"] (SpA K 2 F_befores) := by
  refine fnA_of (g := g_befores) t.F_befores scbefores rfl rfl fun cdv A outer s H E hr hgu => ?_
  have hu := hr.units
  have hu1 := hr.units0
  exact (pssx_one (psx_ret (px_ty bi_tuple (pax_cons (px_lc (own := [("origin", 2), ("target", 3)]) rfl scbefores.nd (pix_seq (px_ix i2_ix (px_var 0) px_int (fun _ _ => rfl))) (blkOk_by (show blkC ["net", "station", "origin", "target"] (defScope sbefores) _ _ = true from by decide +kernel)) (fun _ _ _ _ _ => (tgx_tup rfl (tgsx_cons (tgx_name (i := 2) scbefores.nd) (tgsx_cons (tgx_name (i := 3) scbefores.nd) tgsx_nil)))) (fun _ _ _ _ _ => (ptsx_one (ptx_cmp (o2_eq hu) (px_var 3) (px_var 1) (nomark _)))) (fun _ _ _ _ _ => (px_var 2)) (by decide) (by decide)) pax_nil) rfl t.b_tuple bt_tuple)))
theorem G_turned (t : T K mg) : FnG P w K mg base CX0 1 t.a_turned t.d_turned ["net"] (SpA K 1 F_turned) := by
  refine fnA_of (g := g_turned) t.F_turned scturned rfl rfl fun cdv A outer s H E hr hgu => ?_
  have hu := hr.units
  have hu1 := hr.units0
  exact (pssx_cons (psx_asg (px_var 0) (tgx_tup rfl (tgsx_cons (tgx_name (i := 1) scturned.nd) (tgsx_cons (tgx_name (i := 2) scturned.nd) tgsx_nil))))
    (pssx_one (psx_ret (px_tup (paf_cons (px_var 1) (paf_cons (px_ty bi_tuple (pax_cons (px_bi (bi_sorted hu) (pax_cons (px_lc (own := [("origin", 3), ("target", 4)]) rfl scturned.nd (pix_seq (px_var 2)) (blkOk_by (show blkC ["net", "tracks", "lines", "origin", "target"] (defScope sturned) _ _ = true from by decide +kernel)) (fun _ _ _ _ _ => (tgx_tup rfl (tgsx_cons (tgx_name (i := 3) scturned.nd) (tgsx_cons (tgx_name (i := 4) scturned.nd) tgsx_nil)))) (fun _ _ _ _ _ => ptsx_nil) (fun _ _ _ _ _ => (px_tup (paf_cons (px_var 4) (paf_cons (px_var 3) paf_nil)))) (by decide) (by decide)) pax_nil) rfl t.b_sorted bt_sorted) pax_nil) rfl t.b_tuple bt_tuple) paf_nil))))))
theorem G_wider (t : T K mg) : FnG P w K mg base (L2.CX P w) 1 t.a_wider t.d_wider ["net", "station"] (SpX (cvT t) K 2 F_wider) := by
  refine fnX_of (cv := cvT t) (g := g_wider) t.F_wider scwider rfl rfl fun cdv A outer s H E hr hgu => ?_
  have hu := hr.units
  have hu1 := hr.units0
  exact (pssx_cons (psx_asg (px_var 0) (tgx_tup rfl (tgsx_cons (tgx_name (i := 2) scwider.nd) (tgsx_cons (tgx_name (i := 3) scwider.nd) tgsx_nil))))
    (pssx_cons (psx_if (ptx_cmp (o2_eq hu) (px_ix i2_ix (px_var 2) (px_var 1) (fun _ _ => rfl)) (px_glob rfl t.c_MAX_TRACKS) (nomark _))
    (pssx_one (psx_raise0 (c := "Unfit") (takes_of rfl rfl rfl rfl) rfl t.xe_Unfit t.ge_Unfit t.ke_Unfit t.be_Unfit t.te_Unfit (cv_Unfit t)))
    pssx_nil)
    (pssx_one (psx_ret (px_tup (paf_cons (px_op o2_add (px_op o2_add (px_slice s2_sl (px_var 2) pox_none (pox_some (px_var 1))) (px_tup (paf_cons (px_op o2_add (px_ix i2_ix (px_var 2) (px_var 1) (fun _ _ => rfl)) px_int) paf_nil))) (px_slice s2_sl (px_var 2) (pox_some (px_op o2_add (px_var 1) px_int)) pox_none)) (paf_cons (px_var 3) paf_nil)))))))
theorem G_laid (t : T K mg) : FnG P w K mg base (L2.CX P w) 1 t.a_laid t.d_laid ["net", "origin", "target"] (SpX (cvT t) K 3 F_laid) := by
  refine fnX_of (cv := cvT t) (g := g_laid) t.F_laid sclaid rfl rfl fun cdv A outer s H E hr hgu => ?_
  have hu := hr.units
  have hu1 := hr.units0
  exact (pssx_cons (psx_asg (px_var 0) (tgx_tup rfl (tgsx_cons (tgx_name (i := 3) sclaid.nd) (tgsx_cons (tgx_name (i := 4) sclaid.nd) tgsx_nil))))
    (pssx_cons (psx_if (ptx_pw (pwx_or (ptx_cmp (o2_eq hu) (px_var 1) (px_var 2) (nomark _)) (pwx_or1 (ptx_cmp (o2_in hu) (px_tup (paf_cons (px_var 1) (paf_cons (px_var 2) paf_nil))) (px_var 4) rfl))))
    (pssx_one (psx_raise0 (c := "Unfit") (takes_of rfl rfl rfl rfl) rfl t.xe_Unfit t.ge_Unfit t.ke_Unfit t.be_Unfit t.te_Unfit (cv_Unfit t)))
    pssx_nil)
    (pssx_one (psx_ret (px_tup (paf_cons (px_var 3) (paf_cons (px_ty bi_tuple (pax_cons (px_bi (bi_sorted hu) (pax_cons (px_op o2_add (px_var 4) (px_tup (paf_cons (px_tup (paf_cons (px_var 1) (paf_cons (px_var 2) paf_nil))) paf_nil))) pax_nil) rfl t.b_sorted bt_sorted) pax_nil) rfl t.b_tuple bt_tuple) paf_nil)))))))
theorem G_shut (t : T K mg) : FnG P w K mg base (L2.CX P w) 1 t.a_shut t.d_shut ["net", "origin", "target"] (SpX (cvT t) K 3 F_shut) := by
  refine fnX_of (cv := cvT t) (g := g_shut) t.F_shut scshut rfl rfl fun cdv A outer s H E hr hgu => ?_
  have hu := hr.units
  have hu1 := hr.units0
  exact (pssx_cons (psx_asg (px_var 0) (tgx_tup rfl (tgsx_cons (tgx_name (i := 3) scshut.nd) (tgsx_cons (tgx_name (i := 4) scshut.nd) tgsx_nil))))
    (pssx_cons (psx_if (ptx_cmp (o2_notIn hu) (px_tup (paf_cons (px_var 1) (paf_cons (px_var 2) paf_nil))) (px_var 4) rfl)
    (pssx_one (psx_raise0 (c := "Unfit") (takes_of rfl rfl rfl rfl) rfl t.xe_Unfit t.ge_Unfit t.ke_Unfit t.be_Unfit t.te_Unfit (cv_Unfit t)))
    pssx_nil)
    (pssx_one (psx_ret (px_tup (paf_cons (px_var 3) (paf_cons (px_ty bi_tuple (pax_cons (px_lc (own := [("line", 5)]) rfl scshut.nd (pix_seq (px_var 4)) (blkOk_by (show blkC ["net", "origin", "target", "tracks", "lines", "line"] (defScope sshut) _ _ = true from by decide +kernel)) (fun _ _ _ _ _ => (tgx_name (i := 5) scshut.nd)) (fun _ _ _ _ _ => (ptsx_one (ptx_cmp (o2_ne hu) (px_var 5) (px_tup (paf_cons (px_var 1) (paf_cons (px_var 2) paf_nil))) (nomark _)))) (fun _ _ _ _ _ => (px_var 5)) (by decide) (by decide)) pax_nil) rfl t.b_tuple bt_tuple) paf_nil)))))))
theorem G__law_deck (t : T K mg) : FnG P w K mg base CX0 1 t.a__law_deck t.d__law_deck ["script"] (SpMk K (IsDeck "deep" "state")) := by
  refine fnMk_of (tt := mkTS 1572202 K "deep" "state") t.F__law_deck sc_law_deck ?_ (fun vs H Q E h => mk_wp (by decide) (by decide) (by decide) h rfl rfl)
  intro cdv A outer s H E hr hgu
  have hu := hr.units
  have hd := units1 hr
  exact pss_cons (pset 1 sc_law_deck.nd (pe_disp (pps_cons pe_str (pe_lst pa_nil) (pps_cons pe_str (pe_op op_add pe_int (pe_callB call_len_seq rfl t.b_len bt_len (pa_cons (pe_slice sl_list (pv 0) po_none (po_some pe_int)) pa_nil))) pps_nil)) rfl rfl (by simp) (by simp)))
    (pss_cons (ps_for PassesOwn.never rfl (pi_list (pe_slice sl_list (pv 0) po_none (po_some pe_int))) (pg_name (i := 2) sc_law_deck.nd rfl (.inl rfl))
      (pss_cons (pset 3 sc_law_deck.nd (pe_callB call_abs rfl t.b_abs bt_abs (pa_cons (pv 2) pa_nil)))
      (pss_cons (ps_if (pt_cmpR op_ge (pv 3) (pe_op op_pow pe_int pe_int) rfl) (pss_one (ps_dput hd (pv 1) pe_str (pe_op op_cat (pe_lst (pa_cons (pv 3) pa_nil)) (pe_dget hd (pv 1) pe_str (fun _ _ => rfl))) rfl)) pss_nil)
      (pss_cons (pset 4 sc_law_deck.nd (pe_op op_add (pe_op op_mul (pe_op op_add (pe_op op_add (pe_op op_add (pe_dget hd (pv 1) pe_str (fun _ _ => rfl)) (pe_op op_mul pe_int (pv 3))) (pe_callTy call_int1 rfl t.b_int bt_int (pa_cons (pe_cmpR op_lt (pv 2) pe_int rfl) pa_nil))) pe_int) pe_int) pe_int))
      (pss_one (ps_dput hd (pv 1) pe_str (pe_op op_mod (pe_callTy call_int1 rfl t.b_int bt_int (pa_cons (pv 4) pa_nil)) pe_int) rfl))))))
    (pss_one (ps_ret (pv 1))))
theorem G__law_draw (t : T K mg) : FnG P w K mg base CX0 1 t.a__law_draw t.d__law_draw ["deck", "many"] (SpB K 1 F__law_draw) := by
  refine fng_of (N := ["deck", "many", "one", "two", "whole"]) t.F__law_draw sc_law_draw (fun vs H Q E h => spB_len h) ?_
  intro cdv A outer s H vs Q E hr hgu hsp
  have hu := hr.units
  have hd := units1 hr
  refine ⟨drTS K "deep" "state", ?_, draw_wp (by decide) hsp rfl rfl⟩
  exact pss_cons (ps_if (pt_cmpR op_lt (pv 1) pe_int rfl) (pss_one (ps_ret pe_int)) pss_nil)
    (pss_cons (ps_if (pt_cmpR (op_neD hu) (pe_dget hd (pv 0) pe_str (fun _ _ => rfl)) (pe_lst pa_nil) rfl)
      (pss_cons (pset 4 sc_law_draw.nd (pe_bm0 PySem.F.plainAttrs_list PySem.F.slot_list_pop PySem.F.type_list_pop mt_pop (pe_dget hd (pv 0) pe_str (fun _ _ => rfl))))
      (pss_cons (ps_if (pt_cmpR op_ge (pv 4) (pv 1) rfl) (pss_one (ps_expr (pe_bm PySem.F.plainAttrs_list PySem.F.slot_list_append PySem.F.type_list_append mt_append (pe_dget hd (pv 0) pe_str (fun _ _ => rfl)) (pa_cons (pe_op op_fdiv (pv 4) (pv 1)) pa_nil)))) pss_nil)
      (pss_one (ps_ret (pe_op op_mod (pe_callTy call_int1 rfl t.b_int bt_int (pa_cons (pv 4) pa_nil)) (pv 1)))))) pss_nil)
    (pss_cons (pset 2 sc_law_draw.nd (pe_op op_mod (pe_callTy call_int1 rfl t.b_int bt_int (pa_cons (pe_op op_add (pe_op op_mul (pe_dget hd (pv 0) pe_str (fun _ _ => rfl)) pe_int) pe_int) pa_nil)) pe_int))
    (pss_cons (ps_dput hd (pv 0) pe_str (pv 2) rfl)
    (pss_cons (pset 3 sc_law_draw.nd (pe_op op_mod (pe_callTy call_int1 rfl t.b_int bt_int (pa_cons (pe_op op_add (pe_op op_add (pe_op op_mul (pv 2) (pv 2)) (pe_op op_mul pe_int (pv 2))) pe_int) pa_nil)) pe_int))
    (pss_one (ps_ret (pe_op op_mod (pe_callTy call_int1 rfl t.b_int bt_int (pa_cons (pe_op op_fdiv (pv 3) pe_int) pa_nil)) (pv 1))))))))
theorem G__law_pick (t : T K mg) : FnG P w K mg base CX0 2 t.a__law_pick t.d__law_pick ["deck", "items"] (SpB K 1 F__law_pick) := by
  refine fnB_of (g := g__law_pick) t.F__law_pick sc_law_pick rfl rfl fun cdv A outer s H E hr hgu => ?_
  have hu := hr.units
  have hu1 := hr.units0
  exact (pssx_one (psx_ret (px_ix i2_ix (px_var 1) (px_callB (i := 0) ((G__law_draw t).mono (by decide)) hr hgu t.g__law_draw t.F__law_draw.kp t.n__law_draw pass0A (paf_cons (px_bi bi_len (pax_cons (px_var 1) pax_nil) rfl t.b_len bt_len) paf_nil)) (fun _ _ => rfl))))
theorem G__law_pairs (t : T K mg) : FnG P w K mg base CX0 1 t.a__law_pairs t.d__law_pairs ["size"] (SpA K 1 F__law_pairs) := by
  refine fnA_of (g := g__law_pairs) t.F__law_pairs sc_law_pairs rfl rfl fun cdv A outer s H E hr hgu => ?_
  have hu := hr.units
  have hu1 := hr.units0
  exact (pssx_cons (psx_set (i := 1) sc_law_pairs.nd (px_lst paf_nil))
    (pssx_cons (psx_for PassesOwn.never rfl (pix_range1 rfl t.b_range (paf_cons (px_var 0) paf_nil)) (tgx_name (i := 2) sc_law_pairs.nd)
    (pssx_one (psx_expr (px_ext (i := 1) (px_lc (own := [("other", 3)]) rfl sc_law_pairs.nd (pix_range1 rfl t.b_range (paf_cons (px_var 0) paf_nil)) (blkOk_by (show blkC ["size", "found", "one", "other"] (defScope s_law_pairs) _ _ = true from by decide +kernel)) (fun _ _ _ _ _ => (tgx_name (i := 3) sc_law_pairs.nd)) (fun _ _ _ _ _ => (ptsx_one (ptx_cmp (o2_ne hu) (px_var 3) (px_var 2) (nomark _)))) (fun _ _ _ _ _ => (px_tup (paf_cons (px_var 2) (paf_cons (px_var 3) paf_nil)))) (by decide) (by decide))))))
    (pssx_one (psx_ret (px_var 1)))))
theorem G__law_net (t : T K mg) : FnG P w K mg base CX0 3 t.a__law_net t.d__law_net ["deck", "size"] (SpB K 1 F__law_net) := by
  refine fnB_of (g := g__law_net) t.F__law_net sc_law_net rfl rfl fun cdv A outer s H E hr hgu => ?_
  have hu := hr.units
  have hu1 := hr.units0
  exact (pssx_cons (psx_set (i := 2) sc_law_net.nd (px_ty bi_tuple (pax_cons (px_lc (own := [("station", 4)]) rfl sc_law_net.nd (pix_range1 rfl t.b_range (paf_cons (px_var 1) paf_nil)) (blkOk_by (show blkC ["deck", "size", "tracks", "part", "station", "pair"] (defScope s_law_net) _ _ = true from by decide +kernel)) (fun _ _ _ _ _ => (tgx_name (i := 4) sc_law_net.nd)) (fun _ _ _ _ _ => ptsx_nil) (fun _ _ _ _ _ => (px_callB (i := 0) ((G__law_pick t).mono (by decide)) hr hgu t.g__law_pick t.F__law_pick.kp t.n__law_pick pass0A (paf_cons (px_lst (paf_cons px_int (paf_cons px_int (paf_cons px_int (paf_cons px_int (paf_cons px_int (paf_cons px_int (paf_cons px_int paf_nil)))))))) paf_nil))) (by decide) (by decide)) pax_nil) rfl t.b_tuple bt_tuple))
    (pssx_cons (psx_set (i := 3) sc_law_net.nd (px_callB (i := 0) ((G__law_pick t).mono (by decide)) hr hgu t.g__law_pick t.F__law_pick.kp t.n__law_pick pass0A (paf_cons (px_lst (paf_cons px_int (paf_cons px_int (paf_cons px_int (paf_cons px_int (paf_cons px_int paf_nil)))))) paf_nil)))
    (pssx_one (psx_ret (px_tup (paf_cons (px_var 2) (paf_cons (px_ty bi_tuple (pax_cons (px_lc (own := [("pair", 5)]) rfl sc_law_net.nd (pix_seq (px_callA ((G__law_pairs t).mono (by decide)) hr hgu t.g__law_pairs t.F__law_pairs.kp t.n__law_pairs pass0A (paf_cons (px_var 1) paf_nil))) (blkOk_by (show blkC ["deck", "size", "tracks", "part", "station", "pair"] (defScope s_law_net) _ _ = true from by decide +kernel)) (fun _ _ _ _ _ => (tgx_name (i := 5) sc_law_net.nd)) (fun _ _ _ _ _ => (ptsx_one (ptx_cmp (o2_lt hu1) (px_callB (i := 0) ((G__law_draw t).mono (by decide)) hr hgu t.g__law_draw t.F__law_draw.kp t.n__law_draw pass0A (paf_cons px_int paf_nil)) (px_var 3) (nomark _)))) (fun _ _ _ _ _ => (px_var 5)) (by decide) (by decide)) pax_nil) rfl t.b_tuple bt_tuple) paf_nil)))))))
theorem G__law_deed (t : T K mg) : FnG P w K mg base CX0 2 t.a__law_deed t.d__law_deed ["word", "net", "one", "other"] (SpA K 4 F__law_deed) := by
  refine fnT_of (cv := cvT t) (g := g__law_deed) t.F__law_deed sc_law_deed rfl rfl fun cdv A outer s H E hr hgu => ?_
  have hu := hr.units
  have hu1 := hr.units0
  exact (pssx_one (psx_try takes0 ⟨rfl, by decide, .inl t.ge_Unfit⟩ (MT_Unfit t) (fun W1 pn1 xe1 tk1 po1 => (pssx_cons (psx_if (ptx_cmp (o2_eq hu) (px_var 0) px_str (nomark _))
    (pssx_one (psx_ret (px_callX ((G_wider t).mono (by decide)) hr hgu t.g_wider t.F_wider.kp t.n_wider (passAt tk1) (paf_cons (px_var 1) (paf_cons (px_var 2) paf_nil)))))
    pssx_nil)
    (pssx_one (psx_ret (px_if (ptx_cmp (o2_eq hu) (px_var 0) px_str (nomark _)) (px_callX ((G_laid t).mono (by decide)) hr hgu t.g_laid t.F_laid.kp t.n_laid (passAt tk1) (paf_cons (px_var 1) (paf_cons (px_var 2) (paf_cons (px_var 3) paf_nil)))) (px_callX ((G_shut t).mono (by decide)) hr hgu t.g_shut t.F_shut.kp t.n_shut (passAt tk1) (paf_cons (px_var 1) (paf_cons (px_var 2) (paf_cons (px_var 3) paf_nil)))))))))
    (fun ae1 pe1 => (pssx_one (psx_ret px_str)))))
theorem G__law_due (t : T K mg) : FnG P w K mg base CX0 1 t.a__law_due t.d__law_due ["word", "net", "one", "other"] (SpA K 4 F__law_due) := by
  refine fnA_of (g := g__law_due) t.F__law_due sc_law_due rfl rfl fun cdv A outer s H E hr hgu => ?_
  have hu := hr.units
  have hu1 := hr.units0
  exact (pssx_cons (psx_asg (px_var 1) (tgx_tup rfl (tgsx_cons (tgx_name (i := 5) sc_law_due.nd) (tgsx_cons (tgx_name (i := 6) sc_law_due.nd) tgsx_nil))))
    (pssx_cons (psx_if (ptx_cmp (o2_eq hu) (px_var 0) px_str (nomark _))
    (pssx_one (psx_ret (px_if (ptx_cmp (o2_eq hu) (px_ix i2_ix (px_var 5) (px_var 2) (fun _ _ => rfl)) px_int (nomark _)) px_str (px_tup (paf_cons (px_op o2_add (px_op o2_add (px_slice s2_sl (px_var 5) pox_none (pox_some (px_var 2))) (px_tup (paf_cons (px_op o2_add (px_ix i2_ix (px_var 5) (px_var 2) (fun _ _ => rfl)) px_int) paf_nil))) (px_slice s2_sl (px_var 5) (pox_some (px_op o2_add (px_var 2) px_int)) pox_none)) (paf_cons (px_var 6) paf_nil))))))
    pssx_nil)
    (pssx_cons (psx_if (ptx_cmp (o2_eq hu) (px_var 0) px_str (nomark _))
    (pssx_one (psx_ret (px_if (ptx_pw (pwx_or (ptx_cmp (o2_eq hu) (px_var 2) (px_var 3) (nomark _)) (pwx_or1 (ptx_cmp (o2_in hu) (px_tup (paf_cons (px_var 2) (paf_cons (px_var 3) paf_nil))) (px_var 6) rfl)))) px_str (px_tup (paf_cons (px_var 5) (paf_cons (px_ty bi_tuple (pax_cons (px_bi (bi_sorted hu) (pax_cons (px_op o2_add (px_var 6) (px_tup (paf_cons (px_tup (paf_cons (px_var 2) (paf_cons (px_var 3) paf_nil))) paf_nil))) pax_nil) rfl t.b_sorted bt_sorted) pax_nil) rfl t.b_tuple bt_tuple) paf_nil))))))
    pssx_nil)
    (pssx_cons (psx_set (i := 4) sc_law_due.nd (px_ty bi_tuple (pax_cons (px_lc (own := [("line", 7)]) rfl sc_law_due.nd (pix_seq (px_var 6)) (blkOk_by (show blkC ["word", "net", "one", "other", "kept", "tracks", "lines", "line"] (defScope s_law_due) _ _ = true from by decide +kernel)) (fun _ _ _ _ _ => (tgx_name (i := 7) sc_law_due.nd)) (fun _ _ _ _ _ => (ptsx_one (ptx_cmp (o2_ne hu) (px_var 7) (px_tup (paf_cons (px_var 2) (paf_cons (px_var 3) paf_nil))) (nomark _)))) (fun _ _ _ _ _ => (px_var 7)) (by decide) (by decide)) pax_nil) rfl t.b_tuple bt_tuple))
    (pssx_one (psx_ret (px_if (ptx_cmp (o2_eq hu) (px_bi bi_len (pax_cons (px_var 4) pax_nil) rfl t.b_len bt_len) (px_bi bi_len (pax_cons (px_var 6) pax_nil) rfl t.b_len bt_len) (nomark _)) px_str (px_tup (paf_cons (px_var 5) (paf_cons (px_var 4) paf_nil))))))))))
theorem G__law_rows_hold (t : T K mg) : FnG P w K mg base CX0 2 t.a__law_rows_hold t.d__law_rows_hold ["net"] (SpA K 1 F__law_rows_hold) := by
  refine fnA_of (g := g__law_rows_hold) t.F__law_rows_hold sc_law_rows_hold rfl rfl fun cdv A outer s H E hr hgu => ?_
  have hu := hr.units
  have hu1 := hr.units0
  exact (pssx_cons (psx_asg (px_var 0) (tgx_tup rfl (tgsx_cons (tgx_name (i := 3) sc_law_rows_hold.nd) (tgsx_cons (tgx_name (i := 4) sc_law_rows_hold.nd) tgsx_nil))))
    (pssx_cons (psx_set (i := 1) sc_law_rows_hold.nd (px_tup (paf_cons (px_var 3) (paf_cons (px_ty bi_tuple (pax_cons (px_bi (bi_sorted hu) (pax_cons (px_lc (own := [("line", 7)]) rfl sc_law_rows_hold.nd (pix_seq (px_var 4)) (blkOk_by (show blkC ["net", "back", "station", "tracks", "lines", "out", "into", "line"] (defScope s_law_rows_hold) _ _ = true from by decide +kernel)) (fun _ _ _ _ _ => (tgx_name (i := 7) sc_law_rows_hold.nd)) (fun _ _ _ _ _ => ptsx_nil) (fun _ _ _ _ _ => (px_tup (paf_cons (px_ix i2_ix (px_var 7) px_int (fun _ _ => rfl)) (paf_cons (px_ix i2_ix (px_var 7) px_int (fun _ _ => rfl)) paf_nil)))) (by decide) (by decide)) pax_nil) rfl t.b_sorted bt_sorted) pax_nil) rfl t.b_tuple bt_tuple) paf_nil))))
    (pssx_cons (psx_if (ptx_pw (pwx_or (ptx_cmp (o2_ne hu) (px_bi (bi_repr hgu hu) (pax_cons (px_callA ((G_turned t).mono (by decide)) hr hgu t.g_turned t.F_turned.kp t.n_turned pass0A (paf_cons (px_var 0) paf_nil)) pax_nil) rfl t.b_repr bt_repr) (px_bi (bi_repr hgu hu) (pax_cons (px_var 1) pax_nil) rfl t.b_repr bt_repr) (nomark _)) (pwx_or1 (ptx_cmp (o2_ne hu) (px_bi (bi_repr hgu hu) (pax_cons (px_callA ((G_turned t).mono (by decide)) hr hgu t.g_turned t.F_turned.kp t.n_turned pass0A (paf_cons (px_callA ((G_turned t).mono (by decide)) hr hgu t.g_turned t.F_turned.kp t.n_turned pass0A (paf_cons (px_var 0) paf_nil)) paf_nil)) pax_nil) rfl t.b_repr bt_repr) (px_bi (bi_repr hgu hu) (pax_cons (px_var 0) pax_nil) rfl t.b_repr bt_repr) (nomark _)))))
    (pssx_one (psx_ret px_bl))
    pssx_nil)
    (pssx_cons (psx_for PassesOwn.never rfl (pix_range1 rfl t.b_range (paf_cons (px_bi bi_len (pax_cons (px_var 3) pax_nil) rfl t.b_len bt_len) paf_nil)) (tgx_name (i := 2) sc_law_rows_hold.nd)
    (pssx_cons (psx_set (i := 5) sc_law_rows_hold.nd (px_ty bi_tuple (pax_cons (px_lc (own := [("line", 7)]) rfl sc_law_rows_hold.nd (pix_seq (px_var 4)) (blkOk_by (show blkC ["net", "back", "station", "tracks", "lines", "out", "into", "line"] (defScope s_law_rows_hold) _ _ = true from by decide +kernel)) (fun _ _ _ _ _ => (tgx_name (i := 7) sc_law_rows_hold.nd)) (fun _ _ _ _ _ => (ptsx_one (ptx_cmp (o2_eq hu) (px_ix i2_ix (px_var 7) px_int (fun _ _ => rfl)) (px_var 2) (nomark _)))) (fun _ _ _ _ _ => (px_ix i2_ix (px_var 7) px_int (fun _ _ => rfl))) (by decide) (by decide)) pax_nil) rfl t.b_tuple bt_tuple))
    (pssx_cons (psx_set (i := 6) sc_law_rows_hold.nd (px_ty bi_tuple (pax_cons (px_lc (own := [("line", 7)]) rfl sc_law_rows_hold.nd (pix_seq (px_var 4)) (blkOk_by (show blkC ["net", "back", "station", "tracks", "lines", "out", "into", "line"] (defScope s_law_rows_hold) _ _ = true from by decide +kernel)) (fun _ _ _ _ _ => (tgx_name (i := 7) sc_law_rows_hold.nd)) (fun _ _ _ _ _ => (ptsx_one (ptx_cmp (o2_eq hu) (px_ix i2_ix (px_var 7) px_int (fun _ _ => rfl)) (px_var 2) (nomark _)))) (fun _ _ _ _ _ => (px_ix i2_ix (px_var 7) px_int (fun _ _ => rfl))) (by decide) (by decide)) pax_nil) rfl t.b_tuple bt_tuple))
    (pssx_cons (psx_if (ptx_cmp (o2_ne hu) (px_bi (bi_repr hgu hu) (pax_cons (px_lst (paf_cons (px_callA ((G_nexts t).mono (by decide)) hr hgu t.g_nexts t.F_nexts.kp t.n_nexts pass0A (paf_cons (px_var 0) (paf_cons (px_var 2) paf_nil))) (paf_cons (px_callA ((G_befores t).mono (by decide)) hr hgu t.g_befores t.F_befores.kp t.n_befores pass0A (paf_cons (px_var 0) (paf_cons (px_var 2) paf_nil))) paf_nil))) pax_nil) rfl t.b_repr bt_repr) (px_bi (bi_repr hgu hu) (pax_cons (px_lst (paf_cons (px_var 5) (paf_cons (px_var 6) paf_nil))) pax_nil) rfl t.b_repr bt_repr) (nomark _))
    (pssx_one (psx_ret px_bl))
    pssx_nil)
    (pssx_one (psx_if (ptx_cmp (o2_ne hu) (px_bi (bi_repr hgu hu) (pax_cons (px_lst (paf_cons (px_callA ((G_nexts t).mono (by decide)) hr hgu t.g_nexts t.F_nexts.kp t.n_nexts pass0A (paf_cons (px_var 1) (paf_cons (px_var 2) paf_nil))) (paf_cons (px_callA ((G_befores t).mono (by decide)) hr hgu t.g_befores t.F_befores.kp t.n_befores pass0A (paf_cons (px_var 1) (paf_cons (px_var 2) paf_nil))) paf_nil))) pax_nil) rfl t.b_repr bt_repr) (px_bi (bi_repr hgu hu) (pax_cons (px_lst (paf_cons (px_var 6) (paf_cons (px_var 5) paf_nil))) pax_nil) rfl t.b_repr bt_repr) (nomark _))
    (pssx_one (psx_ret px_bl))
    pssx_nil))))))
    (pssx_one (psx_ret px_bl))))))
theorem G__law_is_done (t : T K mg) : FnG P w K mg base CX0 5 t.a__law_is_done t.d__law_is_done ["word", "net", "one", "other"] (SpA K 4 F__law_is_done) := by
  refine fnA_of (g := g__law_is_done) t.F__law_is_done sc_law_is_done rfl rfl fun cdv A outer s H E hr hgu => ?_
  have hu := hr.units
  have hu1 := hr.units0
  exact (pssx_cons (psx_set (i := 4) sc_law_is_done.nd (px_callA ((G__law_due t).mono (by decide)) hr hgu t.g__law_due t.F__law_due.kp t.n__law_due pass0A (paf_cons (px_var 0) (paf_cons (px_var 1) (paf_cons (px_var 2) (paf_cons (px_var 3) paf_nil))))))
    (pssx_cons (psx_set (i := 5) sc_law_is_done.nd (px_callA ((G__law_deed t).mono (by decide)) hr hgu t.g__law_deed t.F__law_deed.kp t.n__law_deed pass0A (paf_cons (px_var 0) (paf_cons (px_var 1) (paf_cons (px_var 2) (paf_cons (px_var 3) paf_nil))))))
    (pssx_cons (psx_if (ptx_pw (pwx_or (ptx_cmp (o2_ne hu) (px_bi (bi_repr hgu hu) (pax_cons (px_var 5) pax_nil) rfl t.b_repr bt_repr) (px_bi (bi_repr hgu hu) (pax_cons (px_var 4) pax_nil) rfl t.b_repr bt_repr) (nomark _)) (pwx_or1 (ptx_cmp (o2_ne hu) (px_bi (bi_repr hgu hu) (pax_cons (px_callA ((G__law_deed t).mono (by decide)) hr hgu t.g__law_deed t.F__law_deed.kp t.n__law_deed pass0A (paf_cons (px_var 0) (paf_cons (px_var 1) (paf_cons (px_var 2) (paf_cons (px_var 3) paf_nil))))) pax_nil) rfl t.b_repr bt_repr) (px_bi (bi_repr hgu hu) (pax_cons (px_var 4) pax_nil) rfl t.b_repr bt_repr) (nomark _)))))
    (pssx_one (psx_ret px_bl))
    pssx_nil)
    (pssx_cons (psx_if (ptx_pw (pwx_or (ptx_cmp (o2_eq hu) (px_var 4) px_str (nomark _)) (pwx_or1 (ptx_cmp (o2_eq hu) (px_var 0) px_str (nomark _)))))
    (pssx_one (psx_ret px_bl))
    pssx_nil)
    (pssx_cons (psx_if (ptx_cmp o2_notN (px_callA ((G_net_error t).mono (by decide)) hr hgu t.g_net_error t.F_net_error.kp t.n_net_error pass0A (paf_cons (px_var 5) paf_nil)) px_non (nomark _))
    (pssx_one (psx_ret px_bl))
    pssx_nil)
    (pssx_cons (psx_set (i := 6) sc_law_is_done.nd (px_callA ((G__law_deed t).mono (by decide)) hr hgu t.g__law_deed t.F__law_deed.kp t.n__law_deed pass0A (paf_cons (px_if (ptx_cmp (o2_eq hu) (px_var 0) px_str (nomark _)) px_str px_str) (paf_cons (px_var 5) (paf_cons (px_var 2) (paf_cons (px_var 3) paf_nil))))))
    (pssx_one (psx_ret (px_cmp (o2_eq hu) (px_bi (bi_repr hgu hu) (pax_cons (px_var 6) pax_nil) rfl t.b_repr bt_repr) (px_bi (bi_repr hgu hu) (pax_cons (px_var 1) pax_nil) rfl t.b_repr bt_repr) (nomark _))))))))))
end
end Pu.L

namespace Pu.L
open PySem PySem.Spec PyProof.Rows L2 Pu
/-! ### what a line is, a number within -/
def isW (v : D) (lo hi : Int) : Bool := match v with
  | .int i => decide (lo ≤ i) && decide (i ≤ hi)
  | _ => false
def isNum : D → Bool
  | .int _ => true
  | _ => false
theorem F_integer (v : D) : F_is_integer [v] = .ok (.val (.bool (isNum v))) := by
  unfold F_is_integer runA g_is_integer isNum
  cases v <;> simp [bnd_e, ret_e, oops_e, lift_s, lift_n, opn_e, thaw_v, thaw_t, thaw_s, rsv_v, rsv_s, frz_v, frz_t, frz_s, kept_e, eVar_e, eBin_e, toB_b, eTest_e, bAnd_e, bOr_e, bNot_e, eTruth_e, vAnd_e, vOr_e, vNot_e, eIf_e, eTup_e, eLst_e, rsvs_n, rsvs_c, eBi_e, toPart_i, eSl_e, eUn_e, eIsi_e, eChain_e, sSeq_e, sRet_e, sExpr_e, sIf_e, putS_e, asg_v, asg_t, sSet_e, tgTup_e, tgCons_e, tgNil_e, tgName_e, sAsg_e, sFor_e, eIter_e, eEnum_e, eRng1_e, eRng2_e, eCallA_e, eCallK_e, frOf_k, ite_ap, mtc_out, isi_int, isi_bool, isi_tuple, isIntD, isBoolD, isTupD, gLen, truth, gEq_int, gNe_int, gLe_int, gLt_int, gSub_int, gAdd_int, sPar_e, gEq_str, abAtE_e, frB_k, eCallB_e, noExc_e, eDict1_e, gNeg_int, gPow_30, eLc_e, gTuple_l, gTuple_t, gList_l, gList_t, sPutAt_e, lsAt_e, gSl_t, envOf, finR, sRaise0_e, frOf_x, sTry_e, noX_k, isi_str]
theorem F_within (v : D) (lo hi : Int) : F_is_within [v, .int lo, .int hi] = .ok (.val (.bool (isW v lo hi))) := by
  unfold F_is_within runA g_is_within isW
  cases v with
  | int i =>
    by_cases h1 : lo ≤ i
    · simp [bnd_e, ret_e, oops_e, lift_s, lift_n, opn_e, thaw_v, thaw_t, thaw_s, rsv_v, rsv_s, frz_v, frz_t, frz_s, kept_e, eVar_e, eBin_e, toB_b, eTest_e, bAnd_e, bOr_e, bNot_e, eTruth_e, vAnd_e, vOr_e, vNot_e, eIf_e, eTup_e, eLst_e, rsvs_n, rsvs_c, eBi_e, toPart_i, eSl_e, eUn_e, eIsi_e, eChain_e, sSeq_e, sRet_e, sExpr_e, sIf_e, putS_e, asg_v, asg_t, sSet_e, tgTup_e, tgCons_e, tgNil_e, tgName_e, sAsg_e, sFor_e, eIter_e, eEnum_e, eRng1_e, eRng2_e, eCallA_e, eCallK_e, frOf_k, ite_ap, mtc_out, isi_int, isi_bool, isi_tuple, isIntD, isBoolD, isTupD, gLen, truth, gEq_int, gNe_int, gLe_int, gLt_int, gSub_int, gAdd_int, sPar_e, gEq_str, abAtE_e, frB_k, eCallB_e, noExc_e, eDict1_e, gNeg_int, gPow_30, eLc_e, gTuple_l, gTuple_t, gList_l, gList_t, sPutAt_e, lsAt_e, gSl_t, envOf, finR, sRaise0_e, frOf_x, sTry_e, noX_k, isi_str, h1, F_integer, isNum]
    · simp [bnd_e, ret_e, oops_e, lift_s, lift_n, opn_e, thaw_v, thaw_t, thaw_s, rsv_v, rsv_s, frz_v, frz_t, frz_s, kept_e, eVar_e, eBin_e, toB_b, eTest_e, bAnd_e, bOr_e, bNot_e, eTruth_e, vAnd_e, vOr_e, vNot_e, eIf_e, eTup_e, eLst_e, rsvs_n, rsvs_c, eBi_e, toPart_i, eSl_e, eUn_e, eIsi_e, eChain_e, sSeq_e, sRet_e, sExpr_e, sIf_e, putS_e, asg_v, asg_t, sSet_e, tgTup_e, tgCons_e, tgNil_e, tgName_e, sAsg_e, sFor_e, eIter_e, eEnum_e, eRng1_e, eRng2_e, eCallA_e, eCallK_e, frOf_k, ite_ap, mtc_out, isi_int, isi_bool, isi_tuple, isIntD, isBoolD, isTupD, gLen, truth, gEq_int, gNe_int, gLe_int, gLt_int, gSub_int, gAdd_int, sPar_e, gEq_str, abAtE_e, frB_k, eCallB_e, noExc_e, eDict1_e, gNeg_int, gPow_30, eLc_e, gTuple_l, gTuple_t, gList_l, gList_t, sPutAt_e, lsAt_e, gSl_t, envOf, finR, sRaise0_e, frOf_x, sTry_e, noX_k, isi_str, h1, F_integer, isNum]
  | _ => simp [bnd_e, ret_e, oops_e, lift_s, lift_n, opn_e, thaw_v, thaw_t, thaw_s, rsv_v, rsv_s, frz_v, frz_t, frz_s, kept_e, eVar_e, eBin_e, toB_b, eTest_e, bAnd_e, bOr_e, bNot_e, eTruth_e, vAnd_e, vOr_e, vNot_e, eIf_e, eTup_e, eLst_e, rsvs_n, rsvs_c, eBi_e, toPart_i, eSl_e, eUn_e, eIsi_e, eChain_e, sSeq_e, sRet_e, sExpr_e, sIf_e, putS_e, asg_v, asg_t, sSet_e, tgTup_e, tgCons_e, tgNil_e, tgName_e, sAsg_e, sFor_e, eIter_e, eEnum_e, eRng1_e, eRng2_e, eCallA_e, eCallK_e, frOf_k, ite_ap, mtc_out, isi_int, isi_bool, isi_tuple, isIntD, isBoolD, isTupD, gLen, truth, gEq_int, gNe_int, gLe_int, gLt_int, gSub_int, gAdd_int, sPar_e, gEq_str, abAtE_e, frB_k, eCallB_e, noExc_e, eDict1_e, gNeg_int, gPow_30, eLc_e, gTuple_l, gTuple_t, gList_l, gList_t, sPutAt_e, lsAt_e, gSl_t, envOf, finR, sRaise0_e, frOf_x, sTry_e, noX_k, isi_str, F_integer, isNum]
def isL (v : D) (n : Int) : Bool := match v with
  | .tuple [a, b] => isW a 0 (n - 1) && (isW b 0 (n - 1) && !PyData.eqv a b)
  | _ => false
theorem isW_int {v : D} {lo hi : Int} (h : isW v lo hi = true) : ∃ i, v = .int i ∧ lo ≤ i ∧ i ≤ hi := by
  cases v with
  | int i =>
    simp only [isW, Bool.and_eq_true, decide_eq_true_eq] at h
    exact ⟨i, rfl, h.1, h.2⟩
  | _ => cases h
def isP (v : D) : Bool := match v with
  | .tuple ds => decide (ds.length = 2)
  | _ => false
theorem F_row2 (v : D) : F_is_row [v, .int 2] = .ok (.val (.bool (isP v))) := by
  unfold F_is_row runA g_is_row isP
  cases v with
  | tuple ds =>
    simp [bnd_e, ret_e, oops_e, lift_s, lift_n, opn_e, thaw_v, thaw_t, thaw_s, rsv_v, rsv_s, frz_v, frz_t, frz_s, kept_e, eVar_e, eBin_e, toB_b, eTest_e, bAnd_e, bOr_e, bNot_e, eTruth_e, vAnd_e, vOr_e, vNot_e, eIf_e, eTup_e, eLst_e, rsvs_n, rsvs_c, eBi_e, toPart_i, eSl_e, eUn_e, eIsi_e, eChain_e, sSeq_e, sRet_e, sExpr_e, sIf_e, putS_e, asg_v, asg_t, sSet_e, tgTup_e, tgCons_e, tgNil_e, tgName_e, sAsg_e, sFor_e, eIter_e, eEnum_e, eRng1_e, eRng2_e, eCallA_e, eCallK_e, frOf_k, ite_ap, mtc_out, isi_int, isi_bool, isi_tuple, isIntD, isBoolD, isTupD, gLen, truth, gEq_int, gNe_int, gLe_int, gLt_int, gSub_int, gAdd_int, sPar_e, gEq_str, abAtE_e, frB_k, eCallB_e, noExc_e, eDict1_e, gNeg_int, gPow_30, eLc_e, gTuple_l, gTuple_t, gList_l, gList_t, sPutAt_e, lsAt_e, gSl_t, envOf, finR, sRaise0_e, frOf_x, sTry_e, noX_k, isi_str]
    by_cases h : ds.length = 2
    · simp [h]
    · have h' : ¬ (ds.length : Int) = 2 := by omega
      simp [h, h']
  | _ => simp [bnd_e, ret_e, oops_e, lift_s, lift_n, opn_e, thaw_v, thaw_t, thaw_s, rsv_v, rsv_s, frz_v, frz_t, frz_s, kept_e, eVar_e, eBin_e, toB_b, eTest_e, bAnd_e, bOr_e, bNot_e, eTruth_e, vAnd_e, vOr_e, vNot_e, eIf_e, eTup_e, eLst_e, rsvs_n, rsvs_c, eBi_e, toPart_i, eSl_e, eUn_e, eIsi_e, eChain_e, sSeq_e, sRet_e, sExpr_e, sIf_e, putS_e, asg_v, asg_t, sSet_e, tgTup_e, tgCons_e, tgNil_e, tgName_e, sAsg_e, sFor_e, eIter_e, eEnum_e, eRng1_e, eRng2_e, eCallA_e, eCallK_e, frOf_k, ite_ap, mtc_out, isi_int, isi_bool, isi_tuple, isIntD, isBoolD, isTupD, gLen, truth, gEq_int, gNe_int, gLe_int, gLt_int, gSub_int, gAdd_int, sPar_e, gEq_str, abAtE_e, frB_k, eCallB_e, noExc_e, eDict1_e, gNeg_int, gPow_30, eLc_e, gTuple_l, gTuple_t, gList_l, gList_t, sPutAt_e, lsAt_e, gSl_t, envOf, finR, sRaise0_e, frOf_x, sTry_e, noX_k, isi_str]
theorem F_pair (v : D) : F_is_pair [v] = .ok (.val (.bool (isP v))) := by
  unfold F_is_pair runA g_is_pair
  simp [bnd_e, ret_e, oops_e, lift_s, lift_n, opn_e, thaw_v, thaw_t, thaw_s, rsv_v, rsv_s, frz_v, frz_t, frz_s, kept_e, eVar_e, eBin_e, toB_b, eTest_e, bAnd_e, bOr_e, bNot_e, eTruth_e, vAnd_e, vOr_e, vNot_e, eIf_e, eTup_e, eLst_e, rsvs_n, rsvs_c, eBi_e, toPart_i, eSl_e, eUn_e, eIsi_e, eChain_e, sSeq_e, sRet_e, sExpr_e, sIf_e, putS_e, asg_v, asg_t, sSet_e, tgTup_e, tgCons_e, tgNil_e, tgName_e, sAsg_e, sFor_e, eIter_e, eEnum_e, eRng1_e, eRng2_e, eCallA_e, eCallK_e, frOf_k, ite_ap, mtc_out, isi_int, isi_bool, isi_tuple, isIntD, isBoolD, isTupD, gLen, truth, gEq_int, gNe_int, gLe_int, gLt_int, gSub_int, gAdd_int, sPar_e, gEq_str, abAtE_e, frB_k, eCallB_e, noExc_e, eDict1_e, gNeg_int, gPow_30, eLc_e, gTuple_l, gTuple_t, gList_l, gList_t, sPutAt_e, lsAt_e, gSl_t, envOf, finR, sRaise0_e, frOf_x, sTry_e, noX_k, isi_str, F_row2]
theorem F_lineP (v : D) (n : Int) : F__is_line [v, .int n] = .ok (.val (.bool (isL v n))) := by
  unfold F__is_line runA g__is_line
  cases v with
  | tuple ds =>
    match ds with
    | [] => simp [bnd_e, ret_e, oops_e, lift_s, lift_n, opn_e, thaw_v, thaw_t, thaw_s, rsv_v, rsv_s, frz_v, frz_t, frz_s, kept_e, eVar_e, eBin_e, toB_b, eTest_e, bAnd_e, bOr_e, bNot_e, eTruth_e, vAnd_e, vOr_e, vNot_e, eIf_e, eTup_e, eLst_e, rsvs_n, rsvs_c, eBi_e, toPart_i, eSl_e, eUn_e, eIsi_e, eChain_e, sSeq_e, sRet_e, sExpr_e, sIf_e, putS_e, asg_v, asg_t, sSet_e, tgTup_e, tgCons_e, tgNil_e, tgName_e, sAsg_e, sFor_e, eIter_e, eEnum_e, eRng1_e, eRng2_e, eCallA_e, eCallK_e, frOf_k, ite_ap, mtc_out, isi_int, isi_bool, isi_tuple, isIntD, isBoolD, isTupD, gLen, truth, gEq_int, gNe_int, gLe_int, gLt_int, gSub_int, gAdd_int, sPar_e, gEq_str, abAtE_e, frB_k, eCallB_e, noExc_e, eDict1_e, gNeg_int, gPow_30, eLc_e, gTuple_l, gTuple_t, gList_l, gList_t, sPutAt_e, lsAt_e, gSl_t, envOf, finR, sRaise0_e, frOf_x, sTry_e, noX_k, isi_str, F_pair, isP, isL]
    | [a] => simp [bnd_e, ret_e, oops_e, lift_s, lift_n, opn_e, thaw_v, thaw_t, thaw_s, rsv_v, rsv_s, frz_v, frz_t, frz_s, kept_e, eVar_e, eBin_e, toB_b, eTest_e, bAnd_e, bOr_e, bNot_e, eTruth_e, vAnd_e, vOr_e, vNot_e, eIf_e, eTup_e, eLst_e, rsvs_n, rsvs_c, eBi_e, toPart_i, eSl_e, eUn_e, eIsi_e, eChain_e, sSeq_e, sRet_e, sExpr_e, sIf_e, putS_e, asg_v, asg_t, sSet_e, tgTup_e, tgCons_e, tgNil_e, tgName_e, sAsg_e, sFor_e, eIter_e, eEnum_e, eRng1_e, eRng2_e, eCallA_e, eCallK_e, frOf_k, ite_ap, mtc_out, isi_int, isi_bool, isi_tuple, isIntD, isBoolD, isTupD, gLen, truth, gEq_int, gNe_int, gLe_int, gLt_int, gSub_int, gAdd_int, sPar_e, gEq_str, abAtE_e, frB_k, eCallB_e, noExc_e, eDict1_e, gNeg_int, gPow_30, eLc_e, gTuple_l, gTuple_t, gList_l, gList_t, sPutAt_e, lsAt_e, gSl_t, envOf, finR, sRaise0_e, frOf_x, sTry_e, noX_k, isi_str, F_pair, isP, isL]
    | [a, b] =>
      simp [bnd_e, ret_e, oops_e, lift_s, lift_n, opn_e, thaw_v, thaw_t, thaw_s, rsv_v, rsv_s, frz_v, frz_t, frz_s, kept_e, eVar_e, eBin_e, toB_b, eTest_e, bAnd_e, bOr_e, bNot_e, eTruth_e, vAnd_e, vOr_e, vNot_e, eIf_e, eTup_e, eLst_e, rsvs_n, rsvs_c, eBi_e, toPart_i, eSl_e, eUn_e, eIsi_e, eChain_e, sSeq_e, sRet_e, sExpr_e, sIf_e, putS_e, asg_v, asg_t, sSet_e, tgTup_e, tgCons_e, tgNil_e, tgName_e, sAsg_e, sFor_e, eIter_e, eEnum_e, eRng1_e, eRng2_e, eCallA_e, eCallK_e, frOf_k, ite_ap, mtc_out, isi_int, isi_bool, isi_tuple, isIntD, isBoolD, isTupD, gLen, truth, gEq_int, gNe_int, gLe_int, gLt_int, gSub_int, gAdd_int, sPar_e, gEq_str, abAtE_e, frB_k, eCallB_e, noExc_e, eDict1_e, gNeg_int, gPow_30, eLc_e, gTuple_l, gTuple_t, gList_l, gList_t, sPutAt_e, lsAt_e, gSl_t, envOf, finR, sRaise0_e, frOf_x, sTry_e, noX_k, isi_str, F_pair, isP, F_within, isL]
      cases ha : isW a 0 (n - 1) with
      | false => simp [bnd_e, ret_e, oops_e, lift_s, lift_n, opn_e, thaw_v, thaw_t, thaw_s, rsv_v, rsv_s, frz_v, frz_t, frz_s, kept_e, eVar_e, eBin_e, toB_b, eTest_e, bAnd_e, bOr_e, bNot_e, eTruth_e, vAnd_e, vOr_e, vNot_e, eIf_e, eTup_e, eLst_e, rsvs_n, rsvs_c, eBi_e, toPart_i, eSl_e, eUn_e, eIsi_e, eChain_e, sSeq_e, sRet_e, sExpr_e, sIf_e, putS_e, asg_v, asg_t, sSet_e, tgTup_e, tgCons_e, tgNil_e, tgName_e, sAsg_e, sFor_e, eIter_e, eEnum_e, eRng1_e, eRng2_e, eCallA_e, eCallK_e, frOf_k, ite_ap, mtc_out, isi_int, isi_bool, isi_tuple, isIntD, isBoolD, isTupD, gLen, truth, gEq_int, gNe_int, gLe_int, gLt_int, gSub_int, gAdd_int, sPar_e, gEq_str, abAtE_e, frB_k, eCallB_e, noExc_e, eDict1_e, gNeg_int, gPow_30, eLc_e, gTuple_l, gTuple_t, gList_l, gList_t, sPutAt_e, lsAt_e, gSl_t, envOf, finR, sRaise0_e, frOf_x, sTry_e, noX_k, isi_str]
      | true =>
        cases hb : isW b 0 (n - 1) with
        | false => simp [bnd_e, ret_e, oops_e, lift_s, lift_n, opn_e, thaw_v, thaw_t, thaw_s, rsv_v, rsv_s, frz_v, frz_t, frz_s, kept_e, eVar_e, eBin_e, toB_b, eTest_e, bAnd_e, bOr_e, bNot_e, eTruth_e, vAnd_e, vOr_e, vNot_e, eIf_e, eTup_e, eLst_e, rsvs_n, rsvs_c, eBi_e, toPart_i, eSl_e, eUn_e, eIsi_e, eChain_e, sSeq_e, sRet_e, sExpr_e, sIf_e, putS_e, asg_v, asg_t, sSet_e, tgTup_e, tgCons_e, tgNil_e, tgName_e, sAsg_e, sFor_e, eIter_e, eEnum_e, eRng1_e, eRng2_e, eCallA_e, eCallK_e, frOf_k, ite_ap, mtc_out, isi_int, isi_bool, isi_tuple, isIntD, isBoolD, isTupD, gLen, truth, gEq_int, gNe_int, gLe_int, gLt_int, gSub_int, gAdd_int, sPar_e, gEq_str, abAtE_e, frB_k, eCallB_e, noExc_e, eDict1_e, gNeg_int, gPow_30, eLc_e, gTuple_l, gTuple_t, gList_l, gList_t, sPutAt_e, lsAt_e, gSl_t, envOf, finR, sRaise0_e, frOf_x, sTry_e, noX_k, isi_str, F_within, hb]
        | true =>
          obtain ⟨i, rfl, _, _⟩ := isW_int ha
          obtain ⟨j, rfl, _, _⟩ := isW_int hb
          simp [bnd_e, ret_e, oops_e, lift_s, lift_n, opn_e, thaw_v, thaw_t, thaw_s, rsv_v, rsv_s, frz_v, frz_t, frz_s, kept_e, eVar_e, eBin_e, toB_b, eTest_e, bAnd_e, bOr_e, bNot_e, eTruth_e, vAnd_e, vOr_e, vNot_e, eIf_e, eTup_e, eLst_e, rsvs_n, rsvs_c, eBi_e, toPart_i, eSl_e, eUn_e, eIsi_e, eChain_e, sSeq_e, sRet_e, sExpr_e, sIf_e, putS_e, asg_v, asg_t, sSet_e, tgTup_e, tgCons_e, tgNil_e, tgName_e, sAsg_e, sFor_e, eIter_e, eEnum_e, eRng1_e, eRng2_e, eCallA_e, eCallK_e, frOf_k, ite_ap, mtc_out, isi_int, isi_bool, isi_tuple, isIntD, isBoolD, isTupD, gLen, truth, gEq_int, gNe_int, gLe_int, gLt_int, gSub_int, gAdd_int, sPar_e, gEq_str, abAtE_e, frB_k, eCallB_e, noExc_e, eDict1_e, gNeg_int, gPow_30, eLc_e, gTuple_l, gTuple_t, gList_l, gList_t, sPutAt_e, lsAt_e, gSl_t, envOf, finR, sRaise0_e, frOf_x, sTry_e, noX_k, isi_str, F_within, hb, PyData.eqv]
    | a :: b :: c :: r =>
      have h3 : ¬ r.length + 1 + 1 + 1 = 2 := by omega
      simp [bnd_e, ret_e, oops_e, lift_s, lift_n, opn_e, thaw_v, thaw_t, thaw_s, rsv_v, rsv_s, frz_v, frz_t, frz_s, kept_e, eVar_e, eBin_e, toB_b, eTest_e, bAnd_e, bOr_e, bNot_e, eTruth_e, vAnd_e, vOr_e, vNot_e, eIf_e, eTup_e, eLst_e, rsvs_n, rsvs_c, eBi_e, toPart_i, eSl_e, eUn_e, eIsi_e, eChain_e, sSeq_e, sRet_e, sExpr_e, sIf_e, putS_e, asg_v, asg_t, sSet_e, tgTup_e, tgCons_e, tgNil_e, tgName_e, sAsg_e, sFor_e, eIter_e, eEnum_e, eRng1_e, eRng2_e, eCallA_e, eCallK_e, frOf_k, ite_ap, mtc_out, isi_int, isi_bool, isi_tuple, isIntD, isBoolD, isTupD, gLen, truth, gEq_int, gNe_int, gLe_int, gLt_int, gSub_int, gAdd_int, sPar_e, gEq_str, abAtE_e, frB_k, eCallB_e, noExc_e, eDict1_e, gNeg_int, gPow_30, eLc_e, gTuple_l, gTuple_t, gList_l, gList_t, sPutAt_e, lsAt_e, gSl_t, envOf, finR, sRaise0_e, frOf_x, sTry_e, noX_k, isi_str, F_pair, isP, isL, h3]
  | _ => simp [bnd_e, ret_e, oops_e, lift_s, lift_n, opn_e, thaw_v, thaw_t, thaw_s, rsv_v, rsv_s, frz_v, frz_t, frz_s, kept_e, eVar_e, eBin_e, toB_b, eTest_e, bAnd_e, bOr_e, bNot_e, eTruth_e, vAnd_e, vOr_e, vNot_e, eIf_e, eTup_e, eLst_e, rsvs_n, rsvs_c, eBi_e, toPart_i, eSl_e, eUn_e, eIsi_e, eChain_e, sSeq_e, sRet_e, sExpr_e, sIf_e, putS_e, asg_v, asg_t, sSet_e, tgTup_e, tgCons_e, tgNil_e, tgName_e, sAsg_e, sFor_e, eIter_e, eEnum_e, eRng1_e, eRng2_e, eCallA_e, eCallK_e, frOf_k, ite_ap, mtc_out, isi_int, isi_bool, isi_tuple, isIntD, isBoolD, isTupD, gLen, truth, gEq_int, gNe_int, gLe_int, gLt_int, gSub_int, gAdd_int, sPar_e, gEq_str, abAtE_e, frB_k, eCallB_e, noExc_e, eDict1_e, gNeg_int, gPow_30, eLc_e, gTuple_l, gTuple_t, gList_l, gList_t, sPutAt_e, lsAt_e, gSl_t, envOf, finR, sRaise0_e, frOf_x, sTry_e, noX_k, isi_str, F_pair, isP, isL]

theorem gIx_t0 {a : D} {r : List D} : gIx (.tuple (a :: r)) (.int 0) = some (.val a) := by
  have h : atI (a :: r) ((0 : Nat) : Int) = some a := atI_nat rfl
  have h' : atI (a :: r) 0 = some a := h
  simp only [gIx, h', Option.map_some]
theorem gIx_t1 {a b : D} {r : List D} : gIx (.tuple (a :: b :: r)) (.int 1) = some (.val b) := by
  have h : atI (a :: b :: r) ((1 : Nat) : Int) = some b := atI_nat rfl
  have h' : atI (a :: b :: r) 1 = some b := h
  simp only [gIx, h', Option.map_some]
/-! ### the loops of a look at a net -/
def enumF (i : Nat) (ds : List D) : List D := (ds.zipIdx i).map fun p => .tuple [.int (p.2 : Nat), p.1]
theorem enumF_c {i : Nat} {d : D} {ds : List D} : enumF i (d :: ds) = .tuple [.int (i : Nat), d] :: enumF (i + 1) ds := rfl
theorem enumF_0 {ds : List D} : enumD ds = enumF 0 ds := rfl
def trkAt : Nat → List D → Option Nat
  | _, [] => none
  | i, d :: ds => if isW d 1 4 = true then trkAt (i + 1) ds else some i
def linAt (n : Int) : Nat → List D → Option Nat
  | _, [] => none
  | i, d :: ds => if isL d n = true then linAt n (i + 1) ds else some i
def told (w : Str) (r : Option Nat) (e : PEnv) : Res Out := match r with
  | some j => .ok (.ret (.val (.tuple [.str w, .int (j : Nat)]))) e
  | none => .ok .next e
abbrev sIx : D → PEnv → Option PEnv := tgTup 2 (tgCons (tgName 4) (tgCons (tgName 5) tgNil))
abbrev sIy : D → PEnv → Option PEnv := tgTup 2 (tgCons (tgName 1) (tgCons (tgName 6) tgNil))
theorem loop_trk (V T L : SV) (x1 c : Option SV) : ∀ (ts : List D) (i : Nat) (a b : Option SV), ∃ a' b', goFor sIx B_net_error_2 (enumF i ts) [some V, x1, some T, some L, a, b, c] = told "tracks" (trkAt i ts) [some V, x1, some T, some L, a', b', c]
  | [], i, a, b => ⟨a, b, rfl⟩
  | d :: ds, i, a, b => by
    rw [enumF_c]
    unfold goFor trkAt B_net_error_2
    cases hd : isW d 1 4 with
    | true =>
      obtain ⟨a', b', h⟩ := loop_trk V T L x1 c ds (i + 1) (some (.im (.int (i : Nat)))) (some (.im d))
      refine ⟨a', b', ?_⟩
      rw [if_pos rfl, ← h]
      simp [bnd_e, ret_e, oops_e, lift_s, lift_n, opn_e, thaw_v, thaw_t, thaw_s, rsv_v, rsv_s, frz_v, frz_t, frz_s, kept_e, eVar_e, eBin_e, toB_b, eTest_e, bAnd_e, bOr_e, bNot_e, eTruth_e, vAnd_e, vOr_e, vNot_e, eIf_e, eTup_e, eLst_e, rsvs_n, rsvs_c, eBi_e, toPart_i, eSl_e, eUn_e, eIsi_e, eChain_e, sSeq_e, sRet_e, sExpr_e, sIf_e, putS_e, asg_v, asg_t, sSet_e, tgTup_e, tgCons_e, tgNil_e, tgName_e, sAsg_e, sFor_e, eIter_e, eEnum_e, eRng1_e, eRng2_e, eCallA_e, eCallK_e, frOf_k, ite_ap, mtc_out, isi_int, isi_bool, isi_tuple, isIntD, isBoolD, isTupD, gLen, truth, gEq_int, gNe_int, gLe_int, gLt_int, gSub_int, gAdd_int, sPar_e, gEq_str, abAtE_e, frB_k, eCallB_e, noExc_e, eDict1_e, gNeg_int, gPow_30, eLc_e, gTuple_l, gTuple_t, gList_l, gList_t, sPutAt_e, lsAt_e, gSl_t, envOf, finR, sRaise0_e, frOf_x, sTry_e, noX_k, isi_str, F_within, hd, B_net_error_2]
    | false =>
      refine ⟨some (.im (.int (i : Nat))), some (.im d), ?_⟩
      rw [if_neg Bool.false_ne_true]
      simp [bnd_e, ret_e, oops_e, lift_s, lift_n, opn_e, thaw_v, thaw_t, thaw_s, rsv_v, rsv_s, frz_v, frz_t, frz_s, kept_e, eVar_e, eBin_e, toB_b, eTest_e, bAnd_e, bOr_e, bNot_e, eTruth_e, vAnd_e, vOr_e, vNot_e, eIf_e, eTup_e, eLst_e, rsvs_n, rsvs_c, eBi_e, toPart_i, eSl_e, eUn_e, eIsi_e, eChain_e, sSeq_e, sRet_e, sExpr_e, sIf_e, putS_e, asg_v, asg_t, sSet_e, tgTup_e, tgCons_e, tgNil_e, tgName_e, sAsg_e, sFor_e, eIter_e, eEnum_e, eRng1_e, eRng2_e, eCallA_e, eCallK_e, frOf_k, ite_ap, mtc_out, isi_int, isi_bool, isi_tuple, isIntD, isBoolD, isTupD, gLen, truth, gEq_int, gNe_int, gLe_int, gLt_int, gSub_int, gAdd_int, sPar_e, gEq_str, abAtE_e, frB_k, eCallB_e, noExc_e, eDict1_e, gNeg_int, gPow_30, eLc_e, gTuple_l, gTuple_t, gList_l, gList_t, sPutAt_e, lsAt_e, gSl_t, envOf, finR, sRaise0_e, frOf_x, sTry_e, noX_k, isi_str, F_within, hd, told]
theorem loop_lin (V L : SV) (ts : List D) (c1 c2 : Option SV) : ∀ (ls : List D) (i : Nat) (a b : Option SV), ∃ a' b', goFor sIy B_net_error_1 (enumF i ls) [some V, a, some (.im (.tuple ts)), some L, c1, c2, b] = told "line" (linAt ts.length i ls) [some V, a', some (.im (.tuple ts)), some L, c1, c2, b']
  | [], i, a, b => ⟨a, b, rfl⟩
  | d :: ds, i, a, b => by
    rw [enumF_c]
    unfold goFor linAt B_net_error_1
    cases hd : isL d ts.length with
    | true =>
      obtain ⟨a', b', h⟩ := loop_lin V L ts c1 c2 ds (i + 1) (some (.im (.int (i : Nat)))) (some (.im d))
      refine ⟨a', b', ?_⟩
      rw [if_pos rfl, ← h]
      simp [bnd_e, ret_e, oops_e, lift_s, lift_n, opn_e, thaw_v, thaw_t, thaw_s, rsv_v, rsv_s, frz_v, frz_t, frz_s, kept_e, eVar_e, eBin_e, toB_b, eTest_e, bAnd_e, bOr_e, bNot_e, eTruth_e, vAnd_e, vOr_e, vNot_e, eIf_e, eTup_e, eLst_e, rsvs_n, rsvs_c, eBi_e, toPart_i, eSl_e, eUn_e, eIsi_e, eChain_e, sSeq_e, sRet_e, sExpr_e, sIf_e, putS_e, asg_v, asg_t, sSet_e, tgTup_e, tgCons_e, tgNil_e, tgName_e, sAsg_e, sFor_e, eIter_e, eEnum_e, eRng1_e, eRng2_e, eCallA_e, eCallK_e, frOf_k, ite_ap, mtc_out, isi_int, isi_bool, isi_tuple, isIntD, isBoolD, isTupD, gLen, truth, gEq_int, gNe_int, gLe_int, gLt_int, gSub_int, gAdd_int, sPar_e, gEq_str, abAtE_e, frB_k, eCallB_e, noExc_e, eDict1_e, gNeg_int, gPow_30, eLc_e, gTuple_l, gTuple_t, gList_l, gList_t, sPutAt_e, lsAt_e, gSl_t, envOf, finR, sRaise0_e, frOf_x, sTry_e, noX_k, isi_str, F_lineP, hd, B_net_error_1]
    | false =>
      refine ⟨some (.im (.int (i : Nat))), some (.im d), ?_⟩
      rw [if_neg Bool.false_ne_true]
      simp [bnd_e, ret_e, oops_e, lift_s, lift_n, opn_e, thaw_v, thaw_t, thaw_s, rsv_v, rsv_s, frz_v, frz_t, frz_s, kept_e, eVar_e, eBin_e, toB_b, eTest_e, bAnd_e, bOr_e, bNot_e, eTruth_e, vAnd_e, vOr_e, vNot_e, eIf_e, eTup_e, eLst_e, rsvs_n, rsvs_c, eBi_e, toPart_i, eSl_e, eUn_e, eIsi_e, eChain_e, sSeq_e, sRet_e, sExpr_e, sIf_e, putS_e, asg_v, asg_t, sSet_e, tgTup_e, tgCons_e, tgNil_e, tgName_e, sAsg_e, sFor_e, eIter_e, eEnum_e, eRng1_e, eRng2_e, eCallA_e, eCallK_e, frOf_k, ite_ap, mtc_out, isi_int, isi_bool, isi_tuple, isIntD, isBoolD, isTupD, gLen, truth, gEq_int, gNe_int, gLe_int, gLt_int, gSub_int, gAdd_int, sPar_e, gEq_str, abAtE_e, frB_k, eCallB_e, noExc_e, eDict1_e, gNeg_int, gPow_30, eLc_e, gTuple_l, gTuple_t, gList_l, gList_t, sPutAt_e, lsAt_e, gSl_t, envOf, finR, sRaise0_e, frOf_x, sTry_e, noX_k, isi_str, F_lineP, hd, told]
/-! ### lines in order -/

def ltP (p q : Int × Int) : Bool := decide (p.1 < q.1) || (decide (p.1 = q.1) && decide (p.2 < q.2))
theorem gLt_pr (p q : Int × Int) : gLt (prD p) (prD q) = some (.val (.bool (ltP p q))) := by
  obtain ⟨a, b⟩ := p
  obtain ⟨c, d⟩ := q
  simp only [gLt, prD, intsOf, Option.map_some, Option.bind_some, ltP]
  congr 3
  simp only [HT.lexLt]
  by_cases h2 : a = c
  · by_cases h3 : b = d
    · simp [h2, h3]
    · simp [h2, h3]
  · simp [h2]
theorem gLe_pr (p q : Int × Int) : gLe (prD q) (prD p) = some (.val (.bool (!ltP p q))) := by
  obtain ⟨a, b⟩ := p
  obtain ⟨c, d⟩ := q
  simp only [gLe, prD, intsOf, Option.map_some, Option.bind_some, ltP]
  congr 3
  unfold leInts
  have e : min [c, d].length [a, b].length = 2 := rfl
  rw [e, Ob.lexAt_succ, Ob.lexAt_succ, Ob.lexAt_zero]
  show (if decide (c = a) = true then (if decide (d = b) = true then true else decide (d ≤ b)) else decide (c ≤ a)) = _
  by_cases h1 : c = a
  · by_cases h2 : d = b
    · simp [h1, h2]
    · have h3 : ¬ b = d := fun z => h2 z.symm
      by_cases h4 : d ≤ b
      · have h5 : ¬ b < d := by omega
        simp [h1, h2, h4, h5]
      · have h5 : b < d := by omega
        simp [h1, h2, h4, h5]
  · have h3 : ¬ a = c := fun z => h1 z.symm
    by_cases h4 : c ≤ a
    · have h5 : ¬ a < c := by omega
      simp [h1, h3, h4, h5]
    · have h5 : a < c := by omega
      simp [h1, h3, h4, h5]
/-- the first spot at which a line is not behind the one ahead: i spots on, k to look at -/
def ordAt (ps : List (Int × Int)) : Nat → Nat → Option Nat
  | _, 0 => none
  | i, k + 1 => if ltP (ps.getD (i - 1) (0, 0)) (ps.getD i (0, 0)) = true then ordAt ps (i + 1) k else some i
theorem rangeD_succ {lo : Int} {n : Nat} : rangeD lo (n + 1) = .int lo :: rangeD (lo + 1) n := by
  unfold rangeD
  rw [List.range_succ_eq_map, List.map_cons, List.map_map]
  congr 1
  · simp
  · apply List.map_congr_left
    intro a _
    simp only [Function.comp]
    congr 1
    omega
theorem gIx_pr {ps : List (Int × Int)} {i : Nat} (h : i < ps.length) : gIx (.tuple (ps.map prD)) (.int (i : Nat)) = some (.val (prD (ps.getD i (0, 0)))) := by
  have e : (ps.map prD)[i]? = some (prD (ps.getD i (0, 0))) := by
    rw [List.getElem?_map, List.getElem?_eq_getElem h, List.getD_eq_getElem?_getD, List.getElem?_eq_getElem h]
    rfl
  simp only [gIx, atI_nat e, Option.map_some]
theorem loop_ordP (V T : SV) (c1 c2 c3 : Option SV) (ps : List (Int × Int)) : ∀ (k i : Nat) (a : Option SV), 1 ≤ i → i + k ≤ ps.length → ∃ a', goFor (tgName 1) B_net_error_0 (rangeD (i : Nat) k) [some V, a, some T, some (.im (.tuple (ps.map prD))), c1, c2, c3] = told "order" (ordAt ps i k) [some V, a', some T, some (.im (.tuple (ps.map prD))), c1, c2, c3]
  | 0, i, a, _, _ => ⟨a, rfl⟩
  | k + 1, i, a, hi, hk => by
    rw [rangeD_succ]
    have e1 : ((i : Nat) : Int) - 1 = ((i - 1 : Nat) : Int) := by omega
    have e2 : ((i : Nat) : Int) + 1 = ((i + 1 : Nat) : Int) := by omega
    have g1 := gIx_pr (ps := ps) (i := i) (by omega)
    have g2 := gIx_pr (ps := ps) (i := i - 1) (by omega)
    unfold goFor ordAt B_net_error_0
    cases hd : ltP (ps.getD (i - 1) (0, 0)) (ps.getD i (0, 0)) with
    | true =>
      obtain ⟨a', h⟩ := loop_ordP V T c1 c2 c3 ps k (i + 1) (some (.im (.int (i : Nat)))) (by omega) (by omega)
      refine ⟨a', ?_⟩
      rw [if_pos rfl, ← h, e2]
      simp only [bnd_e, ret_e, oops_e, lift_s, lift_n, opn_e, thaw_v, thaw_t, thaw_s, rsv_v, rsv_s, frz_v, frz_t, frz_s, kept_e, eVar_e, eBin_e, toB_b, eTest_e, bAnd_e, bOr_e, bNot_e, eTruth_e, vAnd_e, vOr_e, vNot_e, eIf_e, eTup_e, eLst_e, rsvs_n, rsvs_c, eBi_e, toPart_i, eSl_e, eUn_e, eIsi_e, eChain_e, sSeq_e, sRet_e, sExpr_e, sIf_e, putS_e, asg_v, asg_t, sSet_e, tgTup_e, tgCons_e, tgNil_e, tgName_e, sAsg_e, sFor_e, eIter_e, eEnum_e, eRng1_e, eRng2_e, eCallA_e, eCallK_e, frOf_k, ite_ap, mtc_out, isi_int, isi_bool, isi_tuple, isIntD, isBoolD, isTupD, gLen, truth, gEq_int, gNe_int, gLe_int, gLt_int, gSub_int, gAdd_int, sPar_e, gEq_str, abAtE_e, frB_k, eCallB_e, noExc_e, eDict1_e, gNeg_int, gPow_30, eLc_e, gTuple_l, gTuple_t, gList_l, gList_t, sPutAt_e, lsAt_e, gSl_t, envOf, finR, sRaise0_e, frOf_x, sTry_e, noX_k, isi_str, g1, e1, g2, gLe_pr, hd, List.set, List.getElem?_cons_zero, List.getElem?_cons_succ, Bool.not_true, Bool.false_eq_true, if_false]
      rfl
    | false =>
      refine ⟨some (.im (.int (i : Nat))), ?_⟩
      rw [if_neg Bool.false_ne_true]
      simp only [bnd_e, ret_e, oops_e, lift_s, lift_n, opn_e, thaw_v, thaw_t, thaw_s, rsv_v, rsv_s, frz_v, frz_t, frz_s, kept_e, eVar_e, eBin_e, toB_b, eTest_e, bAnd_e, bOr_e, bNot_e, eTruth_e, vAnd_e, vOr_e, vNot_e, eIf_e, eTup_e, eLst_e, rsvs_n, rsvs_c, eBi_e, toPart_i, eSl_e, eUn_e, eIsi_e, eChain_e, sSeq_e, sRet_e, sExpr_e, sIf_e, putS_e, asg_v, asg_t, sSet_e, tgTup_e, tgCons_e, tgNil_e, tgName_e, sAsg_e, sFor_e, eIter_e, eEnum_e, eRng1_e, eRng2_e, eCallA_e, eCallK_e, frOf_k, ite_ap, mtc_out, isi_int, isi_bool, isi_tuple, isIntD, isBoolD, isTupD, gLen, truth, gEq_int, gNe_int, gLe_int, gLt_int, gSub_int, gAdd_int, sPar_e, gEq_str, abAtE_e, frB_k, eCallB_e, noExc_e, eDict1_e, gNeg_int, gPow_30, eLc_e, gTuple_l, gTuple_t, gList_l, gList_t, sPutAt_e, lsAt_e, gSl_t, envOf, finR, sRaise0_e, frOf_x, sTry_e, noX_k, isi_str, g1, e1, g2, gLe_pr, hd, List.set, List.getElem?_cons_zero, List.getElem?_cons_succ, Bool.not_false, if_true, told]
/-! ### the look at a net, of the program and of the law -/
def isB (v : D) : Bool := match v with
  | .tuple [.tuple ts, .tuple _] => decide (1 ≤ (ts.length : Int)) && decide ((ts.length : Int) ≤ 10)
  | _ => false
theorem F_built (v : D) : F__is_built [v] = .ok (.val (.bool (isB v))) := by
  unfold F__is_built runA g__is_built
  cases v with
  | tuple ds =>
    match ds with
    | [] => simp [bnd_e, ret_e, oops_e, lift_s, lift_n, opn_e, thaw_v, thaw_t, thaw_s, rsv_v, rsv_s, frz_v, frz_t, frz_s, kept_e, eVar_e, eBin_e, toB_b, eTest_e, bAnd_e, bOr_e, bNot_e, eTruth_e, vAnd_e, vOr_e, vNot_e, eIf_e, eTup_e, eLst_e, rsvs_n, rsvs_c, eBi_e, toPart_i, eSl_e, eUn_e, eIsi_e, eChain_e, sSeq_e, sRet_e, sExpr_e, sIf_e, putS_e, asg_v, asg_t, sSet_e, tgTup_e, tgCons_e, tgNil_e, tgName_e, sAsg_e, sFor_e, eIter_e, eEnum_e, eRng1_e, eRng2_e, eCallA_e, eCallK_e, frOf_k, ite_ap, mtc_out, isi_int, isi_bool, isi_tuple, isIntD, isBoolD, isTupD, gLen, truth, gEq_int, gNe_int, gLe_int, gLt_int, gSub_int, gAdd_int, sPar_e, gEq_str, abAtE_e, frB_k, eCallB_e, noExc_e, eDict1_e, gNeg_int, gPow_30, eLc_e, gTuple_l, gTuple_t, gList_l, gList_t, sPutAt_e, lsAt_e, gSl_t, envOf, finR, sRaise0_e, frOf_x, sTry_e, noX_k, isi_str, F_pair, isP, isB]
    | [a] => simp [bnd_e, ret_e, oops_e, lift_s, lift_n, opn_e, thaw_v, thaw_t, thaw_s, rsv_v, rsv_s, frz_v, frz_t, frz_s, kept_e, eVar_e, eBin_e, toB_b, eTest_e, bAnd_e, bOr_e, bNot_e, eTruth_e, vAnd_e, vOr_e, vNot_e, eIf_e, eTup_e, eLst_e, rsvs_n, rsvs_c, eBi_e, toPart_i, eSl_e, eUn_e, eIsi_e, eChain_e, sSeq_e, sRet_e, sExpr_e, sIf_e, putS_e, asg_v, asg_t, sSet_e, tgTup_e, tgCons_e, tgNil_e, tgName_e, sAsg_e, sFor_e, eIter_e, eEnum_e, eRng1_e, eRng2_e, eCallA_e, eCallK_e, frOf_k, ite_ap, mtc_out, isi_int, isi_bool, isi_tuple, isIntD, isBoolD, isTupD, gLen, truth, gEq_int, gNe_int, gLe_int, gLt_int, gSub_int, gAdd_int, sPar_e, gEq_str, abAtE_e, frB_k, eCallB_e, noExc_e, eDict1_e, gNeg_int, gPow_30, eLc_e, gTuple_l, gTuple_t, gList_l, gList_t, sPutAt_e, lsAt_e, gSl_t, envOf, finR, sRaise0_e, frOf_x, sTry_e, noX_k, isi_str, F_pair, isP, isB]
    | [a, b] =>
      cases a with
      | tuple ts =>
        cases b with
        | tuple ls =>
          by_cases h1 : 1 ≤ (ts.length : Int)
          · simp [bnd_e, ret_e, oops_e, lift_s, lift_n, opn_e, thaw_v, thaw_t, thaw_s, rsv_v, rsv_s, frz_v, frz_t, frz_s, kept_e, eVar_e, eBin_e, toB_b, eTest_e, bAnd_e, bOr_e, bNot_e, eTruth_e, vAnd_e, vOr_e, vNot_e, eIf_e, eTup_e, eLst_e, rsvs_n, rsvs_c, eBi_e, toPart_i, eSl_e, eUn_e, eIsi_e, eChain_e, sSeq_e, sRet_e, sExpr_e, sIf_e, putS_e, asg_v, asg_t, sSet_e, tgTup_e, tgCons_e, tgNil_e, tgName_e, sAsg_e, sFor_e, eIter_e, eEnum_e, eRng1_e, eRng2_e, eCallA_e, eCallK_e, frOf_k, ite_ap, mtc_out, isi_int, isi_bool, isi_tuple, isIntD, isBoolD, isTupD, gLen, truth, gEq_int, gNe_int, gLe_int, gLt_int, gSub_int, gAdd_int, sPar_e, gEq_str, abAtE_e, frB_k, eCallB_e, noExc_e, eDict1_e, gNeg_int, gPow_30, eLc_e, gTuple_l, gTuple_t, gList_l, gList_t, sPutAt_e, lsAt_e, gSl_t, envOf, finR, sRaise0_e, frOf_x, sTry_e, noX_k, isi_str, F_pair, isP, isB, h1]
          · simp [bnd_e, ret_e, oops_e, lift_s, lift_n, opn_e, thaw_v, thaw_t, thaw_s, rsv_v, rsv_s, frz_v, frz_t, frz_s, kept_e, eVar_e, eBin_e, toB_b, eTest_e, bAnd_e, bOr_e, bNot_e, eTruth_e, vAnd_e, vOr_e, vNot_e, eIf_e, eTup_e, eLst_e, rsvs_n, rsvs_c, eBi_e, toPart_i, eSl_e, eUn_e, eIsi_e, eChain_e, sSeq_e, sRet_e, sExpr_e, sIf_e, putS_e, asg_v, asg_t, sSet_e, tgTup_e, tgCons_e, tgNil_e, tgName_e, sAsg_e, sFor_e, eIter_e, eEnum_e, eRng1_e, eRng2_e, eCallA_e, eCallK_e, frOf_k, ite_ap, mtc_out, isi_int, isi_bool, isi_tuple, isIntD, isBoolD, isTupD, gLen, truth, gEq_int, gNe_int, gLe_int, gLt_int, gSub_int, gAdd_int, sPar_e, gEq_str, abAtE_e, frB_k, eCallB_e, noExc_e, eDict1_e, gNeg_int, gPow_30, eLc_e, gTuple_l, gTuple_t, gList_l, gList_t, sPutAt_e, lsAt_e, gSl_t, envOf, finR, sRaise0_e, frOf_x, sTry_e, noX_k, isi_str, F_pair, isP, isB, h1]
        | _ => simp [bnd_e, ret_e, oops_e, lift_s, lift_n, opn_e, thaw_v, thaw_t, thaw_s, rsv_v, rsv_s, frz_v, frz_t, frz_s, kept_e, eVar_e, eBin_e, toB_b, eTest_e, bAnd_e, bOr_e, bNot_e, eTruth_e, vAnd_e, vOr_e, vNot_e, eIf_e, eTup_e, eLst_e, rsvs_n, rsvs_c, eBi_e, toPart_i, eSl_e, eUn_e, eIsi_e, eChain_e, sSeq_e, sRet_e, sExpr_e, sIf_e, putS_e, asg_v, asg_t, sSet_e, tgTup_e, tgCons_e, tgNil_e, tgName_e, sAsg_e, sFor_e, eIter_e, eEnum_e, eRng1_e, eRng2_e, eCallA_e, eCallK_e, frOf_k, ite_ap, mtc_out, isi_int, isi_bool, isi_tuple, isIntD, isBoolD, isTupD, gLen, truth, gEq_int, gNe_int, gLe_int, gLt_int, gSub_int, gAdd_int, sPar_e, gEq_str, abAtE_e, frB_k, eCallB_e, noExc_e, eDict1_e, gNeg_int, gPow_30, eLc_e, gTuple_l, gTuple_t, gList_l, gList_t, sPutAt_e, lsAt_e, gSl_t, envOf, finR, sRaise0_e, frOf_x, sTry_e, noX_k, isi_str, F_pair, isP, isB]
      | _ => simp [bnd_e, ret_e, oops_e, lift_s, lift_n, opn_e, thaw_v, thaw_t, thaw_s, rsv_v, rsv_s, frz_v, frz_t, frz_s, kept_e, eVar_e, eBin_e, toB_b, eTest_e, bAnd_e, bOr_e, bNot_e, eTruth_e, vAnd_e, vOr_e, vNot_e, eIf_e, eTup_e, eLst_e, rsvs_n, rsvs_c, eBi_e, toPart_i, eSl_e, eUn_e, eIsi_e, eChain_e, sSeq_e, sRet_e, sExpr_e, sIf_e, putS_e, asg_v, asg_t, sSet_e, tgTup_e, tgCons_e, tgNil_e, tgName_e, sAsg_e, sFor_e, eIter_e, eEnum_e, eRng1_e, eRng2_e, eCallA_e, eCallK_e, frOf_k, ite_ap, mtc_out, isi_int, isi_bool, isi_tuple, isIntD, isBoolD, isTupD, gLen, truth, gEq_int, gNe_int, gLe_int, gLt_int, gSub_int, gAdd_int, sPar_e, gEq_str, abAtE_e, frB_k, eCallB_e, noExc_e, eDict1_e, gNeg_int, gPow_30, eLc_e, gTuple_l, gTuple_t, gList_l, gList_t, sPutAt_e, lsAt_e, gSl_t, envOf, finR, sRaise0_e, frOf_x, sTry_e, noX_k, isi_str, F_pair, isP, isB]
    | a :: b :: c :: r =>
      have h3 : ¬ r.length + 1 + 1 + 1 = 2 := by omega
      simp [bnd_e, ret_e, oops_e, lift_s, lift_n, opn_e, thaw_v, thaw_t, thaw_s, rsv_v, rsv_s, frz_v, frz_t, frz_s, kept_e, eVar_e, eBin_e, toB_b, eTest_e, bAnd_e, bOr_e, bNot_e, eTruth_e, vAnd_e, vOr_e, vNot_e, eIf_e, eTup_e, eLst_e, rsvs_n, rsvs_c, eBi_e, toPart_i, eSl_e, eUn_e, eIsi_e, eChain_e, sSeq_e, sRet_e, sExpr_e, sIf_e, putS_e, asg_v, asg_t, sSet_e, tgTup_e, tgCons_e, tgNil_e, tgName_e, sAsg_e, sFor_e, eIter_e, eEnum_e, eRng1_e, eRng2_e, eCallA_e, eCallK_e, frOf_k, ite_ap, mtc_out, isi_int, isi_bool, isi_tuple, isIntD, isBoolD, isTupD, gLen, truth, gEq_int, gNe_int, gLe_int, gLt_int, gSub_int, gAdd_int, sPar_e, gEq_str, abAtE_e, frB_k, eCallB_e, noExc_e, eDict1_e, gNeg_int, gPow_30, eLc_e, gTuple_l, gTuple_t, gList_l, gList_t, sPutAt_e, lsAt_e, gSl_t, envOf, finR, sRaise0_e, frOf_x, sTry_e, noX_k, isi_str, F_pair, isP, isB, h3]
  | _ => simp [bnd_e, ret_e, oops_e, lift_s, lift_n, opn_e, thaw_v, thaw_t, thaw_s, rsv_v, rsv_s, frz_v, frz_t, frz_s, kept_e, eVar_e, eBin_e, toB_b, eTest_e, bAnd_e, bOr_e, bNot_e, eTruth_e, vAnd_e, vOr_e, vNot_e, eIf_e, eTup_e, eLst_e, rsvs_n, rsvs_c, eBi_e, toPart_i, eSl_e, eUn_e, eIsi_e, eChain_e, sSeq_e, sRet_e, sExpr_e, sIf_e, putS_e, asg_v, asg_t, sSet_e, tgTup_e, tgCons_e, tgNil_e, tgName_e, sAsg_e, sFor_e, eIter_e, eEnum_e, eRng1_e, eRng2_e, eCallA_e, eCallK_e, frOf_k, ite_ap, mtc_out, isi_int, isi_bool, isi_tuple, isIntD, isBoolD, isTupD, gLen, truth, gEq_int, gNe_int, gLe_int, gLt_int, gSub_int, gAdd_int, sPar_e, gEq_str, abAtE_e, frB_k, eCallB_e, noExc_e, eDict1_e, gNeg_int, gPow_30, eLc_e, gTuple_l, gTuple_t, gList_l, gList_t, sPutAt_e, lsAt_e, gSl_t, envOf, finR, sRaise0_e, frOf_x, sTry_e, noX_k, isi_str, F_pair, isP, isB]
def unpr : D → Int × Int
  | .tuple [.int a, .int b] => (a, b)
  | _ => (0, 0)
def fault2 (ts ls : List D) : D := match trkAt 0 ts with
  | some j => .tuple [.str "tracks", .int (j : Nat)]
  | none => match linAt ts.length 0 ls with
    | some j => .tuple [.str "line", .int (j : Nat)]
    | none => match ordAt (ls.map unpr) 1 (ls.length - 1) with
      | some j => .tuple [.str "order", .int (j : Nat)]
      | none => .none
def fault (v : D) : D := if isB v = true then (match v with
  | .tuple [.tuple ts, .tuple ls] => fault2 ts ls
  | _ => .none) else .str "form"
theorem isL_pr {v : D} {n : Int} (h : isL v n = true) : ∃ p, v = prD p := by
  unfold isL at h
  split at h
  · rename_i a b
    simp only [Bool.and_eq_true] at h
    obtain ⟨i, rfl, _, _⟩ := isW_int h.1
    obtain ⟨j, rfl, _, _⟩ := isW_int h.2.1
    exact ⟨(i, j), rfl⟩
  · cases h
theorem lin_prs {n : Int} : ∀ {ls : List D} {i : Nat}, linAt n i ls = none → ∃ ps : List (Int × Int), ls = ps.map prD
  | [], _, _ => ⟨[], rfl⟩
  | d :: ds, i, h => by
    unfold linAt at h
    cases hd : isL d n with
    | false => rw [hd, if_neg Bool.false_ne_true] at h; cases h
    | true =>
      rw [hd, if_pos rfl] at h
      obtain ⟨ps, hps⟩ := lin_prs h
      obtain ⟨p, hp⟩ := isL_pr hd
      exact ⟨p :: ps, by rw [hps, hp]; rfl⟩
theorem unpr_pr (ps : List (Int × Int)) : (ps.map prD).map unpr = ps := by
  rw [List.map_map]
  have : (unpr ∘ prD) = id := by funext p; rfl
  rw [this, List.map_id]
theorem finR_v {d : D} {e : PEnv} {b : Bool} : finR b (.val d) e = .ok (.val d) := rfl
theorem rng_len {n : Nat} (h : n ≤ 100000) : int2 [.int 1, .int (n : Nat)] = some (1, (n : Int)) := by
  have h2 : inLine (n : Int) = true := decide_eq_true (by omega)
  simp only [int2, h2, and_true]
  rfl
theorem rng_0 : int2 [.int 1, .int 0] = some (1, 0) := rng_len (n := 0) (by omega)
theorem F_faultP (v : D) (hl : ∀ ts ls, v = .tuple [.tuple ts, .tuple ls] → ls.length ≤ 100000) : F_net_error [v] = .ok (.val (fault v)) := by
  unfold F_net_error runA g_net_error fault
  cases hb : isB v with
  | false => simp [bnd_e, ret_e, oops_e, lift_s, lift_n, opn_e, thaw_v, thaw_t, thaw_s, rsv_v, rsv_s, frz_v, frz_t, frz_s, kept_e, eVar_e, eBin_e, toB_b, eTest_e, bAnd_e, bOr_e, bNot_e, eTruth_e, vAnd_e, vOr_e, vNot_e, eIf_e, eTup_e, eLst_e, rsvs_n, rsvs_c, eBi_e, toPart_i, eSl_e, eUn_e, eIsi_e, eChain_e, sSeq_e, sRet_e, sExpr_e, sIf_e, putS_e, asg_v, asg_t, sSet_e, tgTup_e, tgCons_e, tgNil_e, tgName_e, sAsg_e, sFor_e, eIter_e, eEnum_e, eRng1_e, eRng2_e, eCallA_e, eCallK_e, frOf_k, ite_ap, mtc_out, isi_int, isi_bool, isi_tuple, isIntD, isBoolD, isTupD, gLen, truth, gEq_int, gNe_int, gLe_int, gLt_int, gSub_int, gAdd_int, sPar_e, gEq_str, abAtE_e, frB_k, eCallB_e, noExc_e, eDict1_e, gNeg_int, gPow_30, eLc_e, gTuple_l, gTuple_t, gList_l, gList_t, sPutAt_e, lsAt_e, gSl_t, envOf, finR, sRaise0_e, frOf_x, sTry_e, noX_k, isi_str, F_built, hb]
  | true =>
    rw [if_pos rfl]
    unfold isB at hb
    split at hb
    · rename_i ts ls
      have hlen := hl ts ls rfl
      obtain ⟨a1, b1, h1⟩ := loop_trk (.im (.tuple [.tuple ts, .tuple ls])) (.im (.tuple ts)) (.im (.tuple ls)) none none ts 0 none none
      have hbt : isB (.tuple [.tuple ts, .tuple ls]) = true := hb
      simp [bnd_e, ret_e, oops_e, lift_s, lift_n, opn_e, thaw_v, thaw_t, thaw_s, rsv_v, rsv_s, frz_v, frz_t, frz_s, kept_e, eVar_e, eBin_e, toB_b, eTest_e, bAnd_e, bOr_e, bNot_e, eTruth_e, vAnd_e, vOr_e, vNot_e, eIf_e, eTup_e, eLst_e, rsvs_n, rsvs_c, eBi_e, toPart_i, eSl_e, eUn_e, eIsi_e, eChain_e, sSeq_e, sRet_e, sExpr_e, sIf_e, putS_e, asg_v, asg_t, sSet_e, tgTup_e, tgCons_e, tgNil_e, tgName_e, sAsg_e, sFor_e, eIter_e, eEnum_e, eRng1_e, eRng2_e, eCallA_e, eCallK_e, frOf_k, ite_ap, mtc_out, isi_int, isi_bool, isi_tuple, isIntD, isBoolD, isTupD, gLen, truth, gEq_int, gNe_int, gLe_int, gLt_int, gSub_int, gAdd_int, sPar_e, gEq_str, abAtE_e, frB_k, eCallB_e, noExc_e, eDict1_e, gNeg_int, gPow_30, eLc_e, gTuple_l, gTuple_t, gList_l, gList_t, sPutAt_e, lsAt_e, gSl_t, envOf, finR, sRaise0_e, frOf_x, sTry_e, noX_k, isi_str, F_built, hbt, itemsOf, enumF_0, h1]
      unfold fault2
      cases ht : trkAt 0 ts with
      | some j => simp [told]
      | none =>
        obtain ⟨a2, b2, h2⟩ := loop_lin (.im (.tuple [.tuple ts, .tuple ls])) (.im (.tuple ls)) ts a1 b1 ls 0 none none
        simp [bnd_e, ret_e, oops_e, lift_s, lift_n, opn_e, thaw_v, thaw_t, thaw_s, rsv_v, rsv_s, frz_v, frz_t, frz_s, kept_e, eVar_e, eBin_e, toB_b, eTest_e, bAnd_e, bOr_e, bNot_e, eTruth_e, vAnd_e, vOr_e, vNot_e, eIf_e, eTup_e, eLst_e, rsvs_n, rsvs_c, eBi_e, toPart_i, eSl_e, eUn_e, eIsi_e, eChain_e, sSeq_e, sRet_e, sExpr_e, sIf_e, putS_e, asg_v, asg_t, sSet_e, tgTup_e, tgCons_e, tgNil_e, tgName_e, sAsg_e, sFor_e, eIter_e, eEnum_e, eRng1_e, eRng2_e, eCallA_e, eCallK_e, frOf_k, ite_ap, mtc_out, isi_int, isi_bool, isi_tuple, isIntD, isBoolD, isTupD, gLen, truth, gEq_int, gNe_int, gLe_int, gLt_int, gSub_int, gAdd_int, sPar_e, gEq_str, abAtE_e, frB_k, eCallB_e, noExc_e, eDict1_e, gNeg_int, gPow_30, eLc_e, gTuple_l, gTuple_t, gList_l, gList_t, sPutAt_e, lsAt_e, gSl_t, envOf, finR, sRaise0_e, frOf_x, sTry_e, noX_k, isi_str, told, itemsOf, h2]
        cases hn : linAt (ts.length : Int) 0 ls with
        | some j => simp [told]
        | none =>
          obtain ⟨ps, rfl⟩ := lin_prs hn
          rw [List.length_map] at hlen
          rw [unpr_pr]
          by_cases h0 : ps.length = 0
          · have e0 : ps = [] := List.eq_nil_of_length_eq_zero h0
            subst e0
            simp [bnd_e, ret_e, oops_e, lift_s, lift_n, opn_e, thaw_v, thaw_t, thaw_s, rsv_v, rsv_s, frz_v, frz_t, frz_s, kept_e, eVar_e, eBin_e, toB_b, eTest_e, bAnd_e, bOr_e, bNot_e, eTruth_e, vAnd_e, vOr_e, vNot_e, eIf_e, eTup_e, eLst_e, rsvs_n, rsvs_c, eBi_e, toPart_i, eSl_e, eUn_e, eIsi_e, eChain_e, sSeq_e, sRet_e, sExpr_e, sIf_e, putS_e, asg_v, asg_t, sSet_e, tgTup_e, tgCons_e, tgNil_e, tgName_e, sAsg_e, sFor_e, eIter_e, eEnum_e, eRng1_e, eRng2_e, eCallA_e, eCallK_e, frOf_k, ite_ap, mtc_out, isi_int, isi_bool, isi_tuple, isIntD, isBoolD, isTupD, gLen, truth, gEq_int, gNe_int, gLe_int, gLt_int, gSub_int, gAdd_int, sPar_e, gEq_str, abAtE_e, frB_k, eCallB_e, noExc_e, eDict1_e, gNeg_int, gPow_30, eLc_e, gTuple_l, gTuple_t, gList_l, gList_t, sPutAt_e, lsAt_e, gSl_t, envOf, finR, sRaise0_e, frOf_x, sTry_e, noX_k, isi_str, told, rng_0, rangeD, goFor, ordAt]
          · obtain ⟨a3, h3⟩ := loop_ordP (.im (.tuple [.tuple ts, .tuple (ps.map prD)])) (.im (.tuple ts)) a1 b1 b2 ps (ps.length - 1) 1 a2 (by omega) (by omega)
            have e1 : ((ps.length : Int) - 1).toNat = ps.length - 1 := by omega
            have one : ((1 : Nat) : Int) = 1 := rfl
            rw [one] at h3
            simp [bnd_e, ret_e, oops_e, lift_s, lift_n, opn_e, thaw_v, thaw_t, thaw_s, rsv_v, rsv_s, frz_v, frz_t, frz_s, kept_e, eVar_e, eBin_e, toB_b, eTest_e, bAnd_e, bOr_e, bNot_e, eTruth_e, vAnd_e, vOr_e, vNot_e, eIf_e, eTup_e, eLst_e, rsvs_n, rsvs_c, eBi_e, toPart_i, eSl_e, eUn_e, eIsi_e, eChain_e, sSeq_e, sRet_e, sExpr_e, sIf_e, putS_e, asg_v, asg_t, sSet_e, tgTup_e, tgCons_e, tgNil_e, tgName_e, sAsg_e, sFor_e, eIter_e, eEnum_e, eRng1_e, eRng2_e, eCallA_e, eCallK_e, frOf_k, ite_ap, mtc_out, isi_int, isi_bool, isi_tuple, isIntD, isBoolD, isTupD, gLen, truth, gEq_int, gNe_int, gLe_int, gLt_int, gSub_int, gAdd_int, sPar_e, gEq_str, abAtE_e, frB_k, eCallB_e, noExc_e, eDict1_e, gNeg_int, gPow_30, eLc_e, gTuple_l, gTuple_t, gList_l, gList_t, sPutAt_e, lsAt_e, gSl_t, envOf, finR, sRaise0_e, frOf_x, sTry_e, noX_k, isi_str, told, rng_len hlen, e1, h3]
            cases ho : ordAt ps 1 (ps.length - 1) with
            | some j => simp [told]
            | none => simp [told]
    · cases hb
/-! ### nets as data; the defs of nets -/
def netD (ts : List Int) (ps : List (Int × Int)) : D := .tuple [.tuple (ts.map PyData.int), .tuple (ps.map prD)]
def swp (p : Int × Int) : Int × Int := (p.2, p.1)
def outOf (ps : List (Int × Int)) (s : Int) : List Int := (ps.filter (fun p => decide (p.1 = s))).map (·.2)
def intoOf (ps : List (Int × Int)) (s : Int) : List Int := (ps.filter (fun p => decide (p.2 = s))).map (·.1)
theorem map_out (ps : List (Int × Int)) (s : Int) : (ps.filter (fun p => decide (p.1 = s))).map (fun p => PyData.int p.2) = (outOf ps s).map PyData.int := by
  unfold outOf
  rw [List.map_map]
  rfl
theorem map_into (ps : List (Int × Int)) (s : Int) : (ps.filter (fun p => decide (p.2 = s))).map (fun p => PyData.int p.1) = (intoOf ps s).map PyData.int := by
  unfold intoOf
  rw [List.map_map]
  rfl
theorem int_beq (a b : Int) : (a == b) = decide (a = b) := by
  by_cases h : a = b
  · simp [h]
  · simp [h]
theorem F_nexts_ok (ts : List Int) (ps : List (Int × Int)) (s : Int) (h : ps.length ≤ 100000) : F_nexts [netD ts ps, .int s] = .ok (.val (.tuple ((outOf ps s).map PyData.int))) := by
  have lc := lc_map (vs := [2, 3]) (s := tgTup 2 (tgCons (tgName 2) (tgCons (tgName 3) tgNil))) (t := D_nexts_0) (f := C_nexts_1) (W := [some (.im (netD ts ps)), some (.im (.int s)), none, none]) (enc := prD) (p := fun p => decide (p.1 = s)) (k := fun p => .int p.2) ps [] (by simp; omega)
    (fun p _ => ⟨[some (.im (netD ts ps)), some (.im (.int s)), some (.im (.int p.1)), some (.im (.int p.2))], _, rfl, by simp [D_nexts_0, bnd_e, ret_e, oops_e, lift_s, lift_n, opn_e, thaw_v, thaw_t, thaw_s, rsv_v, rsv_s, frz_v, frz_t, frz_s, kept_e, eVar_e, eBin_e, toB_b, eTest_e, bAnd_e, bOr_e, bNot_e, eTruth_e, vAnd_e, vOr_e, vNot_e, eIf_e, eTup_e, eLst_e, rsvs_n, rsvs_c, eBi_e, toPart_i, eSl_e, eUn_e, eIsi_e, eChain_e, sSeq_e, sRet_e, sExpr_e, sIf_e, putS_e, asg_v, asg_t, sSet_e, tgTup_e, tgCons_e, tgNil_e, tgName_e, sAsg_e, sFor_e, eIter_e, eEnum_e, eRng1_e, eRng2_e, eCallA_e, eCallK_e, frOf_k, ite_ap, mtc_out, isi_int, isi_bool, isi_tuple, isIntD, isBoolD, isTupD, gLen, truth, gEq_int, gNe_int, gLe_int, gLt_int, gSub_int, gAdd_int, sPar_e, gEq_str, abAtE_e, frB_k, eCallB_e, noExc_e, eDict1_e, gNeg_int, gPow_30, eLc_e, gTuple_l, gTuple_t, gList_l, gList_t, sPutAt_e, lsAt_e, gSl_t, envOf, finR, sRaise0_e, frOf_x, sTry_e, noX_k, isi_str, int_beq]; rfl, fun _ => ⟨_, by simp [C_nexts_1, bnd_e, ret_e, oops_e, lift_s, lift_n, opn_e, thaw_v, thaw_t, thaw_s, rsv_v, rsv_s, frz_v, frz_t, frz_s, kept_e, eVar_e, eBin_e, toB_b, eTest_e, bAnd_e, bOr_e, bNot_e, eTruth_e, vAnd_e, vOr_e, vNot_e, eIf_e, eTup_e, eLst_e, rsvs_n, rsvs_c, eBi_e, toPart_i, eSl_e, eUn_e, eIsi_e, eChain_e, sSeq_e, sRet_e, sExpr_e, sIf_e, putS_e, asg_v, asg_t, sSet_e, tgTup_e, tgCons_e, tgNil_e, tgName_e, sAsg_e, sFor_e, eIter_e, eEnum_e, eRng1_e, eRng2_e, eCallA_e, eCallK_e, frOf_k, ite_ap, mtc_out, isi_int, isi_bool, isi_tuple, isIntD, isBoolD, isTupD, gLen, truth, gEq_int, gNe_int, gLe_int, gLt_int, gSub_int, gAdd_int, sPar_e, gEq_str, abAtE_e, frB_k, eCallB_e, noExc_e, eDict1_e, gNeg_int, gPow_30, eLc_e, gTuple_l, gTuple_t, gList_l, gList_t, sPutAt_e, lsAt_e, gSl_t, envOf, finR, sRaise0_e, frOf_x, sTry_e, noX_k, isi_str]; rfl, rfl⟩, fun _ => rfl⟩)
  rw [map_out] at lc
  unfold F_nexts runA g_nexts
  simp [bnd_e, ret_e, oops_e, lift_s, lift_n, opn_e, thaw_v, thaw_t, thaw_s, rsv_v, rsv_s, frz_v, frz_t, frz_s, kept_e, eVar_e, eBin_e, toB_b, eTest_e, bAnd_e, bOr_e, bNot_e, eTruth_e, vAnd_e, vOr_e, vNot_e, eIf_e, eTup_e, eLst_e, rsvs_n, rsvs_c, eBi_e, toPart_i, eSl_e, eUn_e, eIsi_e, eChain_e, sSeq_e, sRet_e, sExpr_e, sIf_e, putS_e, asg_v, asg_t, sSet_e, tgTup_e, tgCons_e, tgNil_e, tgName_e, sAsg_e, sFor_e, eIter_e, eEnum_e, eRng1_e, eRng2_e, eCallA_e, eCallK_e, frOf_k, ite_ap, mtc_out, isi_int, isi_bool, isi_tuple, isIntD, isBoolD, isTupD, gLen, truth, gEq_int, gNe_int, gLe_int, gLt_int, gSub_int, gAdd_int, sPar_e, gEq_str, abAtE_e, frB_k, eCallB_e, noExc_e, eDict1_e, gNeg_int, gPow_30, eLc_e, gTuple_l, gTuple_t, gList_l, gList_t, sPutAt_e, lsAt_e, gSl_t, envOf, finR, sRaise0_e, frOf_x, sTry_e, noX_k, isi_str, netD, gIx_t1, itemsOf, wipeE] at lc ⊢
  rw [lc]
  simp [bnd_e, ret_e, oops_e, lift_s, lift_n, opn_e, thaw_v, thaw_t, thaw_s, rsv_v, rsv_s, frz_v, frz_t, frz_s, kept_e, eVar_e, eBin_e, toB_b, eTest_e, bAnd_e, bOr_e, bNot_e, eTruth_e, vAnd_e, vOr_e, vNot_e, eIf_e, eTup_e, eLst_e, rsvs_n, rsvs_c, eBi_e, toPart_i, eSl_e, eUn_e, eIsi_e, eChain_e, sSeq_e, sRet_e, sExpr_e, sIf_e, putS_e, asg_v, asg_t, sSet_e, tgTup_e, tgCons_e, tgNil_e, tgName_e, sAsg_e, sFor_e, eIter_e, eEnum_e, eRng1_e, eRng2_e, eCallA_e, eCallK_e, frOf_k, ite_ap, mtc_out, isi_int, isi_bool, isi_tuple, isIntD, isBoolD, isTupD, gLen, truth, gEq_int, gNe_int, gLe_int, gLt_int, gSub_int, gAdd_int, sPar_e, gEq_str, abAtE_e, frB_k, eCallB_e, noExc_e, eDict1_e, gNeg_int, gPow_30, eLc_e, gTuple_l, gTuple_t, gList_l, gList_t, sPutAt_e, lsAt_e, gSl_t, envOf, finR, sRaise0_e, frOf_x, sTry_e, noX_k, isi_str]
theorem F_befores_ok (ts : List Int) (ps : List (Int × Int)) (s : Int) (h : ps.length ≤ 100000) : F_befores [netD ts ps, .int s] = .ok (.val (.tuple ((intoOf ps s).map PyData.int))) := by
  have lc := lc_map (vs := [2, 3]) (s := tgTup 2 (tgCons (tgName 2) (tgCons (tgName 3) tgNil))) (t := D_befores_0) (f := C_befores_1) (W := [some (.im (netD ts ps)), some (.im (.int s)), none, none]) (enc := prD) (p := fun p => decide (p.2 = s)) (k := fun p => .int p.1) ps [] (by simp; omega)
    (fun p _ => ⟨[some (.im (netD ts ps)), some (.im (.int s)), some (.im (.int p.1)), some (.im (.int p.2))], _, rfl, by simp [D_befores_0, bnd_e, ret_e, oops_e, lift_s, lift_n, opn_e, thaw_v, thaw_t, thaw_s, rsv_v, rsv_s, frz_v, frz_t, frz_s, kept_e, eVar_e, eBin_e, toB_b, eTest_e, bAnd_e, bOr_e, bNot_e, eTruth_e, vAnd_e, vOr_e, vNot_e, eIf_e, eTup_e, eLst_e, rsvs_n, rsvs_c, eBi_e, toPart_i, eSl_e, eUn_e, eIsi_e, eChain_e, sSeq_e, sRet_e, sExpr_e, sIf_e, putS_e, asg_v, asg_t, sSet_e, tgTup_e, tgCons_e, tgNil_e, tgName_e, sAsg_e, sFor_e, eIter_e, eEnum_e, eRng1_e, eRng2_e, eCallA_e, eCallK_e, frOf_k, ite_ap, mtc_out, isi_int, isi_bool, isi_tuple, isIntD, isBoolD, isTupD, gLen, truth, gEq_int, gNe_int, gLe_int, gLt_int, gSub_int, gAdd_int, sPar_e, gEq_str, abAtE_e, frB_k, eCallB_e, noExc_e, eDict1_e, gNeg_int, gPow_30, eLc_e, gTuple_l, gTuple_t, gList_l, gList_t, sPutAt_e, lsAt_e, gSl_t, envOf, finR, sRaise0_e, frOf_x, sTry_e, noX_k, isi_str, int_beq]; rfl, fun _ => ⟨_, by simp [C_befores_1, bnd_e, ret_e, oops_e, lift_s, lift_n, opn_e, thaw_v, thaw_t, thaw_s, rsv_v, rsv_s, frz_v, frz_t, frz_s, kept_e, eVar_e, eBin_e, toB_b, eTest_e, bAnd_e, bOr_e, bNot_e, eTruth_e, vAnd_e, vOr_e, vNot_e, eIf_e, eTup_e, eLst_e, rsvs_n, rsvs_c, eBi_e, toPart_i, eSl_e, eUn_e, eIsi_e, eChain_e, sSeq_e, sRet_e, sExpr_e, sIf_e, putS_e, asg_v, asg_t, sSet_e, tgTup_e, tgCons_e, tgNil_e, tgName_e, sAsg_e, sFor_e, eIter_e, eEnum_e, eRng1_e, eRng2_e, eCallA_e, eCallK_e, frOf_k, ite_ap, mtc_out, isi_int, isi_bool, isi_tuple, isIntD, isBoolD, isTupD, gLen, truth, gEq_int, gNe_int, gLe_int, gLt_int, gSub_int, gAdd_int, sPar_e, gEq_str, abAtE_e, frB_k, eCallB_e, noExc_e, eDict1_e, gNeg_int, gPow_30, eLc_e, gTuple_l, gTuple_t, gList_l, gList_t, sPutAt_e, lsAt_e, gSl_t, envOf, finR, sRaise0_e, frOf_x, sTry_e, noX_k, isi_str]; rfl, rfl⟩, fun _ => rfl⟩)
  rw [map_into] at lc
  unfold F_befores runA g_befores
  simp [bnd_e, ret_e, oops_e, lift_s, lift_n, opn_e, thaw_v, thaw_t, thaw_s, rsv_v, rsv_s, frz_v, frz_t, frz_s, kept_e, eVar_e, eBin_e, toB_b, eTest_e, bAnd_e, bOr_e, bNot_e, eTruth_e, vAnd_e, vOr_e, vNot_e, eIf_e, eTup_e, eLst_e, rsvs_n, rsvs_c, eBi_e, toPart_i, eSl_e, eUn_e, eIsi_e, eChain_e, sSeq_e, sRet_e, sExpr_e, sIf_e, putS_e, asg_v, asg_t, sSet_e, tgTup_e, tgCons_e, tgNil_e, tgName_e, sAsg_e, sFor_e, eIter_e, eEnum_e, eRng1_e, eRng2_e, eCallA_e, eCallK_e, frOf_k, ite_ap, mtc_out, isi_int, isi_bool, isi_tuple, isIntD, isBoolD, isTupD, gLen, truth, gEq_int, gNe_int, gLe_int, gLt_int, gSub_int, gAdd_int, sPar_e, gEq_str, abAtE_e, frB_k, eCallB_e, noExc_e, eDict1_e, gNeg_int, gPow_30, eLc_e, gTuple_l, gTuple_t, gList_l, gList_t, sPutAt_e, lsAt_e, gSl_t, envOf, finR, sRaise0_e, frOf_x, sTry_e, noX_k, isi_str, netD, gIx_t1, itemsOf, wipeE] at lc ⊢
  rw [lc]
  simp [bnd_e, ret_e, oops_e, lift_s, lift_n, opn_e, thaw_v, thaw_t, thaw_s, rsv_v, rsv_s, frz_v, frz_t, frz_s, kept_e, eVar_e, eBin_e, toB_b, eTest_e, bAnd_e, bOr_e, bNot_e, eTruth_e, vAnd_e, vOr_e, vNot_e, eIf_e, eTup_e, eLst_e, rsvs_n, rsvs_c, eBi_e, toPart_i, eSl_e, eUn_e, eIsi_e, eChain_e, sSeq_e, sRet_e, sExpr_e, sIf_e, putS_e, asg_v, asg_t, sSet_e, tgTup_e, tgCons_e, tgNil_e, tgName_e, sAsg_e, sFor_e, eIter_e, eEnum_e, eRng1_e, eRng2_e, eCallA_e, eCallK_e, frOf_k, ite_ap, mtc_out, isi_int, isi_bool, isi_tuple, isIntD, isBoolD, isTupD, gLen, truth, gEq_int, gNe_int, gLe_int, gLt_int, gSub_int, gAdd_int, sPar_e, gEq_str, abAtE_e, frB_k, eCallB_e, noExc_e, eDict1_e, gNeg_int, gPow_30, eLc_e, gTuple_l, gTuple_t, gList_l, gList_t, sPutAt_e, lsAt_e, gSl_t, envOf, finR, sRaise0_e, frOf_x, sTry_e, noX_k, isi_str]

theorem filter_yes {α : Type} (xs : List α) : xs.filter (fun _ => true) = xs := List.filter_eq_self.mpr fun _ _ => rfl
theorem map_swp (ps : List (Int × Int)) : (ps.filter (fun _ => true)).map (fun p => PyData.tuple [.int p.2, .int p.1]) = (ps.map swp).map prD := by
  rw [filter_yes, List.map_map]
  rfl
theorem F_turned_ok (ts : List Int) (ps : List (Int × Int)) (h : ps.length ≤ 100000) : F_turned [netD ts ps] = .ok (.val (netD ts (sortP (ps.map swp)))) := by
  have lc := lc_map (vs := [3, 4]) (s := tgTup 2 (tgCons (tgName 3) (tgCons (tgName 4) tgNil))) (t := ret true) (f := C_turned_0) (W := [some (.im (netD ts ps)), some (.im (.tuple (ts.map PyData.int))), some (.im (.tuple (ps.map prD))), none, none]) (enc := prD) (p := fun _ => true) (k := fun p => PyData.tuple [.int p.2, .int p.1]) ps [] (by simp; omega)
    (fun p _ => ⟨[some (.im (netD ts ps)), some (.im (.tuple (ts.map PyData.int))), some (.im (.tuple (ps.map prD))), some (.im (.int p.1)), some (.im (.int p.2))], _, rfl, rfl, fun _ => ⟨_, by simp [C_turned_0, bnd_e, ret_e, oops_e, lift_s, lift_n, opn_e, thaw_v, thaw_t, thaw_s, rsv_v, rsv_s, frz_v, frz_t, frz_s, kept_e, eVar_e, eBin_e, toB_b, eTest_e, bAnd_e, bOr_e, bNot_e, eTruth_e, vAnd_e, vOr_e, vNot_e, eIf_e, eTup_e, eLst_e, rsvs_n, rsvs_c, eBi_e, toPart_i, eSl_e, eUn_e, eIsi_e, eChain_e, sSeq_e, sRet_e, sExpr_e, sIf_e, putS_e, asg_v, asg_t, sSet_e, tgTup_e, tgCons_e, tgNil_e, tgName_e, sAsg_e, sFor_e, eIter_e, eEnum_e, eRng1_e, eRng2_e, eCallA_e, eCallK_e, frOf_k, ite_ap, mtc_out, isi_int, isi_bool, isi_tuple, isIntD, isBoolD, isTupD, gLen, truth, gEq_int, gNe_int, gLe_int, gLt_int, gSub_int, gAdd_int, sPar_e, gEq_str, abAtE_e, frB_k, eCallB_e, noExc_e, eDict1_e, gNeg_int, gPow_30, eLc_e, gTuple_l, gTuple_t, gList_l, gList_t, sPutAt_e, lsAt_e, gSl_t, envOf, finR, sRaise0_e, frOf_x, sTry_e, noX_k, isi_str]; rfl, rfl⟩, fun _ => rfl⟩)
  rw [map_swp] at lc
  have gs := gSorted_prs (ps := ps.map swp) (by rw [List.length_map]; exact h)
  generalize ps.map swp = qs at lc gs ⊢
  unfold F_turned runA g_turned
  simp only [netD, wipeE, List.nil_append] at lc ⊢
  simp [bnd_e, ret_e, oops_e, lift_s, lift_n, opn_e, thaw_v, thaw_t, thaw_s, rsv_v, rsv_s, frz_v, frz_t, frz_s, kept_e, eVar_e, eBin_e, toB_b, eTest_e, bAnd_e, bOr_e, bNot_e, eTruth_e, vAnd_e, vOr_e, vNot_e, eIf_e, eTup_e, eLst_e, rsvs_n, rsvs_c, eBi_e, toPart_i, eSl_e, eUn_e, eIsi_e, eChain_e, sSeq_e, sRet_e, sExpr_e, sIf_e, putS_e, asg_v, asg_t, sSet_e, tgTup_e, tgCons_e, tgNil_e, tgName_e, sAsg_e, sFor_e, eIter_e, eEnum_e, eRng1_e, eRng2_e, eCallA_e, eCallK_e, frOf_k, ite_ap, mtc_out, isi_int, isi_bool, isi_tuple, isIntD, isBoolD, isTupD, gLen, truth, gEq_int, gNe_int, gLe_int, gLt_int, gSub_int, gAdd_int, sPar_e, gEq_str, abAtE_e, frB_k, eCallB_e, noExc_e, eDict1_e, gNeg_int, gPow_30, eLc_e, gTuple_l, gTuple_t, gList_l, gList_t, sPutAt_e, lsAt_e, gSl_t, envOf, finR, sRaise0_e, frOf_x, sTry_e, noX_k, isi_str, itemsOf, wipeE]
  rw [lc]
  simp [bnd_e, ret_e, oops_e, lift_s, lift_n, opn_e, thaw_v, thaw_t, thaw_s, rsv_v, rsv_s, frz_v, frz_t, frz_s, kept_e, eVar_e, eBin_e, toB_b, eTest_e, bAnd_e, bOr_e, bNot_e, eTruth_e, vAnd_e, vOr_e, vNot_e, eIf_e, eTup_e, eLst_e, rsvs_n, rsvs_c, eBi_e, toPart_i, eSl_e, eUn_e, eIsi_e, eChain_e, sSeq_e, sRet_e, sExpr_e, sIf_e, putS_e, asg_v, asg_t, sSet_e, tgTup_e, tgCons_e, tgNil_e, tgName_e, sAsg_e, sFor_e, eIter_e, eEnum_e, eRng1_e, eRng2_e, eCallA_e, eCallK_e, frOf_k, ite_ap, mtc_out, isi_int, isi_bool, isi_tuple, isIntD, isBoolD, isTupD, gLen, truth, gEq_int, gNe_int, gLe_int, gLt_int, gSub_int, gAdd_int, sPar_e, gEq_str, abAtE_e, frB_k, eCallB_e, noExc_e, eDict1_e, gNeg_int, gPow_30, eLc_e, gTuple_l, gTuple_t, gList_l, gList_t, sPutAt_e, lsAt_e, gSl_t, envOf, finR, sRaise0_e, frOf_x, sTry_e, noX_k, isi_str, gs]
theorem cut_lo {α : Type} (ds : List D) (i : Nat) (h : i ≤ ds.length) : cutD ds none (some (i : Int)) = ds.take i := by
  unfold cutD
  rw [HT.sIx_none, HT.sIx_nat, List.drop_zero, Nat.sub_zero, Nat.min_eq_left h]
theorem cut_hi (ds : List D) (i : Nat) (h : i ≤ ds.length) : cutD ds (some (i : Int)) none = ds.drop i := by
  unfold cutD
  rw [HT.sIx_none, HT.sIx_nat, Nat.min_eq_left h]
  exact List.take_of_length_le (by rw [List.length_drop]; omega)
theorem gIx_ts {ts : List Int} {i : Nat} (h : i < ts.length) : gIx (.tuple (ts.map PyData.int)) (.int (i : Nat)) = some (.val (.int (ts.getD i 0))) := by
  have e : (ts.map PyData.int)[i]? = some (.int (ts.getD i 0)) := by
    rw [List.getElem?_map, List.getElem?_eq_getElem h, List.getD_eq_getElem?_getD, List.getElem?_eq_getElem h]
    rfl
  simp only [gIx, atI_nat e, Option.map_some]
def wid (ts : List Int) (i : Nat) : List Int := ts.take i ++ [ts.getD i 0 + 1] ++ ts.drop (i + 1)
theorem wid_map (ts : List Int) (i : Nat) : (ts.map PyData.int).take i ++ [PyData.int (ts.getD i 0 + 1)] ++ (ts.map PyData.int).drop (i + 1) = (wid ts i).map PyData.int := by
  unfold wid
  simp [List.map_take, List.map_drop]
theorem gAdd_len {xs ys : List D} (h : xs.length + ys.length ≤ 1000000) : gAdd (.tuple xs) (.tuple ys) = some (.val (.tuple (xs ++ ys))) := gAdd_tt (by unfold bigLine; omega)
theorem F_wider_ok (ts : List Int) (ps : List (Int × Int)) (i : Nat) (hi : i < ts.length) (hl : ts.length ≤ 1000) : F_wider [netD ts ps, .int (i : Nat)] = if ts.getD i 0 = 4 then .exc (exn0 "Unfit") else .ok (.val (netD (wid ts i) ps)) := by
  have g1 := gIx_ts hi
  have e1 : ((i : Nat) : Int) + 1 = ((i + 1 : Nat) : Int) := by omega
  have c1 := cut_lo (α := Int) (ts.map PyData.int) i (by rw [List.length_map]; omega)
  have c2 := cut_hi (ts.map PyData.int) (i + 1) (by rw [List.length_map]; omega)
  have a1 := gAdd_len (xs := (ts.map PyData.int).take i) (ys := [PyData.int (ts.getD i 0 + 1)]) (by simp; omega)
  have a2 := gAdd_len (xs := (ts.map PyData.int).take i ++ [PyData.int (ts.getD i 0 + 1)]) (ys := (ts.map PyData.int).drop (i + 1)) (by simp; omega)
  have w := wid_map ts i
  unfold F_wider runA g_wider
  generalize (ts.map PyData.int).take i = A1 at c1 a1 a2 w
  generalize (ts.map PyData.int).drop (i + 1) = A2 at c2 a2 w
  generalize ts.getD i 0 = v at g1 a1 a2 w
  by_cases h4 : v = 4
  · subst h4
    simp only [netD]
    simp [bnd_e, ret_e, oops_e, lift_s, lift_n, opn_e, thaw_v, thaw_t, thaw_s, rsv_v, rsv_s, frz_v, frz_t, frz_s, kept_e, eVar_e, eBin_e, toB_b, eTest_e, bAnd_e, bOr_e, bNot_e, eTruth_e, vAnd_e, vOr_e, vNot_e, eIf_e, eTup_e, eLst_e, rsvs_n, rsvs_c, eBi_e, toPart_i, eSl_e, eUn_e, eIsi_e, eChain_e, sSeq_e, sRet_e, sExpr_e, sIf_e, putS_e, asg_v, asg_t, sSet_e, tgTup_e, tgCons_e, tgNil_e, tgName_e, sAsg_e, sFor_e, eIter_e, eEnum_e, eRng1_e, eRng2_e, eCallA_e, eCallK_e, frOf_k, ite_ap, mtc_out, isi_int, isi_bool, isi_tuple, isIntD, isBoolD, isTupD, gLen, truth, gEq_int, gNe_int, gLe_int, gLt_int, gSub_int, gAdd_int, sPar_e, gEq_str, abAtE_e, frB_k, eCallB_e, noExc_e, eDict1_e, gNeg_int, gPow_30, eLc_e, gTuple_l, gTuple_t, gList_l, gList_t, sPutAt_e, lsAt_e, gSl_t, envOf, finR, sRaise0_e, frOf_x, sTry_e, noX_k, isi_str, g1, int_beq]
  · rw [if_neg h4]
    have he : envOf 4 ([netD ts ps, PyData.int (i : Nat)].map SV.im) = [some (.im (netD ts ps)), some (.im (.int (i : Nat))), none, none] := rfl
    have h4' : (v == (4 : Int)) = false := by simpa using h4
    rw [he]
    simp only [netD]
    simp only [bnd_e, ret_e, oops_e, lift_s, lift_n, opn_e, thaw_v, thaw_t, thaw_s, rsv_v, rsv_s, frz_v, frz_t, frz_s, kept_e, eVar_e, eBin_e, toB_b, eTest_e, bAnd_e, bOr_e, bNot_e, eTruth_e, vAnd_e, vOr_e, vNot_e, eIf_e, eTup_e, eLst_e, rsvs_n, rsvs_c, eBi_e, toPart_i, eSl_e, eUn_e, eIsi_e, eChain_e, sSeq_e, sRet_e, sExpr_e, sIf_e, putS_e, asg_v, asg_t, sSet_e, tgTup_e, tgCons_e, tgNil_e, tgName_e, sAsg_e, sFor_e, eIter_e, eEnum_e, eRng1_e, eRng2_e, eCallA_e, eCallK_e, frOf_k, ite_ap, mtc_out, isi_int, isi_bool, isi_tuple, isIntD, isBoolD, isTupD, gLen, truth, gEq_int, gNe_int, gLe_int, gLt_int, gSub_int, gAdd_int, sPar_e, gEq_str, abAtE_e, frB_k, eCallB_e, noExc_e, eDict1_e, gNeg_int, gPow_30, eLc_e, gTuple_l, gTuple_t, gList_l, gList_t, sPutAt_e, lsAt_e, gSl_t, finR, sRaise0_e, frOf_x, sTry_e, noX_k, isi_str, List.set, List.getElem?_cons_zero, List.getElem?_cons_succ, List.map_cons, List.map_nil, List.length_cons, List.length_nil, Option.bind_some, Bool.false_eq_true, if_false, if_true, reduceIte, Nat.reduceAdd, reduceCtorEq, decide_true, decide_false, Bool.not_true, Bool.not_false, g1, h4', e1, c1, c2, a1, a2, w]

theorem gAdd_prs (ps : List (Int × Int)) (q : Int × Int) (h : ps.length ≤ 100000) : gAdd (.tuple (ps.map prD)) (.tuple [prD q]) = some (.val (.tuple ((ps ++ [q]).map prD))) := by
  rw [gAdd_len (by simp; omega), List.map_append]
  rfl
theorem F_laid_ok (ts : List Int) (ps : List (Int × Int)) (i j : Int) (h : ps.length ≤ 10000) : F_laid [netD ts ps, .int i, .int j] = if i = j ∨ (i, j) ∈ ps then .exc (exn0 "Unfit") else .ok (.val (netD ts (sortP (ps ++ [(i, j)])))) := by
  have gi : gIn false (.tuple [.int i, .int j]) (.tuple (ps.map prD)) = some (.val (.bool (decide ((i, j) ∈ ps)))) := by
    have := gIn_prs false (i, j) ps
    simp only [Bool.false_eq_true, if_false] at this
    exact this
  have ga : gAdd (.tuple (ps.map prD)) (.tuple [.tuple [.int i, .int j]]) = some (.val (.tuple ((ps ++ [(i, j)]).map prD))) := gAdd_prs ps (i, j) (by omega)
  have gs := gSorted_prsT (ps := ps ++ [(i, j)]) (by simp; omega)
  have he : envOf 5 ([netD ts ps, PyData.int i, PyData.int j].map SV.im) = [some (.im (netD ts ps)), some (.im (.int i)), some (.im (.int j)), none, none] := rfl
  unfold F_laid runA g_laid
  rw [he]
  by_cases h1 : i = j
  · have e1 : (i == j) = true := by simpa using h1
    rw [if_pos (Or.inl h1)]
    simp only [netD]
    simp only [bnd_e, ret_e, oops_e, lift_s, lift_n, opn_e, thaw_v, thaw_t, thaw_s, rsv_v, rsv_s, frz_v, frz_t, frz_s, kept_e, eVar_e, eBin_e, toB_b, eTest_e, bAnd_e, bOr_e, bNot_e, eTruth_e, vAnd_e, vOr_e, vNot_e, eIf_e, eTup_e, eLst_e, rsvs_n, rsvs_c, eBi_e, toPart_i, eSl_e, eUn_e, eIsi_e, eChain_e, sSeq_e, sRet_e, sExpr_e, sIf_e, putS_e, asg_v, asg_t, sSet_e, tgTup_e, tgCons_e, tgNil_e, tgName_e, sAsg_e, sFor_e, eIter_e, eEnum_e, eRng1_e, eRng2_e, eCallA_e, eCallK_e, frOf_k, ite_ap, mtc_out, isi_int, isi_bool, isi_tuple, isIntD, isBoolD, isTupD, gLen, truth, gEq_int, gNe_int, gLe_int, gLt_int, gSub_int, gAdd_int, sPar_e, gEq_str, abAtE_e, frB_k, eCallB_e, noExc_e, eDict1_e, gNeg_int, gPow_30, eLc_e, gTuple_l, gTuple_t, gList_l, gList_t, sPutAt_e, lsAt_e, gSl_t, finR, sRaise0_e, frOf_x, sTry_e, noX_k, isi_str, List.set, List.getElem?_cons_zero, List.getElem?_cons_succ, List.map_cons, List.map_nil, List.length_cons, List.length_nil, Option.bind_some, Bool.false_eq_true, if_false, if_true, reduceIte, Nat.reduceAdd, reduceCtorEq, decide_true, decide_false, Bool.not_true, Bool.not_false, e1, gi]
  · have e1 : (i == j) = false := by simpa using h1
    by_cases h2 : (i, j) ∈ ps
    · rw [if_pos (Or.inr h2)]
      have e2 : decide ((i, j) ∈ ps) = true := decide_eq_true h2
      simp only [netD]
      simp only [bnd_e, ret_e, oops_e, lift_s, lift_n, opn_e, thaw_v, thaw_t, thaw_s, rsv_v, rsv_s, frz_v, frz_t, frz_s, kept_e, eVar_e, eBin_e, toB_b, eTest_e, bAnd_e, bOr_e, bNot_e, eTruth_e, vAnd_e, vOr_e, vNot_e, eIf_e, eTup_e, eLst_e, rsvs_n, rsvs_c, eBi_e, toPart_i, eSl_e, eUn_e, eIsi_e, eChain_e, sSeq_e, sRet_e, sExpr_e, sIf_e, putS_e, asg_v, asg_t, sSet_e, tgTup_e, tgCons_e, tgNil_e, tgName_e, sAsg_e, sFor_e, eIter_e, eEnum_e, eRng1_e, eRng2_e, eCallA_e, eCallK_e, frOf_k, ite_ap, mtc_out, isi_int, isi_bool, isi_tuple, isIntD, isBoolD, isTupD, gLen, truth, gEq_int, gNe_int, gLe_int, gLt_int, gSub_int, gAdd_int, sPar_e, gEq_str, abAtE_e, frB_k, eCallB_e, noExc_e, eDict1_e, gNeg_int, gPow_30, eLc_e, gTuple_l, gTuple_t, gList_l, gList_t, sPutAt_e, lsAt_e, gSl_t, finR, sRaise0_e, frOf_x, sTry_e, noX_k, isi_str, List.set, List.getElem?_cons_zero, List.getElem?_cons_succ, List.map_cons, List.map_nil, List.length_cons, List.length_nil, Option.bind_some, Bool.false_eq_true, if_false, if_true, reduceIte, Nat.reduceAdd, reduceCtorEq, decide_true, decide_false, Bool.not_true, Bool.not_false, e1, gi, e2]
    · rw [if_neg (fun z => z.elim h1 h2)]
      have e2 : decide ((i, j) ∈ ps) = false := decide_eq_false h2
      simp only [netD]
      simp only [bnd_e, ret_e, oops_e, lift_s, lift_n, opn_e, thaw_v, thaw_t, thaw_s, rsv_v, rsv_s, frz_v, frz_t, frz_s, kept_e, eVar_e, eBin_e, toB_b, eTest_e, bAnd_e, bOr_e, bNot_e, eTruth_e, vAnd_e, vOr_e, vNot_e, eIf_e, eTup_e, eLst_e, rsvs_n, rsvs_c, eBi_e, toPart_i, eSl_e, eUn_e, eIsi_e, eChain_e, sSeq_e, sRet_e, sExpr_e, sIf_e, putS_e, asg_v, asg_t, sSet_e, tgTup_e, tgCons_e, tgNil_e, tgName_e, sAsg_e, sFor_e, eIter_e, eEnum_e, eRng1_e, eRng2_e, eCallA_e, eCallK_e, frOf_k, ite_ap, mtc_out, isi_int, isi_bool, isi_tuple, isIntD, isBoolD, isTupD, gLen, truth, gEq_int, gNe_int, gLe_int, gLt_int, gSub_int, gAdd_int, sPar_e, gEq_str, abAtE_e, frB_k, eCallB_e, noExc_e, eDict1_e, gNeg_int, gPow_30, eLc_e, gTuple_l, gTuple_t, gList_l, gList_t, sPutAt_e, lsAt_e, gSl_t, finR, sRaise0_e, frOf_x, sTry_e, noX_k, isi_str, List.set, List.getElem?_cons_zero, List.getElem?_cons_succ, List.map_cons, List.map_nil, List.length_cons, List.length_nil, Option.bind_some, Bool.false_eq_true, if_false, if_true, reduceIte, Nat.reduceAdd, reduceCtorEq, decide_true, decide_false, Bool.not_true, Bool.not_false, e1, gi, e2, ga, gs]
def butL (ps : List (Int × Int)) (q : Int × Int) : List (Int × Int) := ps.filter (fun p => decide (p ≠ q))
theorem gNe_pr (p : Int × Int) (i j : Int) : gEq true (prD p) (.tuple [.int i, .int j]) = some (.val (.bool (decide (p ≠ (i, j))))) := by
  have h := eqv_pr p (i, j)
  have h' : PyData.eqv (prD p) (.tuple [.int i, .int j]) = decide (p = (i, j)) := h
  have s1 : SeqAt.shaped (prD p) = true := rfl
  have s2 : SeqAt.shaped (.tuple [.int i, .int j]) = true := rfl
  unfold gEq
  have e : strPair (prD p) (.tuple [.int i, .int j]) = none := rfl
  rw [e]
  simp only [s1, s2, and_self, if_true, h']
  by_cases hp : p = (i, j)
  · simp [hp]
  · simp [hp]
theorem F_shut_ok (ts : List Int) (ps : List (Int × Int)) (i j : Int) (h : ps.length ≤ 10000) : F_shut [netD ts ps, .int i, .int j] = if (i, j) ∈ ps then .ok (.val (netD ts (butL ps (i, j)))) else .exc (exn0 "Unfit") := by
  have gi : gIn true (.tuple [.int i, .int j]) (.tuple (ps.map prD)) = some (.val (.bool (!decide ((i, j) ∈ ps)))) := by
    have := gIn_prs true (i, j) ps
    simp only [if_true] at this
    exact this
  have he : envOf 6 ([netD ts ps, PyData.int i, PyData.int j].map SV.im) = [some (.im (netD ts ps)), some (.im (.int i)), some (.im (.int j)), none, none, none] := rfl
  have lc := lc_map (vs := [5]) (s := tgName 5) (t := D_shut_0) (f := C_shut_1) (W := [some (.im (netD ts ps)), some (.im (.int i)), some (.im (.int j)), some (.im (.tuple (ts.map PyData.int))), some (.im (.tuple (ps.map prD))), none]) (enc := prD) (p := fun p => decide (p ≠ (i, j))) (k := prD) ps [] (by simp; omega)
    (fun p _ => ⟨[some (.im (netD ts ps)), some (.im (.int i)), some (.im (.int j)), some (.im (.tuple (ts.map PyData.int))), some (.im (.tuple (ps.map prD))), some (.im (prD p))], _, rfl, by simp only [D_shut_0, bnd_e, ret_e, oops_e, lift_s, lift_n, opn_e, thaw_v, thaw_t, thaw_s, rsv_v, rsv_s, frz_v, frz_t, frz_s, kept_e, eVar_e, eBin_e, toB_b, eTest_e, bAnd_e, bOr_e, bNot_e, eTruth_e, vAnd_e, vOr_e, vNot_e, eIf_e, eTup_e, eLst_e, rsvs_n, rsvs_c, eBi_e, toPart_i, eSl_e, eUn_e, eIsi_e, eChain_e, sSeq_e, sRet_e, sExpr_e, sIf_e, putS_e, asg_v, asg_t, sSet_e, tgTup_e, tgCons_e, tgNil_e, tgName_e, sAsg_e, sFor_e, eIter_e, eEnum_e, eRng1_e, eRng2_e, eCallA_e, eCallK_e, frOf_k, ite_ap, mtc_out, isi_int, isi_bool, isi_tuple, isIntD, isBoolD, isTupD, gLen, truth, gEq_int, gNe_int, gLe_int, gLt_int, gSub_int, gAdd_int, sPar_e, gEq_str, abAtE_e, frB_k, eCallB_e, noExc_e, eDict1_e, gNeg_int, gPow_30, eLc_e, gTuple_l, gTuple_t, gList_l, gList_t, sPutAt_e, lsAt_e, gSl_t, finR, sRaise0_e, frOf_x, sTry_e, noX_k, isi_str, List.set, List.getElem?_cons_zero, List.getElem?_cons_succ, List.map_cons, List.map_nil, List.length_cons, List.length_nil, Option.bind_some, Bool.false_eq_true, if_false, if_true, reduceIte, Nat.reduceAdd, reduceCtorEq, decide_true, decide_false, Bool.not_true, Bool.not_false, gNe_pr]; rfl, fun _ => ⟨_, by simp only [C_shut_1, bnd_e, ret_e, oops_e, lift_s, lift_n, opn_e, thaw_v, thaw_t, thaw_s, rsv_v, rsv_s, frz_v, frz_t, frz_s, kept_e, eVar_e, eBin_e, toB_b, eTest_e, bAnd_e, bOr_e, bNot_e, eTruth_e, vAnd_e, vOr_e, vNot_e, eIf_e, eTup_e, eLst_e, rsvs_n, rsvs_c, eBi_e, toPart_i, eSl_e, eUn_e, eIsi_e, eChain_e, sSeq_e, sRet_e, sExpr_e, sIf_e, putS_e, asg_v, asg_t, sSet_e, tgTup_e, tgCons_e, tgNil_e, tgName_e, sAsg_e, sFor_e, eIter_e, eEnum_e, eRng1_e, eRng2_e, eCallA_e, eCallK_e, frOf_k, ite_ap, mtc_out, isi_int, isi_bool, isi_tuple, isIntD, isBoolD, isTupD, gLen, truth, gEq_int, gNe_int, gLe_int, gLt_int, gSub_int, gAdd_int, sPar_e, gEq_str, abAtE_e, frB_k, eCallB_e, noExc_e, eDict1_e, gNeg_int, gPow_30, eLc_e, gTuple_l, gTuple_t, gList_l, gList_t, sPutAt_e, lsAt_e, gSl_t, finR, sRaise0_e, frOf_x, sTry_e, noX_k, isi_str, List.set, List.getElem?_cons_zero, List.getElem?_cons_succ, List.map_cons, List.map_nil, List.length_cons, List.length_nil, Option.bind_some, Bool.false_eq_true, if_false, if_true, reduceIte, Nat.reduceAdd, reduceCtorEq, decide_true, decide_false, Bool.not_true, Bool.not_false]; rfl, rfl⟩, fun _ => rfl⟩)
  unfold F_shut runA g_shut
  rw [he]
  by_cases h2 : (i, j) ∈ ps
  · rw [if_pos h2]
    have e2 : (!decide ((i, j) ∈ ps)) = false := by rw [decide_eq_true h2]; rfl
    have lc' : goLc [5] (tgName 5) D_shut_0 C_shut_1 (ps.map prD) [] _ = .ok ((butL ps (i, j)).map prD) _ := lc
    simp only [netD] at lc' ⊢
    simp only [bnd_e, ret_e, oops_e, lift_s, lift_n, opn_e, thaw_v, thaw_t, thaw_s, rsv_v, rsv_s, frz_v, frz_t, frz_s, kept_e, eVar_e, eBin_e, toB_b, eTest_e, bAnd_e, bOr_e, bNot_e, eTruth_e, vAnd_e, vOr_e, vNot_e, eIf_e, eTup_e, eLst_e, rsvs_n, rsvs_c, eBi_e, toPart_i, eSl_e, eUn_e, eIsi_e, eChain_e, sSeq_e, sRet_e, sExpr_e, sIf_e, putS_e, asg_v, asg_t, sSet_e, tgTup_e, tgCons_e, tgNil_e, tgName_e, sAsg_e, sFor_e, eIter_e, eEnum_e, eRng1_e, eRng2_e, eCallA_e, eCallK_e, frOf_k, ite_ap, mtc_out, isi_int, isi_bool, isi_tuple, isIntD, isBoolD, isTupD, gLen, truth, gEq_int, gNe_int, gLe_int, gLt_int, gSub_int, gAdd_int, sPar_e, gEq_str, abAtE_e, frB_k, eCallB_e, noExc_e, eDict1_e, gNeg_int, gPow_30, eLc_e, gTuple_l, gTuple_t, gList_l, gList_t, sPutAt_e, lsAt_e, gSl_t, finR, sRaise0_e, frOf_x, sTry_e, noX_k, isi_str, List.set, List.getElem?_cons_zero, List.getElem?_cons_succ, List.map_cons, List.map_nil, List.length_cons, List.length_nil, Option.bind_some, Bool.false_eq_true, if_false, if_true, reduceIte, Nat.reduceAdd, reduceCtorEq, decide_true, decide_false, Bool.not_true, Bool.not_false, gi, e2, itemsOf, wipeE, lc', rst, imOnly]
  · rw [if_neg h2]
    have e2 : (!decide ((i, j) ∈ ps)) = true := by rw [decide_eq_false h2]; rfl
    simp only [netD]
    simp only [bnd_e, ret_e, oops_e, lift_s, lift_n, opn_e, thaw_v, thaw_t, thaw_s, rsv_v, rsv_s, frz_v, frz_t, frz_s, kept_e, eVar_e, eBin_e, toB_b, eTest_e, bAnd_e, bOr_e, bNot_e, eTruth_e, vAnd_e, vOr_e, vNot_e, eIf_e, eTup_e, eLst_e, rsvs_n, rsvs_c, eBi_e, toPart_i, eSl_e, eUn_e, eIsi_e, eChain_e, sSeq_e, sRet_e, sExpr_e, sIf_e, putS_e, asg_v, asg_t, sSet_e, tgTup_e, tgCons_e, tgNil_e, tgName_e, sAsg_e, sFor_e, eIter_e, eEnum_e, eRng1_e, eRng2_e, eCallA_e, eCallK_e, frOf_k, ite_ap, mtc_out, isi_int, isi_bool, isi_tuple, isIntD, isBoolD, isTupD, gLen, truth, gEq_int, gNe_int, gLe_int, gLt_int, gSub_int, gAdd_int, sPar_e, gEq_str, abAtE_e, frB_k, eCallB_e, noExc_e, eDict1_e, gNeg_int, gPow_30, eLc_e, gTuple_l, gTuple_t, gList_l, gList_t, sPutAt_e, lsAt_e, gSl_t, finR, sRaise0_e, frOf_x, sTry_e, noX_k, isi_str, List.set, List.getElem?_cons_zero, List.getElem?_cons_succ, List.map_cons, List.map_nil, List.length_cons, List.length_nil, Option.bind_some, Bool.false_eq_true, if_false, if_true, reduceIte, Nat.reduceAdd, reduceCtorEq, decide_true, decide_false, Bool.not_true, Bool.not_false, gi, e2]

/-! ### nets that are right -/
def ltQ (p q : Int × Int) : Prop := p.1 < q.1 ∨ (p.1 = q.1 ∧ p.2 < q.2)
structure NetOk (ts : List Int) (ps : List (Int × Int)) : Prop where
  l1 : 1 ≤ ts.length
  l2 : ts.length ≤ 10
  tr : ∀ t ∈ ts, 1 ≤ t ∧ t ≤ 4
  ln : ∀ p ∈ ps, 0 ≤ p.1 ∧ p.1 < ts.length ∧ 0 ≤ p.2 ∧ p.2 < ts.length ∧ p.1 ≠ p.2
  so : ps.Pairwise ltQ
  le : ps.length ≤ 200
theorem ltQ_le {p q : Int × Int} (h : ltQ p q) : leP p q = true := by
  unfold ltQ at h
  simp only [leP, decide_eq_true_eq]
  omega
theorem NetOk.sle {ts : List Int} {ps : List (Int × Int)} (h : NetOk ts ps) : ps.Pairwise (fun a b => leP a b = true) := h.so.imp ltQ_le
theorem NetOk.nodup {ts : List Int} {ps : List (Int × Int)} (h : NetOk ts ps) : ps.Nodup := h.so.imp fun {a b} q e => by
  subst e
  unfold ltQ at q
  omega
theorem lt_of_le_nd {ps : List (Int × Int)} (h : ps.Pairwise (fun a b => leP a b = true)) (n : ps.Nodup) : ps.Pairwise ltQ := by
  refine (h.and n).imp ?_
  rintro ⟨a1, a2⟩ ⟨b1, b2⟩ ⟨h1, h2⟩
  simp only [leP, decide_eq_true_eq] at h1
  unfold ltQ
  simp only
  by_cases e : a1 = b1 ∧ a2 = b2
  · exact absurd (by rw [e.1, e.2]) h2
  · omega
theorem eq_of_leI {xs ys : List Int} (h : xs.Perm ys) (h1 : xs.Pairwise (· ≤ ·)) (h2 : ys.Pairwise (· ≤ ·)) : xs = ys :=
  h.eq_of_pairwise (fun a b _ _ z1 z2 => Int.le_antisymm z1 z2) h1 h2
theorem out_le {ps : List (Int × Int)} (h : ps.Pairwise (fun a b => leP a b = true)) (s : Int) : (outOf ps s).Pairwise (· ≤ ·) := by
  unfold outOf
  rw [List.pairwise_map]
  refine (h.filter _).imp_of_mem ?_
  intro a b ha hb hab
  have h1 := (List.mem_filter.mp ha).2
  have h2 := (List.mem_filter.mp hb).2
  simp only [leP, decide_eq_true_eq] at *
  omega
theorem into_le {ps : List (Int × Int)} (h : ps.Pairwise (fun a b => leP a b = true)) (s : Int) : (intoOf ps s).Pairwise (· ≤ ·) := by
  unfold intoOf
  rw [List.pairwise_map]
  refine (h.filter _).imp_of_mem ?_
  intro a b ha hb hab
  simp only [leP, decide_eq_true_eq] at *
  omega
theorem out_swp (ps : List (Int × Int)) (s : Int) : outOf (ps.map swp) s = intoOf ps s := by
  unfold outOf intoOf
  rw [List.filter_map, List.map_map]
  rfl
theorem into_swp (ps : List (Int × Int)) (s : Int) : intoOf (ps.map swp) s = outOf ps s := by
  unfold outOf intoOf
  rw [List.filter_map, List.map_map]
  rfl
theorem out_perm {ps qs : List (Int × Int)} (h : ps.Perm qs) (s : Int) : (outOf ps s).Perm (outOf qs s) := (h.filter _).map _
theorem into_perm {ps qs : List (Int × Int)} (h : ps.Perm qs) (s : Int) : (intoOf ps s).Perm (intoOf qs s) := (h.filter _).map _
theorem out_back {ps : List (Int × Int)} (h : ps.Pairwise (fun a b => leP a b = true)) (s : Int) : outOf (sortP (ps.map swp)) s = intoOf ps s := by
  refine eq_of_leI ?_ (out_le (sortP_le _) s) (into_le h s)
  rw [← out_swp]
  exact out_perm (sortP_perm _) s
theorem into_back {ps : List (Int × Int)} (h : ps.Pairwise (fun a b => leP a b = true)) (s : Int) : intoOf (sortP (ps.map swp)) s = outOf ps s := by
  refine eq_of_leI ?_ (into_le (sortP_le _) s) (out_le h s)
  rw [← into_swp]
  exact into_perm (sortP_perm _) s
theorem swp_swp (ps : List (Int × Int)) : (ps.map swp).map swp = ps := by
  rw [List.map_map]
  have : (swp ∘ swp) = id := by funext p; rfl
  rw [this, List.map_id]
theorem back_back {ps : List (Int × Int)} (h : ps.Pairwise (fun a b => leP a b = true)) : sortP ((sortP (ps.map swp)).map swp) = ps := by
  refine sortP_of ?_ h
  have h1 := (sortP_perm (ps.map swp)).map swp
  rw [swp_swp] at h1
  exact h1
/-! what may be shown -/
theorem sm_ints {xs : List Int} {m : Nat} (h : ∀ x ∈ xs, x.natAbs < 10 ^ 40) (hl : xs.length ≤ m) : Sm (m * 1) 1 (.tuple (xs.map PyData.int)) := by
  refine sm_tup (n := 0) (k := 0) (fun d hd => ?_) (by rw [List.length_map]; exact hl)
  obtain ⟨x, hx, rfl⟩ := List.mem_map.mp hd
  exact sm_int (h x hx)
theorem sm_prs {ps : List (Int × Int)} {m : Nat} (h : ∀ p ∈ ps, p.1.natAbs < 10 ^ 40 ∧ p.2.natAbs < 10 ^ 40) (hl : ps.length ≤ m) : Sm (m * 3) 2 (.tuple (ps.map prD)) := by
  refine (sm_tup (n := 2) (k := 1) (m := m) (fun d hd => ?_) (by rw [List.length_map]; exact hl))
  obtain ⟨p, hp, rfl⟩ := List.mem_map.mp hd
  refine (sm_tup (n := 0) (k := 0) (m := 2) (ds := [.int p.1, .int p.2]) (fun d hd => ?_) (Nat.le_refl 2)).mono
  simp only [List.mem_cons, List.not_mem_nil, or_false] at hd
  rcases hd with rfl | rfl
  · exact sm_int (h p hp).1
  · exact sm_int (h p hp).2
theorem big10 : 4 < 10 ^ 40 := by decide
theorem abs_lt {i : Int} {n : Nat} (h0 : 0 ≤ i) (h1 : i < n) (hn : n ≤ 1000) : i.natAbs < 10 ^ 40 := by
  have h2 : i.natAbs < 1000 := by omega
  exact Nat.lt_of_lt_of_le h2 (by decide)
theorem NetOk.sm {ts : List Int} {ps : List (Int × Int)} (h : NetOk ts ps) : Sm 1300 3 (netD ts ps) := by
  have a := sm_ints (xs := ts) (m := 10) (fun x hx => by
    have := h.tr x hx
    have : x.natAbs < 1000 := by omega
    exact Nat.lt_of_lt_of_le this (by decide)) h.l2
  have b := sm_prs (ps := ps) (m := 200) (fun p hp => by
    obtain ⟨z1, z2, z3, z4, _⟩ := h.ln p hp
    have := h.l2
    exact ⟨abs_lt z1 z2 (by omega), abs_lt z3 z4 (by omega)⟩) h.le
  refine (sm_tup (n := 600) (k := 2) (m := 2) (ds := [.tuple (ts.map PyData.int), .tuple (ps.map prD)]) (fun d hd => ?_) (Nat.le_refl 2)).mono
  simp only [List.mem_cons, List.not_mem_nil, or_false] at hd
  rcases hd with rfl | rfl
  · exact a.mono
  · exact b.mono
theorem NetOk.can {ts : List Int} {ps : List (Int × Int)} (h : NetOk ts ps) : canShow (netD ts ps) = true := h.sm.can
/-! a right net has no fault -/
theorem trk_none {ts : List Int} (h : ∀ t ∈ ts, 1 ≤ t ∧ t ≤ 4) : ∀ i, trkAt i (ts.map PyData.int) = none := by
  induction ts with
  | nil => intro i; rfl
  | cons t ts ih =>
    intro i
    have ht := h t (by simp)
    rw [List.map_cons]
    unfold trkAt isW
    simp only [ht.1, ht.2, decide_true, Bool.and_self, if_true]
    exact ih (fun x hx => h x (List.mem_cons_of_mem _ hx)) (i + 1)
theorem lin_none {n : Int} {ps : List (Int × Int)} (h : ∀ p ∈ ps, 0 ≤ p.1 ∧ p.1 < n ∧ 0 ≤ p.2 ∧ p.2 < n ∧ p.1 ≠ p.2) : ∀ i, linAt n i (ps.map prD) = none := by
  induction ps with
  | nil => intro i; rfl
  | cons p ps ih =>
    intro i
    obtain ⟨z1, z2, z3, z4, z5⟩ := h p (by simp)
    rw [List.map_cons]
    have hl : isL (prD p) n = true := by
      unfold isL prD isW
      have e1 : p.1 ≤ n - 1 := by omega
      have e2 : p.2 ≤ n - 1 := by omega
      have e3 : PyData.eqv (.int p.1) (.int p.2) = false := by
        simp only [PyData.eqv, beq_eq_false_iff_ne, ne_eq]
        exact z5
      simp only [z1, z3, e1, e2, e3, decide_true, Bool.and_self, Bool.not_false]
    unfold linAt
    rw [if_pos hl]
    exact ih (fun x hx => h x (List.mem_cons_of_mem _ hx)) (i + 1)
theorem ord_none {ps : List (Int × Int)} (h : ps.Pairwise ltQ) : ∀ (k i : Nat), 1 ≤ i → i + k ≤ ps.length → ordAt ps i k = none
  | 0, i, _, _ => rfl
  | k + 1, i, h1, h2 => by
    have hp : ltQ (ps.getD (i - 1) (0, 0)) (ps.getD i (0, 0)) := by
      rw [List.getD_eq_getElem?_getD, List.getD_eq_getElem?_getD, List.getElem?_eq_getElem (by omega), List.getElem?_eq_getElem (by omega)]
      exact List.pairwise_iff_getElem.mp h (i - 1) i (by omega) (by omega) (by omega)
    have hb : ltP (ps.getD (i - 1) (0, 0)) (ps.getD i (0, 0)) = true := by
      unfold ltQ at hp
      simp only [ltP, Bool.or_eq_true, Bool.and_eq_true, decide_eq_true_eq]
      omega
    unfold ordAt
    rw [if_pos hb]
    exact ord_none h k (i + 1) (by omega) (by omega)
theorem NetOk.fault {ts : List Int} {ps : List (Int × Int)} (h : NetOk ts ps) : fault (netD ts ps) = .none := by
  have hb : isB (netD ts ps) = true := by
    unfold isB netD
    simp only [List.length_map, Bool.and_eq_true, decide_eq_true_eq]
    have := h.l1
    have := h.l2
    omega
  unfold Pu.L.fault
  rw [if_pos hb]
  simp only [netD]
  unfold fault2
  rw [trk_none h.tr, List.length_map, lin_none (fun p hp => h.ln p hp), List.length_map]
  simp only
  have hu : (ps.map prD).map unpr = ps := unpr_pr ps
  rw [hu]
  by_cases h0 : ps.length = 0
  · rw [h0]; rfl
  · rw [ord_none h.so (ps.length - 1) 1 (by omega) (by omega)]
theorem NetOk.F_error {ts : List Int} {ps : List (Int × Int)} (h : NetOk ts ps) : F_net_error [netD ts ps] = .ok (.val .none) := by
  rw [F_faultP (netD ts ps) (fun ts' ls e => ?_), h.fault]
  simp only [netD, PyData.tuple.injEq, List.cons.injEq, and_true] at e
  rw [← e.2, List.length_map]
  have := h.le
  omega
/-! nets changed -/
theorem wid_len {ts : List Int} {i : Nat} (h : i < ts.length) : (wid ts i).length = ts.length := by
  unfold wid
  simp
  omega
theorem NetOk.wide {ts : List Int} {ps : List (Int × Int)} (h : NetOk ts ps) {i : Nat} (hi : i < ts.length) (h4 : ¬ ts.getD i 0 = 4) : NetOk (wid ts i) ps := by
  have hm : ts.getD i 0 ∈ ts := by
    rw [List.getD_eq_getElem?_getD, List.getElem?_eq_getElem hi]
    exact List.getElem_mem hi
  have hl := wid_len hi
  refine ⟨by rw [hl]; exact h.l1, by rw [hl]; exact h.l2, fun t ht => ?_, by rw [hl]; exact h.ln, h.so, h.le⟩
  unfold wid at ht
  rcases List.mem_append.mp ht with ht | ht
  · rcases List.mem_append.mp ht with ht | ht
    · exact h.tr t (List.mem_of_mem_take ht)
    · rw [List.mem_singleton.mp ht]
      have := h.tr _ hm
      omega
  · exact h.tr t (List.mem_of_mem_drop ht)
theorem NetOk.lay {ts : List Int} {ps : List (Int × Int)} (h : NetOk ts ps) {i j : Nat} (hi : i < ts.length) (hj : j < ts.length) (hij : ¬ (i : Int) = j) (hn : ((i : Int), (j : Int)) ∉ ps) (hl : ps.length < 200) : NetOk ts (sortP (ps ++ [((i : Int), (j : Int))])) := by
  have hp := sortP_perm (ps ++ [((i : Int), (j : Int))])
  refine ⟨h.l1, h.l2, h.tr, fun p hq => ?_, lt_of_le_nd (sortP_le _) (hp.nodup_iff.mpr ?_), ?_⟩
  · rcases List.mem_append.mp (hp.mem_iff.mp hq) with hq | hq
    · exact h.ln p hq
    · rw [List.mem_singleton.mp hq]
      simp only
      omega
  · refine List.nodup_append.mpr ⟨h.nodup, by simp, fun a ha b hb => ?_⟩
    rw [List.mem_singleton.mp hb]
    rintro rfl
    exact hn ha
  · rw [hp.length_eq, List.length_append, List.length_singleton]
    omega
theorem NetOk.cut {ts : List Int} {ps : List (Int × Int)} (h : NetOk ts ps) (q : Int × Int) : NetOk ts (butL ps q) := by
  have hs : (butL ps q).Sublist ps := List.filter_sublist
  exact ⟨h.l1, h.l2, h.tr, fun p hp => h.ln p (hs.mem hp), h.so.sublist hs, Nat.le_trans hs.length_le h.le⟩
theorem lay_cut {ts : List Int} {ps : List (Int × Int)} (h : NetOk ts ps) {q : Int × Int} (hn : q ∉ ps) : butL (sortP (ps ++ [q])) q = ps := by
  refine eq_of_le ?_ ((sortP_le _).filter _) h.sle
  have h1 : (butL (sortP (ps ++ [q])) q).Perm (butL (ps ++ [q]) q) := (sortP_perm _).filter _
  have h2 : butL (ps ++ [q]) q = ps := by
    unfold butL
    rw [List.filter_append]
    have e1 : ps.filter (fun p => decide (p ≠ q)) = ps := List.filter_eq_self.mpr fun p hp => by
      simp only [ne_eq, decide_eq_true_eq]
      rintro rfl
      exact hn hp
    have e2 : [q].filter (fun p => decide (p ≠ q)) = [] := by simp
    rw [e1, e2, List.append_nil]
  rw [h2] at h1
  exact h1
theorem cut_not {ps : List (Int × Int)} {q : Int × Int} : q ∉ butL ps q := by
  unfold butL
  intro h
  have := (List.mem_filter.mp h).2
  simp at this
theorem cut_lay {ts : List Int} {ps : List (Int × Int)} (h : NetOk ts ps) {q : Int × Int} (hq : q ∈ ps) : sortP (butL ps q ++ [q]) = ps := by
  refine sortP_of ?_ h.sle
  refine (List.perm_ext_iff_of_nodup ?_ h.nodup).mpr fun a => ?_
  · refine List.nodup_append.mpr ⟨h.nodup.filter _, by simp, fun a ha b hb => ?_⟩
    rw [List.mem_singleton.mp hb]
    rintro rfl
    exact cut_not ha
  · rw [List.mem_append, List.mem_singleton]
    unfold butL
    rw [List.mem_filter]
    simp only [ne_eq, decide_eq_true_eq]
    constructor
    · rintro (h | rfl)
      · exact h.1
      · exact hq
    · intro ha
      by_cases e : a = q
      · exact .inr e
      · exact .inl ⟨ha, e⟩

/-! ### drawn nets (the deck family) -/
abbrev Dk : Ab → Prop := IsDeck "deep" "state"
theorem drw {t : Ab} {m : Int} (h : Dk t) (h1 : 1 ≤ m) (h2 : m < 1073741824) : ∃ i t', F__law_draw t [.int m] = (.ok (.val (.int i)), t') ∧ 0 ≤ i ∧ i < m ∧ Dk t' := draw1_ok h h1 h2
theorem pck {t : Ab} {ds : List D} (h : Dk t) (h0 : ds ≠ []) (hl : ds.length ≤ 1000) : ∃ d t', F__law_pick t [.list ds] = (.ok (.val d), t') ∧ d ∈ ds ∧ Dk t' := by
  have hp : 0 < ds.length := List.length_pos_iff.mpr h0
  obtain ⟨i, t', e, i0, i1, hd⟩ := drw (m := (ds.length : Int)) h (by omega) (by omega)
  obtain ⟨d, hm, g⟩ := gIx_l i0 i1
  refine ⟨d, t', ?_, hm, hd⟩
  unfold F__law_pick runB g__law_pick
  simp [bnd_e, ret_e, oops_e, lift_s, lift_n, opn_e, thaw_v, thaw_t, thaw_s, rsv_v, rsv_s, frz_v, frz_t, frz_s, kept_e, eVar_e, eBin_e, toB_b, eTest_e, bAnd_e, bOr_e, bNot_e, eTruth_e, vAnd_e, vOr_e, vNot_e, eIf_e, eTup_e, eLst_e, rsvs_n, rsvs_c, eBi_e, toPart_i, eSl_e, eUn_e, eIsi_e, eChain_e, sSeq_e, sRet_e, sExpr_e, sIf_e, putS_e, asg_v, asg_t, sSet_e, tgTup_e, tgCons_e, tgNil_e, tgName_e, sAsg_e, sFor_e, eIter_e, eEnum_e, eRng1_e, eRng2_e, eCallA_e, eCallK_e, frOf_k, ite_ap, mtc_out, isi_int, isi_bool, isi_tuple, isIntD, isBoolD, isTupD, gLen, truth, gEq_int, gNe_int, gLe_int, gLt_int, gSub_int, gAdd_int, sPar_e, gEq_str, abAtE_e, frB_k, eCallB_e, noExc_e, eDict1_e, gNeg_int, gPow_30, eLc_e, gTuple_l, gTuple_t, gList_l, gList_t, sPutAt_e, lsAt_e, gSl_t, envOf, finR, sRaise0_e, frOf_x, sTry_e, noX_k, isi_str, e, g, ab0]
def prsOf (n : Nat) : List (Int × Int) := (List.range n).flatMap fun i => ((List.range n).filter (fun j => decide (j ≠ i))).map fun (j : Nat) => (((i : Nat) : Int), ((j : Nat) : Int))
instance ltQ_dec (p q : Int × Int) : Decidable (ltQ p q) := by unfold ltQ; infer_instance
structure PairsOk (n : Nat) : Prop where
  run : F__law_pairs [.int (n : Nat)] = .ok (.tmp ((prsOf n).map prD))
  le : (prsOf n).length ≤ 90
  so : (prsOf n).Pairwise ltQ
  ln : ∀ p ∈ prsOf n, 0 ≤ p.1 ∧ p.1 < n ∧ 0 ≤ p.2 ∧ p.2 < n ∧ p.1 ≠ p.2
theorem pairs1 : PairsOk 1 := ⟨rfl, by decide +kernel, by decide +kernel, by decide +kernel⟩
theorem pairs2 : PairsOk 2 := ⟨rfl, by decide +kernel, by decide +kernel, by decide +kernel⟩
theorem pairs3 : PairsOk 3 := ⟨rfl, by decide +kernel, by decide +kernel, by decide +kernel⟩
theorem pairs4 : PairsOk 4 := ⟨rfl, by decide +kernel, by decide +kernel, by decide +kernel⟩
theorem pairs5 : PairsOk 5 := ⟨rfl, by decide +kernel, by decide +kernel, by decide +kernel⟩
theorem pairs6 : PairsOk 6 := ⟨rfl, by decide +kernel, by decide +kernel, by decide +kernel⟩
theorem pairs10 : PairsOk 10 := ⟨rfl, by decide +kernel, by decide +kernel, by decide +kernel⟩
theorem lcT (N x2 x3 x5 : Option SV) : ∀ (k : Nat) (lo : Int) (acc : List D) (t : Ab), Dk t → acc.length + k ≤ 1000 → ∃ (xs : List Int) (t' : Ab), goLc [4] (tgName 4) (ret true) C__law_net_2 (rangeD lo k) acc [some (.ab t), N, x2, x3, none, x5] = .ok (acc ++ xs.map PyData.int) [some (.ab t'), N, x2, x3, none, x5] ∧ xs.length = k ∧ (∀ x ∈ xs, 1 ≤ x ∧ x ≤ 4) ∧ Dk t'
  | 0, lo, acc, t, h, _ => ⟨[], t, by simp [rangeD, goLc], rfl, fun _ h => (nomatch h), h⟩
  | k + 1, lo, acc, t, h, hl => by
    obtain ⟨d, t1, e, hm, h1⟩ := pck (ds := [.int 1, .int 1, .int 1, .int 2, .int 2, .int 3, .int 4]) h (by decide) (by decide)
    obtain ⟨x, rfl, x1, x2'⟩ : ∃ x : Int, d = .int x ∧ 1 ≤ x ∧ x ≤ 4 := by
      simp only [List.mem_cons, List.not_mem_nil, or_false] at hm
      rcases hm with rfl | rfl | rfl | rfl | rfl | rfl | rfl <;> exact ⟨_, rfl, by decide, by decide⟩
    obtain ⟨xs, t', q, q1, q2, q3⟩ := lcT N x2 x3 x5 k (lo + 1) (acc ++ [.int x]) t1 h1 (by rw [List.length_append, List.length_singleton]; omega)
    refine ⟨x :: xs, t', ?_, by rw [List.length_cons, q1], fun y hy => ?_, q3⟩
    · rw [rangeD_succ]
      unfold goLc C__law_net_2
      have hb : acc.length < bigLine := by unfold bigLine; omega
      unfold C__law_net_2 at q
      simp only [bnd_e, ret_e, oops_e, lift_s, lift_n, opn_e, thaw_v, thaw_t, thaw_s, rsv_v, rsv_s, frz_v, frz_t, frz_s, kept_e, eVar_e, eBin_e, toB_b, eTest_e, bAnd_e, bOr_e, bNot_e, eTruth_e, vAnd_e, vOr_e, vNot_e, eIf_e, eTup_e, eLst_e, rsvs_n, rsvs_c, eBi_e, toPart_i, eSl_e, eUn_e, eIsi_e, eChain_e, sSeq_e, sRet_e, sExpr_e, sIf_e, putS_e, asg_v, asg_t, sSet_e, tgTup_e, tgCons_e, tgNil_e, tgName_e, sAsg_e, sFor_e, eIter_e, eEnum_e, eRng1_e, eRng2_e, eCallA_e, eCallK_e, frOf_k, ite_ap, mtc_out, isi_int, isi_bool, isi_tuple, isIntD, isBoolD, isTupD, gLen, truth, gEq_int, gNe_int, gLe_int, gLt_int, gSub_int, gAdd_int, sPar_e, gEq_str, abAtE_e, frB_k, eCallB_e, noExc_e, eDict1_e, gNeg_int, gPow_30, eLc_e, gTuple_l, gTuple_t, gList_l, gList_t, sPutAt_e, lsAt_e, gSl_t, finR, sRaise0_e, frOf_x, sTry_e, noX_k, isi_str, List.set, List.getElem?_cons_zero, List.getElem?_cons_succ, List.map_cons, List.map_nil, List.length_cons, List.length_nil, Option.bind_some, Bool.false_eq_true, if_false, if_true, reduceIte, Nat.reduceAdd, reduceCtorEq, decide_true, decide_false, Bool.not_true, Bool.not_false, e, hb, wipeE]
      rw [q]
      simp
    · rcases List.mem_cons.mp hy with rfl | hy
      · exact ⟨x1, x2'⟩
      · exact q2 y hy
theorem lcP (N x2 x4 : Option SV) (q : Int) : ∀ (ps : List (Int × Int)) (acc : List D) (t : Ab), Dk t → acc.length + ps.length ≤ 1000 → ∃ (qs : List (Int × Int)) (t' : Ab), goLc [5] (tgName 5) D__law_net_0 C__law_net_1 (ps.map prD) acc [some (.ab t), N, x2, some (.im (.int q)), x4, none] = .ok (acc ++ qs.map prD) [some (.ab t'), N, x2, some (.im (.int q)), x4, none] ∧ qs.Sublist ps ∧ Dk t'
  | [], acc, t, h, _ => ⟨[], t, by simp [goLc], List.Sublist.refl _, h⟩
  | p :: ps, acc, t, h, hl => by
    obtain ⟨i, t1, e, i0, i1, h1⟩ := drw (m := 6) h (by decide) (by decide)
    rw [List.length_cons] at hl
    have hb : acc.length < bigLine := by unfold bigLine; omega
    by_cases hi : i < q
    · obtain ⟨qs, t', z, z1, z3⟩ := lcP N x2 x4 q ps (acc ++ [prD p]) t1 h1 (by rw [List.length_append, List.length_singleton]; omega)
      refine ⟨p :: qs, t', ?_, z1.cons_cons p, z3⟩
      rw [List.map_cons]
      unfold goLc
      unfold D__law_net_0 C__law_net_1 at z ⊢
      have hi' : decide (i < q) = true := decide_eq_true hi
      simp only [bnd_e, ret_e, oops_e, lift_s, lift_n, opn_e, thaw_v, thaw_t, thaw_s, rsv_v, rsv_s, frz_v, frz_t, frz_s, kept_e, eVar_e, eBin_e, toB_b, eTest_e, bAnd_e, bOr_e, bNot_e, eTruth_e, vAnd_e, vOr_e, vNot_e, eIf_e, eTup_e, eLst_e, rsvs_n, rsvs_c, eBi_e, toPart_i, eSl_e, eUn_e, eIsi_e, eChain_e, sSeq_e, sRet_e, sExpr_e, sIf_e, putS_e, asg_v, asg_t, sSet_e, tgTup_e, tgCons_e, tgNil_e, tgName_e, sAsg_e, sFor_e, eIter_e, eEnum_e, eRng1_e, eRng2_e, eCallA_e, eCallK_e, frOf_k, ite_ap, mtc_out, isi_int, isi_bool, isi_tuple, isIntD, isBoolD, isTupD, gLen, truth, gEq_int, gNe_int, gLe_int, gLt_int, gSub_int, gAdd_int, sPar_e, gEq_str, abAtE_e, frB_k, eCallB_e, noExc_e, eDict1_e, gNeg_int, gPow_30, eLc_e, gTuple_l, gTuple_t, gList_l, gList_t, sPutAt_e, lsAt_e, gSl_t, finR, sRaise0_e, frOf_x, sTry_e, noX_k, isi_str, List.set, List.getElem?_cons_zero, List.getElem?_cons_succ, List.map_cons, List.map_nil, List.length_cons, List.length_nil, Option.bind_some, Bool.false_eq_true, if_false, if_true, reduceIte, Nat.reduceAdd, reduceCtorEq, decide_true, decide_false, Bool.not_true, Bool.not_false, e, hi', hb, wipeE]
      rw [z]
      simp
    · obtain ⟨qs, t', z, z1, z3⟩ := lcP N x2 x4 q ps acc t1 h1 (by omega)
      refine ⟨qs, t', ?_, z1.cons p, z3⟩
      rw [List.map_cons]
      unfold goLc
      unfold D__law_net_0 C__law_net_1 at z ⊢
      have hi' : decide (i < q) = false := decide_eq_false hi
      simp only [bnd_e, ret_e, oops_e, lift_s, lift_n, opn_e, thaw_v, thaw_t, thaw_s, rsv_v, rsv_s, frz_v, frz_t, frz_s, kept_e, eVar_e, eBin_e, toB_b, eTest_e, bAnd_e, bOr_e, bNot_e, eTruth_e, vAnd_e, vOr_e, vNot_e, eIf_e, eTup_e, eLst_e, rsvs_n, rsvs_c, eBi_e, toPart_i, eSl_e, eUn_e, eIsi_e, eChain_e, sSeq_e, sRet_e, sExpr_e, sIf_e, putS_e, asg_v, asg_t, sSet_e, tgTup_e, tgCons_e, tgNil_e, tgName_e, sAsg_e, sFor_e, eIter_e, eEnum_e, eRng1_e, eRng2_e, eCallA_e, eCallK_e, frOf_k, ite_ap, mtc_out, isi_int, isi_bool, isi_tuple, isIntD, isBoolD, isTupD, gLen, truth, gEq_int, gNe_int, gLe_int, gLt_int, gSub_int, gAdd_int, sPar_e, gEq_str, abAtE_e, frB_k, eCallB_e, noExc_e, eDict1_e, gNeg_int, gPow_30, eLc_e, gTuple_l, gTuple_t, gList_l, gList_t, sPutAt_e, lsAt_e, gSl_t, finR, sRaise0_e, frOf_x, sTry_e, noX_k, isi_str, List.set, List.getElem?_cons_zero, List.getElem?_cons_succ, List.map_cons, List.map_nil, List.length_cons, List.length_nil, Option.bind_some, Bool.false_eq_true, if_false, if_true, reduceIte, Nat.reduceAdd, reduceCtorEq, decide_true, decide_false, Bool.not_true, Bool.not_false, e, hi', hb, wipeE]
      rw [z]
theorem net_ok {t : Ab} {n : Nat} (h : Dk t) (h1 : 1 ≤ n) (hn : n ≤ 10) (hp : PairsOk n) : ∃ (ts : List Int) (ps : List (Int × Int)) (t' : Ab), F__law_net t [.int (n : Nat)] = (.ok (.val (netD ts ps)), t') ∧ NetOk ts ps ∧ ts.length = n ∧ ps.length ≤ 90 ∧ Dk t' := by
  obtain ⟨ts, t1, e1, l1, s1, h1'⟩ := lcT (some (.im (.int (n : Nat)))) none none none n 0 [] t h (by simp; omega)
  obtain ⟨d, t2, e2, m2, h2⟩ := pck (ds := [.int 1, .int 2, .int 2, .int 3, .int 6]) h1' (by decide) (by decide)
  obtain ⟨q, rfl⟩ : ∃ q, d = .int q := by
    simp only [List.mem_cons, List.not_mem_nil, or_false] at m2
    rcases m2 with rfl | rfl | rfl | rfl | rfl <;> exact ⟨_, rfl⟩
  have hpl := hp.le
  obtain ⟨qs, t3, e3, l3, h3⟩ := lcP (some (.im (.int (n : Nat)))) (some (.im (.tuple (ts.map PyData.int)))) none q (prsOf n) [] t2 h2 (by simp; omega)
  have hl3 := l3.length_le
  refine ⟨ts, qs, t3, ?_, ⟨by omega, by omega, s1, fun p hq => ?_, hp.so.sublist l3, by omega⟩, l1, by omega, h3⟩
  · rw [List.nil_append] at e1 e3
    have p1 := hp.run
    have ir := int1_n (n := n) (by omega)
    have he : envOf 6 (SV.ab t :: [PyData.int (n : Nat)].map SV.im) = [some (.ab t), some (.im (.int (n : Nat))), none, none, none, none] := rfl
    unfold F__law_net runB g__law_net
    rw [he]
    simp only [netD]
    simp only [bnd_e, ret_e, oops_e, lift_s, lift_n, opn_e, thaw_v, thaw_t, thaw_s, rsv_v, rsv_s, frz_v, frz_t, frz_s, kept_e, eVar_e, eBin_e, toB_b, eTest_e, bAnd_e, bOr_e, bNot_e, eTruth_e, vAnd_e, vOr_e, vNot_e, eIf_e, eTup_e, eLst_e, rsvs_n, rsvs_c, eBi_e, toPart_i, eSl_e, eUn_e, eIsi_e, eChain_e, sSeq_e, sRet_e, sExpr_e, sIf_e, putS_e, asg_v, asg_t, sSet_e, tgTup_e, tgCons_e, tgNil_e, tgName_e, sAsg_e, sFor_e, eIter_e, eEnum_e, eRng1_e, eRng2_e, eCallA_e, eCallK_e, frOf_k, ite_ap, mtc_out, isi_int, isi_bool, isi_tuple, isIntD, isBoolD, isTupD, gLen, truth, gEq_int, gNe_int, gLe_int, gLt_int, gSub_int, gAdd_int, sPar_e, gEq_str, abAtE_e, frB_k, eCallB_e, noExc_e, eDict1_e, gNeg_int, gPow_30, eLc_e, gTuple_l, gTuple_t, gList_l, gList_t, sPutAt_e, lsAt_e, gSl_t, finR, sRaise0_e, frOf_x, sTry_e, noX_k, isi_str, List.set, List.getElem?_cons_zero, List.getElem?_cons_succ, List.map_cons, List.map_nil, List.length_cons, List.length_nil, Option.bind_some, Bool.false_eq_true, if_false, if_true, reduceIte, Nat.reduceAdd, reduceCtorEq, decide_true, decide_false, Bool.not_true, Bool.not_false, ir, Int.toNat_natCast, wipeE, e1, e2, e3, p1, itemsOf, rst, imOnly, ab0]
  · rw [l1]
    exact hp.ln p (l3.mem hq)

end Pu.L

namespace Pu.L
open PySem PySem.Spec PyProof.Rows L2 Pu
/-! ### k02: what is due, what is done -/
def unfit : D := .str "unfit"
def dueOf (w : Str) (ts : List Int) (ps : List (Int × Int)) (i j : Nat) : D :=
  if w = "wider" then (if ts.getD i 0 = 4 then unfit else netD (wid ts i) ps)
  else if w = "laid" then (if (i : Int) = j ∨ ((i : Int), (j : Int)) ∈ ps then unfit else netD ts (sortP (ps ++ [((i : Int), (j : Int))])))
  else (if ((i : Int), (j : Int)) ∈ ps then netD ts (butL ps ((i : Int), (j : Int))) else unfit)
theorem mt_unfit : mt_Unfit (exn0 "Unfit").cls = some true := rfl
theorem F_deed_ok (w : Str) (hw : w = "wider" ∨ w = "laid" ∨ w = "shut") (ts : List Int) (ps : List (Int × Int)) (i j : Nat) (hi : i < ts.length) (hl : ts.length ≤ 1000) (h : ps.length ≤ 10000) :
    F__law_deed [.str w, netD ts ps, .int (i : Nat), .int (j : Nat)] = .ok (.val (dueOf w ts ps i j)) := by
  have f1 := F_wider_ok ts ps i hi hl
  have f2 := F_laid_ok ts ps (i : Int) (j : Int) h
  have f3 := F_shut_ok ts ps (i : Int) (j : Int) h
  have he : envOf 4 ([PyData.str w, netD ts ps, PyData.int (i : Nat), PyData.int (j : Nat)].map SV.im) = [some (.im (.str w)), some (.im (netD ts ps)), some (.im (.int (i : Nat))), some (.im (.int (j : Nat)))] := rfl
  show noX (runA 4 g__law_deed _) = _
  unfold runA g__law_deed dueOf
  rw [he]
  rcases hw with rfl | rfl | rfl
  · rw [if_pos rfl]
    by_cases h4 : ts.getD i 0 = 4
    · rw [if_pos h4] at f1 ⊢
      simp only [bnd_e, ret_e, oops_e, lift_s, lift_n, opn_e, thaw_v, thaw_t, thaw_s, rsv_v, rsv_s, frz_v, frz_t, frz_s, kept_e, eVar_e, eBin_e, toB_b, eTest_e, bAnd_e, bOr_e, bNot_e, eTruth_e, vAnd_e, vOr_e, vNot_e, eIf_e, eTup_e, eLst_e, rsvs_n, rsvs_c, eBi_e, toPart_i, eSl_e, eUn_e, eIsi_e, eChain_e, sSeq_e, sRet_e, sExpr_e, sIf_e, putS_e, asg_v, asg_t, sSet_e, tgTup_e, tgCons_e, tgNil_e, tgName_e, sAsg_e, sFor_e, eIter_e, eEnum_e, eRng1_e, eRng2_e, eCallA_e, eCallK_e, frOf_k, ite_ap, mtc_out, isi_int, isi_bool, isi_tuple, isIntD, isBoolD, isTupD, gLen, truth, gEq_int, gNe_int, gLe_int, gLt_int, gSub_int, gAdd_int, sPar_e, gEq_str, abAtE_e, frB_k, eCallB_e, noExc_e, eDict1_e, gNeg_int, gPow_30, eLc_e, gTuple_l, gTuple_t, gList_l, gList_t, sPutAt_e, lsAt_e, gSl_t, finR, sRaise0_e, frOf_x, sTry_e, noX_k, isi_str, List.set, List.getElem?_cons_zero, List.getElem?_cons_succ, List.map_cons, List.map_nil, List.length_cons, List.length_nil, Option.bind_some, Bool.false_eq_true, if_false, if_true, reduceIte, Nat.reduceAdd, reduceCtorEq, decide_true, decide_false, Bool.not_true, Bool.not_false, f1, mt_unfit, decide_true, unfit]
    · rw [if_neg h4] at f1 ⊢
      simp only [bnd_e, ret_e, oops_e, lift_s, lift_n, opn_e, thaw_v, thaw_t, thaw_s, rsv_v, rsv_s, frz_v, frz_t, frz_s, kept_e, eVar_e, eBin_e, toB_b, eTest_e, bAnd_e, bOr_e, bNot_e, eTruth_e, vAnd_e, vOr_e, vNot_e, eIf_e, eTup_e, eLst_e, rsvs_n, rsvs_c, eBi_e, toPart_i, eSl_e, eUn_e, eIsi_e, eChain_e, sSeq_e, sRet_e, sExpr_e, sIf_e, putS_e, asg_v, asg_t, sSet_e, tgTup_e, tgCons_e, tgNil_e, tgName_e, sAsg_e, sFor_e, eIter_e, eEnum_e, eRng1_e, eRng2_e, eCallA_e, eCallK_e, frOf_k, ite_ap, mtc_out, isi_int, isi_bool, isi_tuple, isIntD, isBoolD, isTupD, gLen, truth, gEq_int, gNe_int, gLe_int, gLt_int, gSub_int, gAdd_int, sPar_e, gEq_str, abAtE_e, frB_k, eCallB_e, noExc_e, eDict1_e, gNeg_int, gPow_30, eLc_e, gTuple_l, gTuple_t, gList_l, gList_t, sPutAt_e, lsAt_e, gSl_t, finR, sRaise0_e, frOf_x, sTry_e, noX_k, isi_str, List.set, List.getElem?_cons_zero, List.getElem?_cons_succ, List.map_cons, List.map_nil, List.length_cons, List.length_nil, Option.bind_some, Bool.false_eq_true, if_false, if_true, reduceIte, Nat.reduceAdd, reduceCtorEq, decide_true, decide_false, Bool.not_true, Bool.not_false, f1, mt_unfit, decide_true, unfit]
  · have n1 : ¬ (("laid" : Str) = "wider") := by decide
    rw [if_neg n1, if_pos rfl]
    have d1 : decide (("laid" : Str) = "wider") = false := decide_eq_false n1
    by_cases h4 : (i : Int) = j ∨ ((i : Int), (j : Int)) ∈ ps
    · rw [if_pos h4] at f2 ⊢
      simp only [bnd_e, ret_e, oops_e, lift_s, lift_n, opn_e, thaw_v, thaw_t, thaw_s, rsv_v, rsv_s, frz_v, frz_t, frz_s, kept_e, eVar_e, eBin_e, toB_b, eTest_e, bAnd_e, bOr_e, bNot_e, eTruth_e, vAnd_e, vOr_e, vNot_e, eIf_e, eTup_e, eLst_e, rsvs_n, rsvs_c, eBi_e, toPart_i, eSl_e, eUn_e, eIsi_e, eChain_e, sSeq_e, sRet_e, sExpr_e, sIf_e, putS_e, asg_v, asg_t, sSet_e, tgTup_e, tgCons_e, tgNil_e, tgName_e, sAsg_e, sFor_e, eIter_e, eEnum_e, eRng1_e, eRng2_e, eCallA_e, eCallK_e, frOf_k, ite_ap, mtc_out, isi_int, isi_bool, isi_tuple, isIntD, isBoolD, isTupD, gLen, truth, gEq_int, gNe_int, gLe_int, gLt_int, gSub_int, gAdd_int, sPar_e, gEq_str, abAtE_e, frB_k, eCallB_e, noExc_e, eDict1_e, gNeg_int, gPow_30, eLc_e, gTuple_l, gTuple_t, gList_l, gList_t, sPutAt_e, lsAt_e, gSl_t, finR, sRaise0_e, frOf_x, sTry_e, noX_k, isi_str, List.set, List.getElem?_cons_zero, List.getElem?_cons_succ, List.map_cons, List.map_nil, List.length_cons, List.length_nil, Option.bind_some, Bool.false_eq_true, if_false, if_true, reduceIte, Nat.reduceAdd, reduceCtorEq, decide_true, decide_false, Bool.not_true, Bool.not_false, f2, mt_unfit, decide_true, d1, unfit]
    · rw [if_neg h4] at f2 ⊢
      simp only [bnd_e, ret_e, oops_e, lift_s, lift_n, opn_e, thaw_v, thaw_t, thaw_s, rsv_v, rsv_s, frz_v, frz_t, frz_s, kept_e, eVar_e, eBin_e, toB_b, eTest_e, bAnd_e, bOr_e, bNot_e, eTruth_e, vAnd_e, vOr_e, vNot_e, eIf_e, eTup_e, eLst_e, rsvs_n, rsvs_c, eBi_e, toPart_i, eSl_e, eUn_e, eIsi_e, eChain_e, sSeq_e, sRet_e, sExpr_e, sIf_e, putS_e, asg_v, asg_t, sSet_e, tgTup_e, tgCons_e, tgNil_e, tgName_e, sAsg_e, sFor_e, eIter_e, eEnum_e, eRng1_e, eRng2_e, eCallA_e, eCallK_e, frOf_k, ite_ap, mtc_out, isi_int, isi_bool, isi_tuple, isIntD, isBoolD, isTupD, gLen, truth, gEq_int, gNe_int, gLe_int, gLt_int, gSub_int, gAdd_int, sPar_e, gEq_str, abAtE_e, frB_k, eCallB_e, noExc_e, eDict1_e, gNeg_int, gPow_30, eLc_e, gTuple_l, gTuple_t, gList_l, gList_t, sPutAt_e, lsAt_e, gSl_t, finR, sRaise0_e, frOf_x, sTry_e, noX_k, isi_str, List.set, List.getElem?_cons_zero, List.getElem?_cons_succ, List.map_cons, List.map_nil, List.length_cons, List.length_nil, Option.bind_some, Bool.false_eq_true, if_false, if_true, reduceIte, Nat.reduceAdd, reduceCtorEq, decide_true, decide_false, Bool.not_true, Bool.not_false, f2, mt_unfit, decide_true, d1, unfit]
  · have n1 : ¬ (("shut" : Str) = "wider") := by decide
    have n2 : ¬ (("shut" : Str) = "laid") := by decide
    rw [if_neg n1, if_neg n2]
    have d1 : decide (("shut" : Str) = "wider") = false := decide_eq_false n1
    have d2 : decide (("shut" : Str) = "laid") = false := decide_eq_false n2
    by_cases h4 : ((i : Int), (j : Int)) ∈ ps
    · rw [if_pos h4] at f3 ⊢
      simp only [bnd_e, ret_e, oops_e, lift_s, lift_n, opn_e, thaw_v, thaw_t, thaw_s, rsv_v, rsv_s, frz_v, frz_t, frz_s, kept_e, eVar_e, eBin_e, toB_b, eTest_e, bAnd_e, bOr_e, bNot_e, eTruth_e, vAnd_e, vOr_e, vNot_e, eIf_e, eTup_e, eLst_e, rsvs_n, rsvs_c, eBi_e, toPart_i, eSl_e, eUn_e, eIsi_e, eChain_e, sSeq_e, sRet_e, sExpr_e, sIf_e, putS_e, asg_v, asg_t, sSet_e, tgTup_e, tgCons_e, tgNil_e, tgName_e, sAsg_e, sFor_e, eIter_e, eEnum_e, eRng1_e, eRng2_e, eCallA_e, eCallK_e, frOf_k, ite_ap, mtc_out, isi_int, isi_bool, isi_tuple, isIntD, isBoolD, isTupD, gLen, truth, gEq_int, gNe_int, gLe_int, gLt_int, gSub_int, gAdd_int, sPar_e, gEq_str, abAtE_e, frB_k, eCallB_e, noExc_e, eDict1_e, gNeg_int, gPow_30, eLc_e, gTuple_l, gTuple_t, gList_l, gList_t, sPutAt_e, lsAt_e, gSl_t, finR, sRaise0_e, frOf_x, sTry_e, noX_k, isi_str, List.set, List.getElem?_cons_zero, List.getElem?_cons_succ, List.map_cons, List.map_nil, List.length_cons, List.length_nil, Option.bind_some, Bool.false_eq_true, if_false, if_true, reduceIte, Nat.reduceAdd, reduceCtorEq, decide_true, decide_false, Bool.not_true, Bool.not_false, f3, mt_unfit, decide_true, d1, d2, unfit]
    · rw [if_neg h4] at f3 ⊢
      simp only [bnd_e, ret_e, oops_e, lift_s, lift_n, opn_e, thaw_v, thaw_t, thaw_s, rsv_v, rsv_s, frz_v, frz_t, frz_s, kept_e, eVar_e, eBin_e, toB_b, eTest_e, bAnd_e, bOr_e, bNot_e, eTruth_e, vAnd_e, vOr_e, vNot_e, eIf_e, eTup_e, eLst_e, rsvs_n, rsvs_c, eBi_e, toPart_i, eSl_e, eUn_e, eIsi_e, eChain_e, sSeq_e, sRet_e, sExpr_e, sIf_e, putS_e, asg_v, asg_t, sSet_e, tgTup_e, tgCons_e, tgNil_e, tgName_e, sAsg_e, sFor_e, eIter_e, eEnum_e, eRng1_e, eRng2_e, eCallA_e, eCallK_e, frOf_k, ite_ap, mtc_out, isi_int, isi_bool, isi_tuple, isIntD, isBoolD, isTupD, gLen, truth, gEq_int, gNe_int, gLe_int, gLt_int, gSub_int, gAdd_int, sPar_e, gEq_str, abAtE_e, frB_k, eCallB_e, noExc_e, eDict1_e, gNeg_int, gPow_30, eLc_e, gTuple_l, gTuple_t, gList_l, gList_t, sPutAt_e, lsAt_e, gSl_t, finR, sRaise0_e, frOf_x, sTry_e, noX_k, isi_str, List.set, List.getElem?_cons_zero, List.getElem?_cons_succ, List.map_cons, List.map_nil, List.length_cons, List.length_nil, Option.bind_some, Bool.false_eq_true, if_false, if_true, reduceIte, Nat.reduceAdd, reduceCtorEq, decide_true, decide_false, Bool.not_true, Bool.not_false, f3, mt_unfit, decide_true, d1, d2, unfit]
theorem butL_len {ps : List (Int × Int)} {q : Int × Int} : (butL ps q).length = ps.length ↔ q ∉ ps := by
  unfold butL
  rw [List.length_filter_eq_length_iff]
  constructor
  · intro h hq
    have := h q hq
    simp at this
  · intro h p hp
    simp only [decide_eq_true_eq]
    rintro rfl
    exact h hp
theorem F_due_ok (w : Str) (hw : w = "wider" ∨ w = "laid" ∨ w = "shut") (ts : List Int) (ps : List (Int × Int)) (i j : Nat) (hi : i < ts.length) (hl : ts.length ≤ 1000) (h : ps.length ≤ 10000) :
    F__law_due [.str w, netD ts ps, .int (i : Nat), .int (j : Nat)] = .ok (.val (dueOf w ts ps i j)) := by
  have he : envOf 8 ([PyData.str w, netD ts ps, PyData.int (i : Nat), PyData.int (j : Nat)].map SV.im) = [some (.im (.str w)), some (.im (netD ts ps)), some (.im (.int (i : Nat))), some (.im (.int (j : Nat))), none, none, none, none] := rfl
  unfold F__law_due runA g__law_due dueOf
  rw [he]
  rcases hw with rfl | rfl | rfl
  · rw [if_pos rfl]
    have g1 := gIx_ts hi
    have e1 : ((i : Nat) : Int) + 1 = ((i + 1 : Nat) : Int) := by omega
    have c1 := cut_lo (α := Int) (ts.map PyData.int) i (by rw [List.length_map]; omega)
    have c2 := cut_hi (ts.map PyData.int) (i + 1) (by rw [List.length_map]; omega)
    have a1 := gAdd_len (xs := (ts.map PyData.int).take i) (ys := [PyData.int (ts.getD i 0 + 1)]) (by simp; omega)
    have a2 := gAdd_len (xs := (ts.map PyData.int).take i ++ [PyData.int (ts.getD i 0 + 1)]) (ys := (ts.map PyData.int).drop (i + 1)) (by simp; omega)
    have w := wid_map ts i
    generalize (ts.map PyData.int).take i = A1 at c1 a1 a2 w
    generalize (ts.map PyData.int).drop (i + 1) = A2 at c2 a2 w
    generalize ts.getD i 0 = v at g1 a1 a2 w
    by_cases h4 : v = 4
    · subst h4
      have h5 : ((4 : Int) == (4 : Int)) = true := rfl
      simp only [netD, unfit]
      simp only [bnd_e, ret_e, oops_e, lift_s, lift_n, opn_e, thaw_v, thaw_t, thaw_s, rsv_v, rsv_s, frz_v, frz_t, frz_s, kept_e, eVar_e, eBin_e, toB_b, eTest_e, bAnd_e, bOr_e, bNot_e, eTruth_e, vAnd_e, vOr_e, vNot_e, eIf_e, eTup_e, eLst_e, rsvs_n, rsvs_c, eBi_e, toPart_i, eSl_e, eUn_e, eIsi_e, eChain_e, sSeq_e, sRet_e, sExpr_e, sIf_e, putS_e, asg_v, asg_t, sSet_e, tgTup_e, tgCons_e, tgNil_e, tgName_e, sAsg_e, sFor_e, eIter_e, eEnum_e, eRng1_e, eRng2_e, eCallA_e, eCallK_e, frOf_k, ite_ap, mtc_out, isi_int, isi_bool, isi_tuple, isIntD, isBoolD, isTupD, gLen, truth, gEq_int, gNe_int, gLe_int, gLt_int, gSub_int, gAdd_int, sPar_e, gEq_str, abAtE_e, frB_k, eCallB_e, noExc_e, eDict1_e, gNeg_int, gPow_30, eLc_e, gTuple_l, gTuple_t, gList_l, gList_t, sPutAt_e, lsAt_e, gSl_t, finR, sRaise0_e, frOf_x, sTry_e, noX_k, isi_str, List.set, List.getElem?_cons_zero, List.getElem?_cons_succ, List.map_cons, List.map_nil, List.length_cons, List.length_nil, Option.bind_some, Bool.false_eq_true, if_false, if_true, reduceIte, Nat.reduceAdd, reduceCtorEq, decide_true, decide_false, Bool.not_true, Bool.not_false, g1, h5, decide_true]
    · rw [if_neg h4]
      have h4' : (v == (4 : Int)) = false := by simpa using h4
      simp only [netD]
      simp only [bnd_e, ret_e, oops_e, lift_s, lift_n, opn_e, thaw_v, thaw_t, thaw_s, rsv_v, rsv_s, frz_v, frz_t, frz_s, kept_e, eVar_e, eBin_e, toB_b, eTest_e, bAnd_e, bOr_e, bNot_e, eTruth_e, vAnd_e, vOr_e, vNot_e, eIf_e, eTup_e, eLst_e, rsvs_n, rsvs_c, eBi_e, toPart_i, eSl_e, eUn_e, eIsi_e, eChain_e, sSeq_e, sRet_e, sExpr_e, sIf_e, putS_e, asg_v, asg_t, sSet_e, tgTup_e, tgCons_e, tgNil_e, tgName_e, sAsg_e, sFor_e, eIter_e, eEnum_e, eRng1_e, eRng2_e, eCallA_e, eCallK_e, frOf_k, ite_ap, mtc_out, isi_int, isi_bool, isi_tuple, isIntD, isBoolD, isTupD, gLen, truth, gEq_int, gNe_int, gLe_int, gLt_int, gSub_int, gAdd_int, sPar_e, gEq_str, abAtE_e, frB_k, eCallB_e, noExc_e, eDict1_e, gNeg_int, gPow_30, eLc_e, gTuple_l, gTuple_t, gList_l, gList_t, sPutAt_e, lsAt_e, gSl_t, finR, sRaise0_e, frOf_x, sTry_e, noX_k, isi_str, List.set, List.getElem?_cons_zero, List.getElem?_cons_succ, List.map_cons, List.map_nil, List.length_cons, List.length_nil, Option.bind_some, Bool.false_eq_true, if_false, if_true, reduceIte, Nat.reduceAdd, reduceCtorEq, decide_true, decide_false, Bool.not_true, Bool.not_false, g1, h4', e1, c1, c2, a1, a2, w, decide_true]
  · have n1 : ¬ (("laid" : Str) = "wider") := by decide
    rw [if_neg n1, if_pos rfl]
    have d1 : decide (("laid" : Str) = "wider") = false := decide_eq_false n1
    have gi : gIn false (.tuple [.int (i : Nat), .int (j : Nat)]) (.tuple (ps.map prD)) = some (.val (.bool (decide (((i : Int), (j : Int)) ∈ ps)))) := by
      have := gIn_prs false ((i : Int), (j : Int)) ps
      simp only [Bool.false_eq_true, if_false] at this
      exact this
    have ga : gAdd (.tuple (ps.map prD)) (.tuple [.tuple [.int (i : Nat), .int (j : Nat)]]) = some (.val (.tuple ((ps ++ [((i : Int), (j : Int))]).map prD))) := gAdd_prs ps ((i : Int), (j : Int)) (by omega)
    have gs := gSorted_prsT (ps := ps ++ [((i : Int), (j : Int))]) (by simp; omega)
    by_cases h1 : (i : Int) = j
    · have e1 : ((i : Int) == (j : Int)) = true := by simpa using h1
      rw [if_pos (Or.inl h1)]
      simp only [netD, unfit]
      simp only [bnd_e, ret_e, oops_e, lift_s, lift_n, opn_e, thaw_v, thaw_t, thaw_s, rsv_v, rsv_s, frz_v, frz_t, frz_s, kept_e, eVar_e, eBin_e, toB_b, eTest_e, bAnd_e, bOr_e, bNot_e, eTruth_e, vAnd_e, vOr_e, vNot_e, eIf_e, eTup_e, eLst_e, rsvs_n, rsvs_c, eBi_e, toPart_i, eSl_e, eUn_e, eIsi_e, eChain_e, sSeq_e, sRet_e, sExpr_e, sIf_e, putS_e, asg_v, asg_t, sSet_e, tgTup_e, tgCons_e, tgNil_e, tgName_e, sAsg_e, sFor_e, eIter_e, eEnum_e, eRng1_e, eRng2_e, eCallA_e, eCallK_e, frOf_k, ite_ap, mtc_out, isi_int, isi_bool, isi_tuple, isIntD, isBoolD, isTupD, gLen, truth, gEq_int, gNe_int, gLe_int, gLt_int, gSub_int, gAdd_int, sPar_e, gEq_str, abAtE_e, frB_k, eCallB_e, noExc_e, eDict1_e, gNeg_int, gPow_30, eLc_e, gTuple_l, gTuple_t, gList_l, gList_t, sPutAt_e, lsAt_e, gSl_t, finR, sRaise0_e, frOf_x, sTry_e, noX_k, isi_str, List.set, List.getElem?_cons_zero, List.getElem?_cons_succ, List.map_cons, List.map_nil, List.length_cons, List.length_nil, Option.bind_some, Bool.false_eq_true, if_false, if_true, reduceIte, Nat.reduceAdd, reduceCtorEq, decide_true, decide_false, Bool.not_true, Bool.not_false, e1, gi, d1, decide_true]
    · have e1 : ((i : Int) == (j : Int)) = false := by simpa using h1
      by_cases h2 : ((i : Int), (j : Int)) ∈ ps
      · rw [if_pos (Or.inr h2)]
        have e2 : decide (((i : Int), (j : Int)) ∈ ps) = true := decide_eq_true h2
        simp only [netD, unfit]
        simp only [bnd_e, ret_e, oops_e, lift_s, lift_n, opn_e, thaw_v, thaw_t, thaw_s, rsv_v, rsv_s, frz_v, frz_t, frz_s, kept_e, eVar_e, eBin_e, toB_b, eTest_e, bAnd_e, bOr_e, bNot_e, eTruth_e, vAnd_e, vOr_e, vNot_e, eIf_e, eTup_e, eLst_e, rsvs_n, rsvs_c, eBi_e, toPart_i, eSl_e, eUn_e, eIsi_e, eChain_e, sSeq_e, sRet_e, sExpr_e, sIf_e, putS_e, asg_v, asg_t, sSet_e, tgTup_e, tgCons_e, tgNil_e, tgName_e, sAsg_e, sFor_e, eIter_e, eEnum_e, eRng1_e, eRng2_e, eCallA_e, eCallK_e, frOf_k, ite_ap, mtc_out, isi_int, isi_bool, isi_tuple, isIntD, isBoolD, isTupD, gLen, truth, gEq_int, gNe_int, gLe_int, gLt_int, gSub_int, gAdd_int, sPar_e, gEq_str, abAtE_e, frB_k, eCallB_e, noExc_e, eDict1_e, gNeg_int, gPow_30, eLc_e, gTuple_l, gTuple_t, gList_l, gList_t, sPutAt_e, lsAt_e, gSl_t, finR, sRaise0_e, frOf_x, sTry_e, noX_k, isi_str, List.set, List.getElem?_cons_zero, List.getElem?_cons_succ, List.map_cons, List.map_nil, List.length_cons, List.length_nil, Option.bind_some, Bool.false_eq_true, if_false, if_true, reduceIte, Nat.reduceAdd, reduceCtorEq, decide_true, decide_false, Bool.not_true, Bool.not_false, e1, gi, e2, d1, decide_true]
      · rw [if_neg (fun z => z.elim h1 h2)]
        have e2 : decide (((i : Int), (j : Int)) ∈ ps) = false := decide_eq_false h2
        simp only [netD]
        simp only [bnd_e, ret_e, oops_e, lift_s, lift_n, opn_e, thaw_v, thaw_t, thaw_s, rsv_v, rsv_s, frz_v, frz_t, frz_s, kept_e, eVar_e, eBin_e, toB_b, eTest_e, bAnd_e, bOr_e, bNot_e, eTruth_e, vAnd_e, vOr_e, vNot_e, eIf_e, eTup_e, eLst_e, rsvs_n, rsvs_c, eBi_e, toPart_i, eSl_e, eUn_e, eIsi_e, eChain_e, sSeq_e, sRet_e, sExpr_e, sIf_e, putS_e, asg_v, asg_t, sSet_e, tgTup_e, tgCons_e, tgNil_e, tgName_e, sAsg_e, sFor_e, eIter_e, eEnum_e, eRng1_e, eRng2_e, eCallA_e, eCallK_e, frOf_k, ite_ap, mtc_out, isi_int, isi_bool, isi_tuple, isIntD, isBoolD, isTupD, gLen, truth, gEq_int, gNe_int, gLe_int, gLt_int, gSub_int, gAdd_int, sPar_e, gEq_str, abAtE_e, frB_k, eCallB_e, noExc_e, eDict1_e, gNeg_int, gPow_30, eLc_e, gTuple_l, gTuple_t, gList_l, gList_t, sPutAt_e, lsAt_e, gSl_t, finR, sRaise0_e, frOf_x, sTry_e, noX_k, isi_str, List.set, List.getElem?_cons_zero, List.getElem?_cons_succ, List.map_cons, List.map_nil, List.length_cons, List.length_nil, Option.bind_some, Bool.false_eq_true, if_false, if_true, reduceIte, Nat.reduceAdd, reduceCtorEq, decide_true, decide_false, Bool.not_true, Bool.not_false, e1, gi, e2, ga, gs, d1, decide_true]
  · have n1 : ¬ (("shut" : Str) = "wider") := by decide
    have n2 : ¬ (("shut" : Str) = "laid") := by decide
    rw [if_neg n1, if_neg n2]
    have d1 : decide (("shut" : Str) = "wider") = false := decide_eq_false n1
    have d2 : decide (("shut" : Str) = "laid") = false := decide_eq_false n2
    have lc := lc_map (vs := [7]) (s := tgName 7) (t := D__law_due_0) (f := C__law_due_1) (W := [some (.im (.str "shut")), some (.im (netD ts ps)), some (.im (.int (i : Nat))), some (.im (.int (j : Nat))), none, some (.im (.tuple (ts.map PyData.int))), some (.im (.tuple (ps.map prD))), none]) (enc := prD) (p := fun p => decide (p ≠ ((i : Int), (j : Int)))) (k := prD) ps [] (by simp; omega)
      (fun p _ => ⟨[some (.im (.str "shut")), some (.im (netD ts ps)), some (.im (.int (i : Nat))), some (.im (.int (j : Nat))), none, some (.im (.tuple (ts.map PyData.int))), some (.im (.tuple (ps.map prD))), some (.im (prD p))], _, rfl, by simp only [D__law_due_0, bnd_e, ret_e, oops_e, lift_s, lift_n, opn_e, thaw_v, thaw_t, thaw_s, rsv_v, rsv_s, frz_v, frz_t, frz_s, kept_e, eVar_e, eBin_e, toB_b, eTest_e, bAnd_e, bOr_e, bNot_e, eTruth_e, vAnd_e, vOr_e, vNot_e, eIf_e, eTup_e, eLst_e, rsvs_n, rsvs_c, eBi_e, toPart_i, eSl_e, eUn_e, eIsi_e, eChain_e, sSeq_e, sRet_e, sExpr_e, sIf_e, putS_e, asg_v, asg_t, sSet_e, tgTup_e, tgCons_e, tgNil_e, tgName_e, sAsg_e, sFor_e, eIter_e, eEnum_e, eRng1_e, eRng2_e, eCallA_e, eCallK_e, frOf_k, ite_ap, mtc_out, isi_int, isi_bool, isi_tuple, isIntD, isBoolD, isTupD, gLen, truth, gEq_int, gNe_int, gLe_int, gLt_int, gSub_int, gAdd_int, sPar_e, gEq_str, abAtE_e, frB_k, eCallB_e, noExc_e, eDict1_e, gNeg_int, gPow_30, eLc_e, gTuple_l, gTuple_t, gList_l, gList_t, sPutAt_e, lsAt_e, gSl_t, finR, sRaise0_e, frOf_x, sTry_e, noX_k, isi_str, List.set, List.getElem?_cons_zero, List.getElem?_cons_succ, List.map_cons, List.map_nil, List.length_cons, List.length_nil, Option.bind_some, Bool.false_eq_true, if_false, if_true, reduceIte, Nat.reduceAdd, reduceCtorEq, decide_true, decide_false, Bool.not_true, Bool.not_false, gNe_pr]; rfl, fun _ => ⟨_, by simp only [C__law_due_1, bnd_e, ret_e, oops_e, lift_s, lift_n, opn_e, thaw_v, thaw_t, thaw_s, rsv_v, rsv_s, frz_v, frz_t, frz_s, kept_e, eVar_e, eBin_e, toB_b, eTest_e, bAnd_e, bOr_e, bNot_e, eTruth_e, vAnd_e, vOr_e, vNot_e, eIf_e, eTup_e, eLst_e, rsvs_n, rsvs_c, eBi_e, toPart_i, eSl_e, eUn_e, eIsi_e, eChain_e, sSeq_e, sRet_e, sExpr_e, sIf_e, putS_e, asg_v, asg_t, sSet_e, tgTup_e, tgCons_e, tgNil_e, tgName_e, sAsg_e, sFor_e, eIter_e, eEnum_e, eRng1_e, eRng2_e, eCallA_e, eCallK_e, frOf_k, ite_ap, mtc_out, isi_int, isi_bool, isi_tuple, isIntD, isBoolD, isTupD, gLen, truth, gEq_int, gNe_int, gLe_int, gLt_int, gSub_int, gAdd_int, sPar_e, gEq_str, abAtE_e, frB_k, eCallB_e, noExc_e, eDict1_e, gNeg_int, gPow_30, eLc_e, gTuple_l, gTuple_t, gList_l, gList_t, sPutAt_e, lsAt_e, gSl_t, finR, sRaise0_e, frOf_x, sTry_e, noX_k, isi_str, List.set, List.getElem?_cons_zero, List.getElem?_cons_succ, List.map_cons, List.map_nil, List.length_cons, List.length_nil, Option.bind_some, Bool.false_eq_true, if_false, if_true, reduceIte, Nat.reduceAdd, reduceCtorEq, decide_true, decide_false, Bool.not_true, Bool.not_false]; rfl, rfl⟩, fun _ => rfl⟩)
    have lc' : goLc [7] (tgName 7) D__law_due_0 C__law_due_1 (ps.map prD) [] _ = .ok ((butL ps ((i : Int), (j : Int))).map prD) _ := lc
    have hL := butL_len (ps := ps) (q := ((i : Int), (j : Int)))
    generalize butL ps ((i : Int), (j : Int)) = ks at lc' hL ⊢
    by_cases h2 : ((i : Int), (j : Int)) ∈ ps
    · rw [if_pos h2]
      have e2 : (((ks.length : Nat) : Int) == ((ps.length : Nat) : Int)) = false := by
        have : ¬ ks.length = ps.length := fun z => hL.mp z h2
        simp only [beq_eq_false_iff_ne, ne_eq]
        omega
      simp only [netD] at lc' ⊢
      simp only [bnd_e, ret_e, oops_e, lift_s, lift_n, opn_e, thaw_v, thaw_t, thaw_s, rsv_v, rsv_s, frz_v, frz_t, frz_s, kept_e, eVar_e, eBin_e, toB_b, eTest_e, bAnd_e, bOr_e, bNot_e, eTruth_e, vAnd_e, vOr_e, vNot_e, eIf_e, eTup_e, eLst_e, rsvs_n, rsvs_c, eBi_e, toPart_i, eSl_e, eUn_e, eIsi_e, eChain_e, sSeq_e, sRet_e, sExpr_e, sIf_e, putS_e, asg_v, asg_t, sSet_e, tgTup_e, tgCons_e, tgNil_e, tgName_e, sAsg_e, sFor_e, eIter_e, eEnum_e, eRng1_e, eRng2_e, eCallA_e, eCallK_e, frOf_k, ite_ap, mtc_out, isi_int, isi_bool, isi_tuple, isIntD, isBoolD, isTupD, gLen, truth, gEq_int, gNe_int, gLe_int, gLt_int, gSub_int, gAdd_int, sPar_e, gEq_str, abAtE_e, frB_k, eCallB_e, noExc_e, eDict1_e, gNeg_int, gPow_30, eLc_e, gTuple_l, gTuple_t, gList_l, gList_t, sPutAt_e, lsAt_e, gSl_t, finR, sRaise0_e, frOf_x, sTry_e, noX_k, isi_str, List.set, List.getElem?_cons_zero, List.getElem?_cons_succ, List.map_cons, List.map_nil, List.length_cons, List.length_nil, Option.bind_some, Bool.false_eq_true, if_false, if_true, reduceIte, Nat.reduceAdd, reduceCtorEq, decide_true, decide_false, Bool.not_true, Bool.not_false, itemsOf, wipeE, lc', rst, imOnly, d1, d2, List.length_map, e2]
    · rw [if_neg h2]
      have e2 : (((ks.length : Nat) : Int) == ((ps.length : Nat) : Int)) = true := by
        have := hL.mpr h2
        simp only [beq_iff_eq]
        omega
      simp only [netD, unfit] at lc' ⊢
      simp only [bnd_e, ret_e, oops_e, lift_s, lift_n, opn_e, thaw_v, thaw_t, thaw_s, rsv_v, rsv_s, frz_v, frz_t, frz_s, kept_e, eVar_e, eBin_e, toB_b, eTest_e, bAnd_e, bOr_e, bNot_e, eTruth_e, vAnd_e, vOr_e, vNot_e, eIf_e, eTup_e, eLst_e, rsvs_n, rsvs_c, eBi_e, toPart_i, eSl_e, eUn_e, eIsi_e, eChain_e, sSeq_e, sRet_e, sExpr_e, sIf_e, putS_e, asg_v, asg_t, sSet_e, tgTup_e, tgCons_e, tgNil_e, tgName_e, sAsg_e, sFor_e, eIter_e, eEnum_e, eRng1_e, eRng2_e, eCallA_e, eCallK_e, frOf_k, ite_ap, mtc_out, isi_int, isi_bool, isi_tuple, isIntD, isBoolD, isTupD, gLen, truth, gEq_int, gNe_int, gLe_int, gLt_int, gSub_int, gAdd_int, sPar_e, gEq_str, abAtE_e, frB_k, eCallB_e, noExc_e, eDict1_e, gNeg_int, gPow_30, eLc_e, gTuple_l, gTuple_t, gList_l, gList_t, sPutAt_e, lsAt_e, gSl_t, finR, sRaise0_e, frOf_x, sTry_e, noX_k, isi_str, List.set, List.getElem?_cons_zero, List.getElem?_cons_succ, List.map_cons, List.map_nil, List.length_cons, List.length_nil, Option.bind_some, Bool.false_eq_true, if_false, if_true, reduceIte, Nat.reduceAdd, reduceCtorEq, decide_true, decide_false, Bool.not_true, Bool.not_false, itemsOf, wipeE, lc', rst, imOnly, d1, d2, List.length_map, e2]

end Pu.L

namespace Pu.L
open PySem PySem.Spec PyProof.Rows L2 Pu
theorem int1_k {n : Nat} (h : n ≤ 1000) : int1 [.int (n : Nat)] = some (n : Int) := int1_n h
theorem map_two1 (ps : List (Int × Int)) : (ps.filter (fun _ => true)).map (fun p => PyData.tuple [.int p.2, .int p.1]) = (ps.map swp).map prD := map_swp ps
theorem gNe_str {a b : Str} : gEq true (.str a) (.str b) = some (.val (.bool (!decide (a = b)))) := by simp only [gEq, strPair, if_true]
theorem same_str {a : Str} : (!decide (a = a)) = false := by simp
theorem sm_two {xs ys : List Int} (h1 : ∀ x ∈ xs, x.natAbs < 10 ^ 40) (h2 : ∀ x ∈ ys, x.natAbs < 10 ^ 40) (l1 : xs.length ≤ 200) (l2 : ys.length ≤ 200) : canShow (.list [.tuple (xs.map PyData.int), .tuple (ys.map PyData.int)]) = true := by
  refine (sm_lst (n := 200) (k := 1) (m := 2) (ds := [.tuple (xs.map PyData.int), .tuple (ys.map PyData.int)]) (fun d hd => ?_) (Nat.le_refl 2)).can
  simp only [List.mem_cons, List.not_mem_nil, or_false] at hd
  rcases hd with rfl | rfl
  · exact (sm_ints h1 l1).mono
  · exact (sm_ints h2 l2).mono
theorem NetOk.swp {ts : List Int} {ps : List (Int × Int)} (h : NetOk ts ps) : NetOk ts (sortP (ps.map swp)) := by
  have hp := sortP_perm (ps.map Pu.L.swp)
  have hn : (ps.map Pu.L.swp).Nodup := by
    unfold List.Nodup
    rw [List.pairwise_map]
    refine h.nodup.imp ?_
    rintro ⟨a, b⟩ ⟨c, d⟩ hne e
    simp only [Pu.L.swp, Prod.mk.injEq] at e
    exact hne (by rw [e.1, e.2])
  refine ⟨h.l1, h.l2, h.tr, fun p hq => ?_, lt_of_le_nd (sortP_le _) (hp.nodup_iff.mpr hn), by rw [sortP_len, List.length_map]; exact h.le⟩
  obtain ⟨q, hq', rfl⟩ := List.mem_map.mp (hp.mem_iff.mp hq)
  have := h.ln q hq'
  simp only [Pu.L.swp]
  omega
theorem out_sm {ts : List Int} {ps : List (Int × Int)} (h : NetOk ts ps) (s : Int) : (∀ x ∈ outOf ps s, x.natAbs < 10 ^ 40) ∧ (outOf ps s).length ≤ 200 := by
  unfold outOf
  constructor
  · intro x hx
    obtain ⟨p, hp, rfl⟩ := List.mem_map.mp hx
    have hp := (List.mem_filter.mp hp).1
    obtain ⟨z1, z2, z3, z4, _⟩ := h.ln p hp
    have := h.l2
    exact abs_lt z3 z4 (by omega)
  · rw [List.length_map]
    exact Nat.le_trans (List.length_filter_le _ _) h.le
theorem into_sm {ts : List Int} {ps : List (Int × Int)} (h : NetOk ts ps) (s : Int) : (∀ x ∈ intoOf ps s, x.natAbs < 10 ^ 40) ∧ (intoOf ps s).length ≤ 200 := by
  unfold intoOf
  constructor
  · intro x hx
    obtain ⟨p, hp, rfl⟩ := List.mem_map.mp hx
    have hp := (List.mem_filter.mp hp).1
    obtain ⟨z1, z2, z3, z4, _⟩ := h.ln p hp
    have := h.l2
    exact abs_lt z1 z2 (by omega)
  · rw [List.length_map]
    exact Nat.le_trans (List.length_filter_le _ _) h.le
/-! the law's rows -/
abbrev RW2 (N B : SV) (x2 : Option SV) (T L : SV) (x5 x6 x7 : Option SV) : PEnv := [some N, some B, x2, some T, some L, x5, x6, x7]
theorem lc_out (N B T : SV) (ps : List (Int × Int)) (s : Int) (x5 x6 : Option SV) (h : ps.length ≤ 100000) : goLc [7] (tgName 7) D__law_rows_hold_2 C__law_rows_hold_3 (ps.map prD) [] (RW2 N B (some (.im (.int s))) T (.im (.tuple (ps.map prD))) x5 x6 none) = .ok ((outOf ps s).map PyData.int) (RW2 N B (some (.im (.int s))) T (.im (.tuple (ps.map prD))) x5 x6 none) := by
  have lc := lc_map (vs := [7]) (s := tgName 7) (t := D__law_rows_hold_2) (f := C__law_rows_hold_3) (W := RW2 N B (some (.im (.int s))) T (.im (.tuple (ps.map prD))) x5 x6 none) (enc := prD) (p := fun p => decide (p.1 = s)) (k := fun p => .int p.2) ps [] (by simp; omega)
    (fun p _ => ⟨RW2 N B (some (.im (.int s))) T (.im (.tuple (ps.map prD))) x5 x6 (some (.im (prD p))), _, rfl, by simp only [D__law_rows_hold_2, bnd_e, ret_e, oops_e, lift_s, lift_n, opn_e, thaw_v, thaw_t, thaw_s, rsv_v, rsv_s, frz_v, frz_t, frz_s, kept_e, eVar_e, eBin_e, toB_b, eTest_e, bAnd_e, bOr_e, bNot_e, eTruth_e, vAnd_e, vOr_e, vNot_e, eIf_e, eTup_e, eLst_e, rsvs_n, rsvs_c, eBi_e, toPart_i, eSl_e, eUn_e, eIsi_e, eChain_e, sSeq_e, sRet_e, sExpr_e, sIf_e, putS_e, asg_v, asg_t, sSet_e, tgTup_e, tgCons_e, tgNil_e, tgName_e, sAsg_e, sFor_e, eIter_e, eEnum_e, eRng1_e, eRng2_e, eCallA_e, eCallK_e, frOf_k, ite_ap, mtc_out, isi_int, isi_bool, isi_tuple, isIntD, isBoolD, isTupD, gLen, truth, gEq_int, gNe_int, gLe_int, gLt_int, gSub_int, gAdd_int, sPar_e, gEq_str, abAtE_e, frB_k, eCallB_e, noExc_e, eDict1_e, gNeg_int, gPow_30, eLc_e, gTuple_l, gTuple_t, gList_l, gList_t, sPutAt_e, lsAt_e, gSl_t, finR, sRaise0_e, frOf_x, sTry_e, noX_k, isi_str, List.set, List.getElem?_cons_zero, List.getElem?_cons_succ, List.map_cons, List.map_nil, List.length_cons, List.length_nil, Option.bind_some, Bool.false_eq_true, if_false, if_true, reduceIte, Nat.reduceAdd, reduceCtorEq, decide_true, decide_false, Bool.not_true, Bool.not_false, prD, gIx_t0, int_beq]; rfl, fun _ => ⟨_, by simp only [C__law_rows_hold_3, bnd_e, ret_e, oops_e, lift_s, lift_n, opn_e, thaw_v, thaw_t, thaw_s, rsv_v, rsv_s, frz_v, frz_t, frz_s, kept_e, eVar_e, eBin_e, toB_b, eTest_e, bAnd_e, bOr_e, bNot_e, eTruth_e, vAnd_e, vOr_e, vNot_e, eIf_e, eTup_e, eLst_e, rsvs_n, rsvs_c, eBi_e, toPart_i, eSl_e, eUn_e, eIsi_e, eChain_e, sSeq_e, sRet_e, sExpr_e, sIf_e, putS_e, asg_v, asg_t, sSet_e, tgTup_e, tgCons_e, tgNil_e, tgName_e, sAsg_e, sFor_e, eIter_e, eEnum_e, eRng1_e, eRng2_e, eCallA_e, eCallK_e, frOf_k, ite_ap, mtc_out, isi_int, isi_bool, isi_tuple, isIntD, isBoolD, isTupD, gLen, truth, gEq_int, gNe_int, gLe_int, gLt_int, gSub_int, gAdd_int, sPar_e, gEq_str, abAtE_e, frB_k, eCallB_e, noExc_e, eDict1_e, gNeg_int, gPow_30, eLc_e, gTuple_l, gTuple_t, gList_l, gList_t, sPutAt_e, lsAt_e, gSl_t, finR, sRaise0_e, frOf_x, sTry_e, noX_k, isi_str, List.set, List.getElem?_cons_zero, List.getElem?_cons_succ, List.map_cons, List.map_nil, List.length_cons, List.length_nil, Option.bind_some, Bool.false_eq_true, if_false, if_true, reduceIte, Nat.reduceAdd, reduceCtorEq, decide_true, decide_false, Bool.not_true, Bool.not_false, prD, gIx_t1]; rfl, rfl⟩, fun _ => rfl⟩)
  rw [map_out] at lc
  exact lc
theorem lc_into (N B T : SV) (ps : List (Int × Int)) (s : Int) (x5 x6 : Option SV) (h : ps.length ≤ 100000) : goLc [7] (tgName 7) D__law_rows_hold_0 C__law_rows_hold_1 (ps.map prD) [] (RW2 N B (some (.im (.int s))) T (.im (.tuple (ps.map prD))) x5 x6 none) = .ok ((intoOf ps s).map PyData.int) (RW2 N B (some (.im (.int s))) T (.im (.tuple (ps.map prD))) x5 x6 none) := by
  have lc := lc_map (vs := [7]) (s := tgName 7) (t := D__law_rows_hold_0) (f := C__law_rows_hold_1) (W := RW2 N B (some (.im (.int s))) T (.im (.tuple (ps.map prD))) x5 x6 none) (enc := prD) (p := fun p => decide (p.2 = s)) (k := fun p => .int p.1) ps [] (by simp; omega)
    (fun p _ => ⟨RW2 N B (some (.im (.int s))) T (.im (.tuple (ps.map prD))) x5 x6 (some (.im (prD p))), _, rfl, by simp only [D__law_rows_hold_0, bnd_e, ret_e, oops_e, lift_s, lift_n, opn_e, thaw_v, thaw_t, thaw_s, rsv_v, rsv_s, frz_v, frz_t, frz_s, kept_e, eVar_e, eBin_e, toB_b, eTest_e, bAnd_e, bOr_e, bNot_e, eTruth_e, vAnd_e, vOr_e, vNot_e, eIf_e, eTup_e, eLst_e, rsvs_n, rsvs_c, eBi_e, toPart_i, eSl_e, eUn_e, eIsi_e, eChain_e, sSeq_e, sRet_e, sExpr_e, sIf_e, putS_e, asg_v, asg_t, sSet_e, tgTup_e, tgCons_e, tgNil_e, tgName_e, sAsg_e, sFor_e, eIter_e, eEnum_e, eRng1_e, eRng2_e, eCallA_e, eCallK_e, frOf_k, ite_ap, mtc_out, isi_int, isi_bool, isi_tuple, isIntD, isBoolD, isTupD, gLen, truth, gEq_int, gNe_int, gLe_int, gLt_int, gSub_int, gAdd_int, sPar_e, gEq_str, abAtE_e, frB_k, eCallB_e, noExc_e, eDict1_e, gNeg_int, gPow_30, eLc_e, gTuple_l, gTuple_t, gList_l, gList_t, sPutAt_e, lsAt_e, gSl_t, finR, sRaise0_e, frOf_x, sTry_e, noX_k, isi_str, List.set, List.getElem?_cons_zero, List.getElem?_cons_succ, List.map_cons, List.map_nil, List.length_cons, List.length_nil, Option.bind_some, Bool.false_eq_true, if_false, if_true, reduceIte, Nat.reduceAdd, reduceCtorEq, decide_true, decide_false, Bool.not_true, Bool.not_false, prD, gIx_t1, int_beq]; rfl, fun _ => ⟨_, by simp only [C__law_rows_hold_1, bnd_e, ret_e, oops_e, lift_s, lift_n, opn_e, thaw_v, thaw_t, thaw_s, rsv_v, rsv_s, frz_v, frz_t, frz_s, kept_e, eVar_e, eBin_e, toB_b, eTest_e, bAnd_e, bOr_e, bNot_e, eTruth_e, vAnd_e, vOr_e, vNot_e, eIf_e, eTup_e, eLst_e, rsvs_n, rsvs_c, eBi_e, toPart_i, eSl_e, eUn_e, eIsi_e, eChain_e, sSeq_e, sRet_e, sExpr_e, sIf_e, putS_e, asg_v, asg_t, sSet_e, tgTup_e, tgCons_e, tgNil_e, tgName_e, sAsg_e, sFor_e, eIter_e, eEnum_e, eRng1_e, eRng2_e, eCallA_e, eCallK_e, frOf_k, ite_ap, mtc_out, isi_int, isi_bool, isi_tuple, isIntD, isBoolD, isTupD, gLen, truth, gEq_int, gNe_int, gLe_int, gLt_int, gSub_int, gAdd_int, sPar_e, gEq_str, abAtE_e, frB_k, eCallB_e, noExc_e, eDict1_e, gNeg_int, gPow_30, eLc_e, gTuple_l, gTuple_t, gList_l, gList_t, sPutAt_e, lsAt_e, gSl_t, finR, sRaise0_e, frOf_x, sTry_e, noX_k, isi_str, List.set, List.getElem?_cons_zero, List.getElem?_cons_succ, List.map_cons, List.map_nil, List.length_cons, List.length_nil, Option.bind_some, Bool.false_eq_true, if_false, if_true, reduceIte, Nat.reduceAdd, reduceCtorEq, decide_true, decide_false, Bool.not_true, Bool.not_false, prD, gIx_t0]; rfl, rfl⟩, fun _ => rfl⟩)
  rw [map_into] at lc
  exact lc
theorem rows_turn (ts : List Int) (ps : List (Int × Int)) (h : NetOk ts ps) (s : Int) (x2 x5 x6 : Option SV) :
    ∃ x2' x5' x6', B__law_rows_hold_4 (RW2 (.im (netD ts ps)) (.im (netD ts (sortP (ps.map swp)))) (some (.im (.int s))) (.im (.tuple (ts.map PyData.int))) (.im (.tuple (ps.map prD))) x5 x6 none) =
      .ok .next (RW2 (.im (netD ts ps)) (.im (netD ts (sortP (ps.map swp)))) x2' (.im (.tuple (ts.map PyData.int))) (.im (.tuple (ps.map prD))) x5' x6' none) := by
  have hl := h.le
  have l1 := lc_out (.im (netD ts ps)) (.im (netD ts (sortP (ps.map swp)))) (.im (.tuple (ts.map PyData.int))) ps s x5 x6 (by omega)
  have n1 := F_nexts_ok ts ps s (by omega)
  have b1 := F_befores_ok ts ps s (by omega)
  have n2 := F_nexts_ok ts (sortP (ps.map swp)) s (by rw [sortP_len, List.length_map]; omega)
  have b2 := F_befores_ok ts (sortP (ps.map swp)) s (by rw [sortP_len, List.length_map]; omega)
  rw [out_back h.sle] at n2
  rw [into_back h.sle] at b2
  obtain ⟨o1, o2⟩ := out_sm h s
  obtain ⟨i1, i2⟩ := into_sm h s
  have c1 := gRepr_1 (sm_two o1 i1 o2 i2)
  have c2 := gRepr_1 (sm_two i1 o1 i2 o2)
  have l2 := fun x5 => lc_into (.im (netD ts ps)) (.im (netD ts (sortP (ps.map swp)))) (.im (.tuple (ts.map PyData.int))) ps s x5 x6 (by omega)
  refine ⟨some (.im (.int s)), some (.im (.tuple ((outOf ps s).map PyData.int))), some (.im (.tuple ((intoOf ps s).map PyData.int))), ?_⟩
  generalize (outOf ps s).map PyData.int = O at *
  generalize (intoOf ps s).map PyData.int = I at *
  generalize netD ts (sortP (ps.map swp)) = BK at *
  generalize netD ts ps = NT at *
  generalize ts.map PyData.int = TT at *
  generalize ps.map prD = PP at *
  unfold B__law_rows_hold_4
  simp only [RW2] at l1 l2 ⊢
  simp only [bnd_e, ret_e, oops_e, lift_s, lift_n, opn_e, thaw_v, thaw_t, thaw_s, rsv_v, rsv_s, frz_v, frz_t, frz_s, kept_e, eVar_e, eBin_e, toB_b, eTest_e, bAnd_e, bOr_e, bNot_e, eTruth_e, vAnd_e, vOr_e, vNot_e, eIf_e, eTup_e, eLst_e, rsvs_n, rsvs_c, eBi_e, toPart_i, eSl_e, eUn_e, eIsi_e, eChain_e, sSeq_e, sRet_e, sExpr_e, sIf_e, putS_e, asg_v, asg_t, sSet_e, tgTup_e, tgCons_e, tgNil_e, tgName_e, sAsg_e, sFor_e, eIter_e, eEnum_e, eRng1_e, eRng2_e, eCallA_e, eCallK_e, frOf_k, ite_ap, mtc_out, isi_int, isi_bool, isi_tuple, isIntD, isBoolD, isTupD, gLen, truth, gEq_int, gNe_int, gLe_int, gLt_int, gSub_int, gAdd_int, sPar_e, gEq_str, abAtE_e, frB_k, eCallB_e, noExc_e, eDict1_e, gNeg_int, gPow_30, eLc_e, gTuple_l, gTuple_t, gList_l, gList_t, sPutAt_e, lsAt_e, gSl_t, finR, sRaise0_e, frOf_x, sTry_e, noX_k, isi_str, List.set, List.getElem?_cons_zero, List.getElem?_cons_succ, List.map_cons, List.map_nil, List.length_cons, List.length_nil, Option.bind_some, Bool.false_eq_true, if_false, if_true, reduceIte, Nat.reduceAdd, reduceCtorEq, decide_true, decide_false, Bool.not_true, Bool.not_false, itemsOf, wipeE, l1, l2, rst, imOnly, n1, b1, n2, b2, c1, c2, gNe_str, same_str]
theorem rows_loop (ts : List Int) (ps : List (Int × Int)) (h : NetOk ts ps) : ∀ (k : Nat) (lo : Int) (x2 x5 x6 : Option SV), ∃ x2' x5' x6', goFor (tgName 2) B__law_rows_hold_4 (rangeD lo k) (RW2 (.im (netD ts ps)) (.im (netD ts (sortP (ps.map swp)))) x2 (.im (.tuple (ts.map PyData.int))) (.im (.tuple (ps.map prD))) x5 x6 none) =
      .ok .next (RW2 (.im (netD ts ps)) (.im (netD ts (sortP (ps.map swp)))) x2' (.im (.tuple (ts.map PyData.int))) (.im (.tuple (ps.map prD))) x5' x6' none)
  | 0, lo, x2, x5, x6 => ⟨x2, x5, x6, rfl⟩
  | k + 1, lo, x2, x5, x6 => by
    obtain ⟨a, b, c, e⟩ := rows_turn ts ps h lo x2 x5 x6
    obtain ⟨a', b', c', e'⟩ := rows_loop ts ps h k (lo + 1) a b c
    refine ⟨a', b', c', ?_⟩
    rw [rangeD_succ]
    unfold goFor
    simp only [RW2] at e e' ⊢
    simp only [bnd_e, ret_e, oops_e, lift_s, lift_n, opn_e, thaw_v, thaw_t, thaw_s, rsv_v, rsv_s, frz_v, frz_t, frz_s, kept_e, eVar_e, eBin_e, toB_b, eTest_e, bAnd_e, bOr_e, bNot_e, eTruth_e, vAnd_e, vOr_e, vNot_e, eIf_e, eTup_e, eLst_e, rsvs_n, rsvs_c, eBi_e, toPart_i, eSl_e, eUn_e, eIsi_e, eChain_e, sSeq_e, sRet_e, sExpr_e, sIf_e, putS_e, asg_v, asg_t, sSet_e, tgTup_e, tgCons_e, tgNil_e, tgName_e, sAsg_e, sFor_e, eIter_e, eEnum_e, eRng1_e, eRng2_e, eCallA_e, eCallK_e, frOf_k, ite_ap, mtc_out, isi_int, isi_bool, isi_tuple, isIntD, isBoolD, isTupD, gLen, truth, gEq_int, gNe_int, gLe_int, gLt_int, gSub_int, gAdd_int, sPar_e, gEq_str, abAtE_e, frB_k, eCallB_e, noExc_e, eDict1_e, gNeg_int, gPow_30, eLc_e, gTuple_l, gTuple_t, gList_l, gList_t, sPutAt_e, lsAt_e, gSl_t, finR, sRaise0_e, frOf_x, sTry_e, noX_k, isi_str, List.set, List.getElem?_cons_zero, List.getElem?_cons_succ, List.map_cons, List.map_nil, List.length_cons, List.length_nil, Option.bind_some, Bool.false_eq_true, if_false, if_true, reduceIte, Nat.reduceAdd, reduceCtorEq, decide_true, decide_false, Bool.not_true, Bool.not_false, e, e']
theorem F_rows_ok (ts : List Int) (ps : List (Int × Int)) (h : NetOk ts ps) : F__law_rows_hold [netD ts ps] = .ok (.val (.bool true)) := by
  have hl := h.le
  have he : envOf 8 ([netD ts ps].map SV.im) = [some (.im (netD ts ps)), none, none, none, none, none, none, none] := rfl
  have lc := lc_map (vs := [7]) (s := tgName 7) (t := ret true) (f := C__law_rows_hold_5) (W := [some (.im (netD ts ps)), none, none, some (.im (.tuple (ts.map PyData.int))), some (.im (.tuple (ps.map prD))), none, none, none]) (enc := prD) (p := fun _ => true) (k := fun p => PyData.tuple [.int p.2, .int p.1]) ps [] (by simp; omega)
    (fun p _ => ⟨[some (.im (netD ts ps)), none, none, some (.im (.tuple (ts.map PyData.int))), some (.im (.tuple (ps.map prD))), none, none, some (.im (prD p))], _, rfl, rfl, fun _ => ⟨_, by simp only [C__law_rows_hold_5, bnd_e, ret_e, oops_e, lift_s, lift_n, opn_e, thaw_v, thaw_t, thaw_s, rsv_v, rsv_s, frz_v, frz_t, frz_s, kept_e, eVar_e, eBin_e, toB_b, eTest_e, bAnd_e, bOr_e, bNot_e, eTruth_e, vAnd_e, vOr_e, vNot_e, eIf_e, eTup_e, eLst_e, rsvs_n, rsvs_c, eBi_e, toPart_i, eSl_e, eUn_e, eIsi_e, eChain_e, sSeq_e, sRet_e, sExpr_e, sIf_e, putS_e, asg_v, asg_t, sSet_e, tgTup_e, tgCons_e, tgNil_e, tgName_e, sAsg_e, sFor_e, eIter_e, eEnum_e, eRng1_e, eRng2_e, eCallA_e, eCallK_e, frOf_k, ite_ap, mtc_out, isi_int, isi_bool, isi_tuple, isIntD, isBoolD, isTupD, gLen, truth, gEq_int, gNe_int, gLe_int, gLt_int, gSub_int, gAdd_int, sPar_e, gEq_str, abAtE_e, frB_k, eCallB_e, noExc_e, eDict1_e, gNeg_int, gPow_30, eLc_e, gTuple_l, gTuple_t, gList_l, gList_t, sPutAt_e, lsAt_e, gSl_t, finR, sRaise0_e, frOf_x, sTry_e, noX_k, isi_str, List.set, List.getElem?_cons_zero, List.getElem?_cons_succ, List.map_cons, List.map_nil, List.length_cons, List.length_nil, Option.bind_some, Bool.false_eq_true, if_false, if_true, reduceIte, Nat.reduceAdd, reduceCtorEq, decide_true, decide_false, Bool.not_true, Bool.not_false, prD, gIx_t0, gIx_t1]; rfl, rfl⟩, fun _ => rfl⟩)
  rw [map_swp] at lc
  have gs := gSorted_prs (ps := ps.map swp) (by rw [List.length_map]; omega)
  have t1 := F_turned_ok ts ps (by omega)
  have t2 := F_turned_ok ts (sortP (ps.map swp)) (by rw [sortP_len, List.length_map]; omega)
  rw [back_back h.sle] at t2
  have r1 := gRepr_1 h.can
  have r2 := gRepr_1 h.swp.can
  obtain ⟨a', b', c', lp⟩ := rows_loop ts ps h ts.length 0 none none none
  have ir := int1_k (n := ts.length) (by have := h.l2; omega)
  unfold F__law_rows_hold runA g__law_rows_hold
  rw [he]
  generalize sortP (ps.map swp) = qs at *
  generalize ps.map swp = q0 at *
  simp only [netD, RW2, List.nil_append] at lc t1 t2 r1 r2 lp ⊢
  simp only [bnd_e, ret_e, oops_e, lift_s, lift_n, opn_e, thaw_v, thaw_t, thaw_s, rsv_v, rsv_s, frz_v, frz_t, frz_s, kept_e, eVar_e, eBin_e, toB_b, eTest_e, bAnd_e, bOr_e, bNot_e, eTruth_e, vAnd_e, vOr_e, vNot_e, eIf_e, eTup_e, eLst_e, rsvs_n, rsvs_c, eBi_e, toPart_i, eSl_e, eUn_e, eIsi_e, eChain_e, sSeq_e, sRet_e, sExpr_e, sIf_e, putS_e, asg_v, asg_t, sSet_e, tgTup_e, tgCons_e, tgNil_e, tgName_e, sAsg_e, sFor_e, eIter_e, eEnum_e, eRng1_e, eRng2_e, eCallA_e, eCallK_e, frOf_k, ite_ap, mtc_out, isi_int, isi_bool, isi_tuple, isIntD, isBoolD, isTupD, gLen, truth, gEq_int, gNe_int, gLe_int, gLt_int, gSub_int, gAdd_int, sPar_e, gEq_str, abAtE_e, frB_k, eCallB_e, noExc_e, eDict1_e, gNeg_int, gPow_30, eLc_e, gTuple_l, gTuple_t, gList_l, gList_t, sPutAt_e, lsAt_e, gSl_t, finR, sRaise0_e, frOf_x, sTry_e, noX_k, isi_str, List.set, List.getElem?_cons_zero, List.getElem?_cons_succ, List.map_cons, List.map_nil, List.length_cons, List.length_nil, Option.bind_some, Bool.false_eq_true, if_false, if_true, reduceIte, Nat.reduceAdd, reduceCtorEq, decide_true, decide_false, Bool.not_true, Bool.not_false, itemsOf, wipeE, lc, rst, imOnly, gs, t1, t2, r1, r2, gNe_str, same_str, List.length_map, ir, Int.toNat_natCast, lp]

end Pu.L

namespace Pu.L
open PySem PySem.Spec PyProof.Rows L2 Pu
theorem lay_net {ts : List Int} {ps : List (Int × Int)} : (netD ts ps).canLay0 = true := by
  have h : ∀ ts : List Int, PyData.canLayAll0 (ts.map PyData.int) = true := fun ts => by
    induction ts with
    | nil => simp [PyData.canLayAll0]
    | cons t ts ih =>
      rw [List.map_cons]
      simp [PyData.canLayAll0, PyData.canLay0, ih]
  unfold netD
  simp [PyData.canLay0, PyData.canLayAll0, h ts, layAll_prs]
theorem gEq_net {ts : List Int} {ps : List (Int × Int)} {w : Str} (hk : PyData.strOk w = true) (h : NetOk ts ps) : gEq false (netD ts ps) (.str w) = some (.val (.bool false)) := by
  have s1 : SeqAt.shaped (netD ts ps) = true := by
    unfold SeqAt.shaped
    rw [lay_net]
    simp only [Bool.true_and, decide_eq_true_eq]
    have := h.sm.dp
    omega
  have s2 : SeqAt.shaped (.str w) = true := by
    unfold SeqAt.shaped
    simp [PyData.canLay0, PyData.depth, hk]
  have e : strPair (netD ts ps) (.str w) = none := rfl
  have e2 : PyData.eqv (netD ts ps) (.str w) = false := by
    unfold netD
    simp [PyData.eqv]
  unfold gEq
  rw [e]
  simp only [s1, s2, and_self, if_true, e2, Bool.false_eq_true, if_false]
theorem can_unfit : canShow unfit = true := by decide +kernel
/-- what is due is a right net, or the word -/
inductive Due (w : Str) (ts : List Int) (ps : List (Int × Int)) (i j : Nat) : Prop where
  | no (h : dueOf w ts ps i j = unfit)
  | yes (ts' : List Int) (ps' : List (Int × Int)) (h : dueOf w ts ps i j = netD ts' ps') (ok : NetOk ts' ps') (back : w ≠ "wider" → dueOf (if w = "laid" then "shut" else "laid") ts' ps' i j = netD ts ps) (hl : ts'.length = ts.length)
theorem due_ok (w : Str) (hw : w = "wider" ∨ w = "laid" ∨ w = "shut") {ts : List Int} {ps : List (Int × Int)} (h : NetOk ts ps) (i j : Nat) (hi : i < ts.length) (hj : j < ts.length) (hl : ps.length < 200) : Due w ts ps i j := by
  rcases hw with rfl | rfl | rfl
  · by_cases h4 : ts.getD i 0 = 4
    · exact .no (by unfold dueOf; rw [if_pos rfl, if_pos h4])
    · exact .yes (wid ts i) ps (by unfold dueOf; rw [if_pos rfl, if_neg h4]) (h.wide hi h4) (fun z => absurd rfl z) (wid_len hi)
  · have n1 : ¬ (("laid" : Str) = "wider") := by decide
    by_cases h4 : (i : Int) = j ∨ ((i : Int), (j : Int)) ∈ ps
    · exact .no (by unfold dueOf; rw [if_neg n1, if_pos rfl, if_pos h4])
    · have h5 : ((i : Int), (j : Int)) ∉ ps := fun z => h4 (.inr z)
      refine .yes ts (sortP (ps ++ [((i : Int), (j : Int))])) (by unfold dueOf; rw [if_neg n1, if_pos rfl, if_neg h4]) (h.lay hi hj (fun z => h4 (.inl z)) h5 hl) (fun _ => ?_) rfl
      rw [if_pos rfl]
      unfold dueOf
      have n2 : ¬ (("shut" : Str) = "wider") := by decide
      have n3 : ¬ (("shut" : Str) = "laid") := by decide
      rw [if_neg n2, if_neg n3, if_pos ((sortP_perm _).mem_iff.mpr (by simp)), lay_cut h h5]
  · have n2 : ¬ (("shut" : Str) = "wider") := by decide
    have n3 : ¬ (("shut" : Str) = "laid") := by decide
    by_cases h4 : ((i : Int), (j : Int)) ∈ ps
    · refine .yes ts (butL ps ((i : Int), (j : Int))) (by unfold dueOf; rw [if_neg n2, if_neg n3, if_pos h4]) (h.cut _) (fun _ => ?_) rfl
      rw [if_neg n3]
      unfold dueOf
      have n1 : ¬ (("laid" : Str) = "wider") := by decide
      have h6 := (h.ln _ h4).2.2.2.2
      rw [if_neg n1, if_pos rfl, if_neg (fun z => z.elim h6 cut_not), cut_lay h h4]
    · exact .no (by unfold dueOf; rw [if_neg n2, if_neg n3, if_neg h4])
theorem F_done_ok (w : Str) (hw : w = "wider" ∨ w = "laid" ∨ w = "shut") {ts : List Int} {ps : List (Int × Int)} (h : NetOk ts ps) (i j : Nat) (hi : i < ts.length) (hj : j < ts.length) (hl : ps.length < 200) :
    F__law_is_done [.str w, netD ts ps, .int (i : Nat), .int (j : Nat)] = .ok (.val (.bool true)) := by
  have f1 := F_due_ok w hw ts ps i j hi (by have := h.l2; omega) (by omega)
  have f2 := F_deed_ok w hw ts ps i j hi (by have := h.l2; omega) (by omega)
  have he : envOf 7 ([PyData.str w, netD ts ps, PyData.int (i : Nat), PyData.int (j : Nat)].map SV.im) = [some (.im (.str w)), some (.im (netD ts ps)), some (.im (.int (i : Nat))), some (.im (.int (j : Nat))), none, none, none] := rfl
  have r0 := gRepr_1 h.can
  unfold F__law_is_done runA g__law_is_done
  rw [he]
  rcases due_ok w hw h i j hi hj hl with e | ⟨ts', ps', e, ok, back, hlen⟩
  · rw [e] at f1 f2
    have r1 := gRepr_1 can_unfit
    have q1 : gEq false unfit (.str "unfit") = some (.val (.bool true)) := rfl
    generalize unfit = U at *
    generalize netD ts ps = NT at *
    simp only [bnd_e, ret_e, oops_e, lift_s, lift_n, opn_e, thaw_v, thaw_t, thaw_s, rsv_v, rsv_s, frz_v, frz_t, frz_s, kept_e, eVar_e, eBin_e, toB_b, eTest_e, bAnd_e, bOr_e, bNot_e, eTruth_e, vAnd_e, vOr_e, vNot_e, eIf_e, eTup_e, eLst_e, rsvs_n, rsvs_c, eBi_e, toPart_i, eSl_e, eUn_e, eIsi_e, eChain_e, sSeq_e, sRet_e, sExpr_e, sIf_e, putS_e, asg_v, asg_t, sSet_e, tgTup_e, tgCons_e, tgNil_e, tgName_e, sAsg_e, sFor_e, eIter_e, eEnum_e, eRng1_e, eRng2_e, eCallA_e, eCallK_e, frOf_k, ite_ap, mtc_out, isi_int, isi_bool, isi_tuple, isIntD, isBoolD, isTupD, gLen, truth, gEq_int, gNe_int, gLe_int, gLt_int, gSub_int, gAdd_int, sPar_e, gEq_str, abAtE_e, frB_k, eCallB_e, noExc_e, eDict1_e, gNeg_int, gPow_30, eLc_e, gTuple_l, gTuple_t, gList_l, gList_t, sPutAt_e, lsAt_e, gSl_t, finR, sRaise0_e, frOf_x, sTry_e, noX_k, isi_str, List.set, List.getElem?_cons_zero, List.getElem?_cons_succ, List.map_cons, List.map_nil, List.length_cons, List.length_nil, Option.bind_some, Bool.false_eq_true, if_false, if_true, reduceIte, Nat.reduceAdd, reduceCtorEq, decide_true, decide_false, Bool.not_true, Bool.not_false, f1, f2, r1, gNe_str, q1]
  · rw [e] at f1 f2
    have r1 := gRepr_1 ok.can
    have q1 := gEq_net (w := "unfit") (by decide +kernel) ok
    have er := ok.F_error
    by_cases hwd : w = "wider"
    · subst hwd
      generalize netD ts' ps' = N' at *
      generalize netD ts ps = NT at *
      simp only [bnd_e, ret_e, oops_e, lift_s, lift_n, opn_e, thaw_v, thaw_t, thaw_s, rsv_v, rsv_s, frz_v, frz_t, frz_s, kept_e, eVar_e, eBin_e, toB_b, eTest_e, bAnd_e, bOr_e, bNot_e, eTruth_e, vAnd_e, vOr_e, vNot_e, eIf_e, eTup_e, eLst_e, rsvs_n, rsvs_c, eBi_e, toPart_i, eSl_e, eUn_e, eIsi_e, eChain_e, sSeq_e, sRet_e, sExpr_e, sIf_e, putS_e, asg_v, asg_t, sSet_e, tgTup_e, tgCons_e, tgNil_e, tgName_e, sAsg_e, sFor_e, eIter_e, eEnum_e, eRng1_e, eRng2_e, eCallA_e, eCallK_e, frOf_k, ite_ap, mtc_out, isi_int, isi_bool, isi_tuple, isIntD, isBoolD, isTupD, gLen, truth, gEq_int, gNe_int, gLe_int, gLt_int, gSub_int, gAdd_int, sPar_e, gEq_str, abAtE_e, frB_k, eCallB_e, noExc_e, eDict1_e, gNeg_int, gPow_30, eLc_e, gTuple_l, gTuple_t, gList_l, gList_t, sPutAt_e, lsAt_e, gSl_t, finR, sRaise0_e, frOf_x, sTry_e, noX_k, isi_str, List.set, List.getElem?_cons_zero, List.getElem?_cons_succ, List.map_cons, List.map_nil, List.length_cons, List.length_nil, Option.bind_some, Bool.false_eq_true, if_false, if_true, reduceIte, Nat.reduceAdd, reduceCtorEq, decide_true, decide_false, Bool.not_true, Bool.not_false, f1, f2, r1, gNe_str, q1]
    · have d1 : decide (w = "wider") = false := decide_eq_false hwd
      have bk := back hwd
      have hw2 : (if w = "laid" then ("shut" : Str) else "laid") = "wider" ∨ (if w = "laid" then ("shut" : Str) else "laid") = "laid" ∨ (if w = "laid" then ("shut" : Str) else "laid") = "shut" := by
        by_cases hz : w = "laid"
        · rw [if_pos hz]; exact Or.inr (Or.inr rfl)
        · rw [if_neg hz]; exact Or.inr (Or.inl rfl)
      have f3 := F_deed_ok (if w = "laid" then ("shut" : Str) else "laid") hw2 ts' ps' i j (by omega) (by have := ok.l2; omega) (by have := ok.le; omega)
      rw [bk] at f3
      generalize netD ts' ps' = N' at *
      generalize netD ts ps = NT at *
      by_cases hz : w = "laid"
      · subst hz
        rw [if_pos rfl] at f3
        have q4 : gIsN true PyData.none PyData.none = some (.val (.bool false)) := rfl
        simp only [bnd_e, ret_e, oops_e, lift_s, lift_n, opn_e, thaw_v, thaw_t, thaw_s, rsv_v, rsv_s, frz_v, frz_t, frz_s, kept_e, eVar_e, eBin_e, toB_b, eTest_e, bAnd_e, bOr_e, bNot_e, eTruth_e, vAnd_e, vOr_e, vNot_e, eIf_e, eTup_e, eLst_e, rsvs_n, rsvs_c, eBi_e, toPart_i, eSl_e, eUn_e, eIsi_e, eChain_e, sSeq_e, sRet_e, sExpr_e, sIf_e, putS_e, asg_v, asg_t, sSet_e, tgTup_e, tgCons_e, tgNil_e, tgName_e, sAsg_e, sFor_e, eIter_e, eEnum_e, eRng1_e, eRng2_e, eCallA_e, eCallK_e, frOf_k, ite_ap, mtc_out, isi_int, isi_bool, isi_tuple, isIntD, isBoolD, isTupD, gLen, truth, gEq_int, gNe_int, gLe_int, gLt_int, gSub_int, gAdd_int, sPar_e, gEq_str, abAtE_e, frB_k, eCallB_e, noExc_e, eDict1_e, gNeg_int, gPow_30, eLc_e, gTuple_l, gTuple_t, gList_l, gList_t, sPutAt_e, lsAt_e, gSl_t, finR, sRaise0_e, frOf_x, sTry_e, noX_k, isi_str, List.set, List.getElem?_cons_zero, List.getElem?_cons_succ, List.map_cons, List.map_nil, List.length_cons, List.length_nil, Option.bind_some, Bool.false_eq_true, if_false, if_true, reduceIte, Nat.reduceAdd, reduceCtorEq, decide_true, decide_false, Bool.not_true, Bool.not_false, f1, f2, f3, r0, r1, gNe_str, q1, d1, er, q4]
      · rw [if_neg hz] at f3
        have d2 : decide (w = "laid") = false := decide_eq_false hz
        have q4 : gIsN true PyData.none PyData.none = some (.val (.bool false)) := rfl
        simp only [bnd_e, ret_e, oops_e, lift_s, lift_n, opn_e, thaw_v, thaw_t, thaw_s, rsv_v, rsv_s, frz_v, frz_t, frz_s, kept_e, eVar_e, eBin_e, toB_b, eTest_e, bAnd_e, bOr_e, bNot_e, eTruth_e, vAnd_e, vOr_e, vNot_e, eIf_e, eTup_e, eLst_e, rsvs_n, rsvs_c, eBi_e, toPart_i, eSl_e, eUn_e, eIsi_e, eChain_e, sSeq_e, sRet_e, sExpr_e, sIf_e, putS_e, asg_v, asg_t, sSet_e, tgTup_e, tgCons_e, tgNil_e, tgName_e, sAsg_e, sFor_e, eIter_e, eEnum_e, eRng1_e, eRng2_e, eCallA_e, eCallK_e, frOf_k, ite_ap, mtc_out, isi_int, isi_bool, isi_tuple, isIntD, isBoolD, isTupD, gLen, truth, gEq_int, gNe_int, gLe_int, gLt_int, gSub_int, gAdd_int, sPar_e, gEq_str, abAtE_e, frB_k, eCallB_e, noExc_e, eDict1_e, gNeg_int, gPow_30, eLc_e, gTuple_l, gTuple_t, gList_l, gList_t, sPutAt_e, lsAt_e, gSl_t, finR, sRaise0_e, frOf_x, sTry_e, noX_k, isi_str, List.set, List.getElem?_cons_zero, List.getElem?_cons_succ, List.map_cons, List.map_nil, List.length_cons, List.length_nil, Option.bind_some, Bool.false_eq_true, if_false, if_true, reduceIte, Nat.reduceAdd, reduceCtorEq, decide_true, decide_false, Bool.not_true, Bool.not_false, f1, f2, f3, r0, r1, gNe_str, q1, d1, d2, er, q4]

end Pu.L

namespace Pu.L
open PySem PySem.Spec PyProof.Rows L2 Pu
/-! ### k02: the loops of the law -/
abbrev LW (t : Ab) (x2 x3 x4 x5 x6 x7 x8 x9 x10 x11 : Option SV) : PEnv := [none, some (.ab t), x2, x3, x4, x5, x6, x7, x8, x9, x10, x11]
def words : List D := [.str "wider", .str "laid", .str "shut"]
theorem words_ok {ts : List Int} {ps : List (Int × Int)} (h : NetOk ts ps) (hl : ps.length < 200) {i j : Nat} (hi : i < ts.length) (hj : j < ts.length) (t : Ab) (x2 x3 x5 x6 x7 x8 x11 : Option SV) :
    goFor (tgName 8) B_law_1 words (LW t x2 x3 (some (.im (netD ts ps))) x5 x6 x7 x8 (some (.im (.int (i : Nat)))) (some (.im (.int (j : Nat)))) x11) = .ok .next (LW t x2 x3 (some (.im (netD ts ps))) x5 x6 x7 (some (.im (.str "shut"))) (some (.im (.int (i : Nat)))) (some (.im (.int (j : Nat)))) x11) := by
  have f1 := F_done_ok "wider" (.inl rfl) h i j hi hj hl
  have f2 := F_done_ok "laid" (.inr (.inl rfl)) h i j hi hj hl
  have f3 := F_done_ok "shut" (.inr (.inr rfl)) h i j hi hj hl
  generalize netD ts ps = NT at *
  unfold words goFor goFor goFor goFor B_law_1
  simp only [LW]
  simp only [bnd_e, ret_e, oops_e, lift_s, lift_n, opn_e, thaw_v, thaw_t, thaw_s, rsv_v, rsv_s, frz_v, frz_t, frz_s, kept_e, eVar_e, eBin_e, toB_b, eTest_e, bAnd_e, bOr_e, bNot_e, eTruth_e, vAnd_e, vOr_e, vNot_e, eIf_e, eTup_e, eLst_e, rsvs_n, rsvs_c, eBi_e, toPart_i, eSl_e, eUn_e, eIsi_e, eChain_e, sSeq_e, sRet_e, sExpr_e, sIf_e, putS_e, asg_v, asg_t, sSet_e, tgTup_e, tgCons_e, tgNil_e, tgName_e, sAsg_e, sFor_e, eIter_e, eEnum_e, eRng1_e, eRng2_e, eCallA_e, eCallK_e, frOf_k, ite_ap, mtc_out, isi_int, isi_bool, isi_tuple, isIntD, isBoolD, isTupD, gLen, truth, gEq_int, gNe_int, gLe_int, gLt_int, gSub_int, gAdd_int, sPar_e, gEq_str, abAtE_e, frB_k, eCallB_e, noExc_e, eDict1_e, gNeg_int, gPow_30, eLc_e, gTuple_l, gTuple_t, gList_l, gList_t, sPutAt_e, lsAt_e, gSl_t, finR, sRaise0_e, frOf_x, sTry_e, noX_k, isi_str, List.set, List.getElem?_cons_zero, List.getElem?_cons_succ, List.map_cons, List.map_nil, List.length_cons, List.length_nil, Option.bind_some, Bool.false_eq_true, if_false, if_true, reduceIte, Nat.reduceAdd, reduceCtorEq, decide_true, decide_false, Bool.not_true, Bool.not_false, f1, f2, f3]
def InR (n : Nat) (d : D) : Prop := ∃ i j : Nat, i < n ∧ j < n ∧ d = .tuple [.int (i : Nat), .int (j : Nat)]
theorem turn_ok {ts : List Int} {ps : List (Int × Int)} (h : NetOk ts ps) (hl : ps.length < 200) {PL : List D} (h0 : PL ≠ []) (hp : PL.length ≤ 1000) (hr : ∀ d ∈ PL, InR ts.length d) {s6 : SV} (h6 : s6 = .ls PL ∨ s6 = .im (.list PL)) {t : Ab} (hd : Dk t) (x2 x3 x5 x7 x8 x9 x10 x11 : Option SV) :
    ∃ t' x8' x9' x10', B_law_2 (LW t x2 x3 (some (.im (netD ts ps))) x5 (some s6) x7 x8 x9 x10 x11) = .ok .next (LW t' x2 x3 (some (.im (netD ts ps))) x5 (some (.im (.list PL))) x7 x8' x9' x10' x11) ∧ Dk t' := by
  obtain ⟨d, t1, e, hm, h1⟩ := pck hd h0 hp
  obtain ⟨i, j, hi, hj, rfl⟩ := hr d hm
  have w := words_ok h hl hi hj t1 x2 x3 x5 (some (.im (.list PL))) x7 x8 x11
  unfold words at w
  refine ⟨t1, some (.im (.str "shut")), some (.im (.int (i : Nat))), some (.im (.int (j : Nat))), ?_, h1⟩
  generalize netD ts ps = NT at *
  unfold B_law_2
  simp only [LW] at w ⊢
  rcases h6 with rfl | rfl
  · simp only [bnd_e, ret_e, oops_e, lift_s, lift_n, opn_e, thaw_v, thaw_t, thaw_s, rsv_v, rsv_s, frz_v, frz_t, frz_s, kept_e, eVar_e, eBin_e, toB_b, eTest_e, bAnd_e, bOr_e, bNot_e, eTruth_e, vAnd_e, vOr_e, vNot_e, eIf_e, eTup_e, eLst_e, rsvs_n, rsvs_c, eBi_e, toPart_i, eSl_e, eUn_e, eIsi_e, eChain_e, sSeq_e, sRet_e, sExpr_e, sIf_e, putS_e, asg_v, asg_t, sSet_e, tgTup_e, tgCons_e, tgNil_e, tgName_e, sAsg_e, sFor_e, eIter_e, eEnum_e, eRng1_e, eRng2_e, eCallA_e, eCallK_e, frOf_k, ite_ap, mtc_out, isi_int, isi_bool, isi_tuple, isIntD, isBoolD, isTupD, gLen, truth, gEq_int, gNe_int, gLe_int, gLt_int, gSub_int, gAdd_int, sPar_e, gEq_str, abAtE_e, frB_k, eCallB_e, noExc_e, eDict1_e, gNeg_int, gPow_30, eLc_e, gTuple_l, gTuple_t, gList_l, gList_t, sPutAt_e, lsAt_e, gSl_t, finR, sRaise0_e, frOf_x, sTry_e, noX_k, isi_str, List.set, List.getElem?_cons_zero, List.getElem?_cons_succ, List.map_cons, List.map_nil, List.length_cons, List.length_nil, Option.bind_some, Bool.false_eq_true, if_false, if_true, reduceIte, Nat.reduceAdd, reduceCtorEq, decide_true, decide_false, Bool.not_true, Bool.not_false, e, itemsOf, w]
  · simp only [bnd_e, ret_e, oops_e, lift_s, lift_n, opn_e, thaw_v, thaw_t, thaw_s, rsv_v, rsv_s, frz_v, frz_t, frz_s, kept_e, eVar_e, eBin_e, toB_b, eTest_e, bAnd_e, bOr_e, bNot_e, eTruth_e, vAnd_e, vOr_e, vNot_e, eIf_e, eTup_e, eLst_e, rsvs_n, rsvs_c, eBi_e, toPart_i, eSl_e, eUn_e, eIsi_e, eChain_e, sSeq_e, sRet_e, sExpr_e, sIf_e, putS_e, asg_v, asg_t, sSet_e, tgTup_e, tgCons_e, tgNil_e, tgName_e, sAsg_e, sFor_e, eIter_e, eEnum_e, eRng1_e, eRng2_e, eCallA_e, eCallK_e, frOf_k, ite_ap, mtc_out, isi_int, isi_bool, isi_tuple, isIntD, isBoolD, isTupD, gLen, truth, gEq_int, gNe_int, gLe_int, gLt_int, gSub_int, gAdd_int, sPar_e, gEq_str, abAtE_e, frB_k, eCallB_e, noExc_e, eDict1_e, gNeg_int, gPow_30, eLc_e, gTuple_l, gTuple_t, gList_l, gList_t, sPutAt_e, lsAt_e, gSl_t, finR, sRaise0_e, frOf_x, sTry_e, noX_k, isi_str, List.set, List.getElem?_cons_zero, List.getElem?_cons_succ, List.map_cons, List.map_nil, List.length_cons, List.length_nil, Option.bind_some, Bool.false_eq_true, if_false, if_true, reduceIte, Nat.reduceAdd, reduceCtorEq, decide_true, decide_false, Bool.not_true, Bool.not_false, e, itemsOf, w]
theorem turns_ok {ts : List Int} {ps : List (Int × Int)} (h : NetOk ts ps) (hl : ps.length < 200) {PL : List D} (h0 : PL ≠ []) (hp : PL.length ≤ 1000) (hr : ∀ d ∈ PL, InR ts.length d) (x2 x3 x5 x11 : Option SV) :
    ∀ (k : Nat) (lo : Int) (t : Ab) (x7 x8 x9 x10 : Option SV), Dk t → ∃ t' x7' x8' x9' x10', goFor (tgName 7) B_law_2 (rangeD lo k) (LW t x2 x3 (some (.im (netD ts ps))) x5 (some (.im (.list PL))) x7 x8 x9 x10 x11) = .ok .next (LW t' x2 x3 (some (.im (netD ts ps))) x5 (some (.im (.list PL))) x7' x8' x9' x10' x11) ∧ Dk t'
  | 0, lo, t, x7, x8, x9, x10, hd => ⟨t, x7, x8, x9, x10, rfl, hd⟩
  | k + 1, lo, t, x7, x8, x9, x10, hd => by
    obtain ⟨t1, a8, a9, a10, e1, h1⟩ := turn_ok h hl h0 hp hr (s6 := .im (.list PL)) (.inr rfl) hd x2 x3 x5 (some (.im (.int lo))) x8 x9 x10 x11
    obtain ⟨t2, b7, b8, b9, b10, e2, h2⟩ := turns_ok h hl h0 hp hr x2 x3 x5 x11 k (lo + 1) t1 (some (.im (.int lo))) a8 a9 a10 h1
    refine ⟨t2, b7, b8, b9, b10, ?_, h2⟩
    rw [rangeD_succ]
    generalize netD ts ps = NT at *
    unfold goFor
    simp only [LW] at e1 e2 ⊢
    simp only [bnd_e, ret_e, oops_e, lift_s, lift_n, opn_e, thaw_v, thaw_t, thaw_s, rsv_v, rsv_s, frz_v, frz_t, frz_s, kept_e, eVar_e, eBin_e, toB_b, eTest_e, bAnd_e, bOr_e, bNot_e, eTruth_e, vAnd_e, vOr_e, vNot_e, eIf_e, eTup_e, eLst_e, rsvs_n, rsvs_c, eBi_e, toPart_i, eSl_e, eUn_e, eIsi_e, eChain_e, sSeq_e, sRet_e, sExpr_e, sIf_e, putS_e, asg_v, asg_t, sSet_e, tgTup_e, tgCons_e, tgNil_e, tgName_e, sAsg_e, sFor_e, eIter_e, eEnum_e, eRng1_e, eRng2_e, eCallA_e, eCallK_e, frOf_k, ite_ap, mtc_out, isi_int, isi_bool, isi_tuple, isIntD, isBoolD, isTupD, gLen, truth, gEq_int, gNe_int, gLe_int, gLt_int, gSub_int, gAdd_int, sPar_e, gEq_str, abAtE_e, frB_k, eCallB_e, noExc_e, eDict1_e, gNeg_int, gPow_30, eLc_e, gTuple_l, gTuple_t, gList_l, gList_t, sPutAt_e, lsAt_e, gSl_t, finR, sRaise0_e, frOf_x, sTry_e, noX_k, isi_str, List.set, List.getElem?_cons_zero, List.getElem?_cons_succ, List.map_cons, List.map_nil, List.length_cons, List.length_nil, Option.bind_some, Bool.false_eq_true, if_false, if_true, reduceIte, Nat.reduceAdd, reduceCtorEq, decide_true, decide_false, Bool.not_true, Bool.not_false, e1, e2]
theorem turns1_ok {ts : List Int} {ps : List (Int × Int)} (h : NetOk ts ps) (hl : ps.length < 200) {PL : List D} (h0 : PL ≠ []) (hp : PL.length ≤ 1000) (hr : ∀ d ∈ PL, InR ts.length d) (x2 x3 x5 x11 : Option SV) (k : Nat) (lo : Int) (t : Ab) (x7 x8 x9 x10 : Option SV) (hd : Dk t) :
    ∃ t' x7' x8' x9' x10', goFor (tgName 7) B_law_2 (rangeD lo (k + 1)) (LW t x2 x3 (some (.im (netD ts ps))) x5 (some (.ls PL)) x7 x8 x9 x10 x11) = .ok .next (LW t' x2 x3 (some (.im (netD ts ps))) x5 (some (.im (.list PL))) x7' x8' x9' x10' x11) ∧ Dk t' := by
  obtain ⟨t1, a8, a9, a10, e1, h1⟩ := turn_ok h hl h0 hp hr (s6 := .ls PL) (.inl rfl) hd x2 x3 x5 (some (.im (.int lo))) x8 x9 x10 x11
  obtain ⟨t2, b7, b8, b9, b10, e2, h2⟩ := turns_ok h hl h0 hp hr x2 x3 x5 x11 k (lo + 1) t1 (some (.im (.int lo))) a8 a9 a10 h1
  refine ⟨t2, b7, b8, b9, b10, ?_, h2⟩
  rw [rangeD_succ]
  generalize netD ts ps = NT at *
  unfold goFor
  simp only [LW] at e1 e2 ⊢
  simp only [bnd_e, ret_e, oops_e, lift_s, lift_n, opn_e, thaw_v, thaw_t, thaw_s, rsv_v, rsv_s, frz_v, frz_t, frz_s, kept_e, eVar_e, eBin_e, toB_b, eTest_e, bAnd_e, bOr_e, bNot_e, eTruth_e, vAnd_e, vOr_e, vNot_e, eIf_e, eTup_e, eLst_e, rsvs_n, rsvs_c, eBi_e, toPart_i, eSl_e, eUn_e, eIsi_e, eChain_e, sSeq_e, sRet_e, sExpr_e, sIf_e, putS_e, asg_v, asg_t, sSet_e, tgTup_e, tgCons_e, tgNil_e, tgName_e, sAsg_e, sFor_e, eIter_e, eEnum_e, eRng1_e, eRng2_e, eCallA_e, eCallK_e, frOf_k, ite_ap, mtc_out, isi_int, isi_bool, isi_tuple, isIntD, isBoolD, isTupD, gLen, truth, gEq_int, gNe_int, gLe_int, gLt_int, gSub_int, gAdd_int, sPar_e, gEq_str, abAtE_e, frB_k, eCallB_e, noExc_e, eDict1_e, gNeg_int, gPow_30, eLc_e, gTuple_l, gTuple_t, gList_l, gList_t, sPutAt_e, lsAt_e, gSl_t, finR, sRaise0_e, frOf_x, sTry_e, noX_k, isi_str, List.set, List.getElem?_cons_zero, List.getElem?_cons_succ, List.map_cons, List.map_nil, List.length_cons, List.length_nil, Option.bind_some, Bool.false_eq_true, if_false, if_true, reduceIte, Nat.reduceAdd, reduceCtorEq, decide_true, decide_false, Bool.not_true, Bool.not_false, e1, e2]
def diag (n : Nat) : List D := (List.range n).map fun i => .tuple [.int (i : Nat), .int (i : Nat)]
theorem rangeD_map (n : Nat) : rangeD 0 n = (List.range n).map fun (i : Nat) => PyData.int (i : Nat) := by
  unfold rangeD
  apply List.map_congr_left
  intro a _
  simp
theorem lc_diag (t : Ab) (x2 x3 x4 x5 x6 x7 x8 x9 x10 : Option SV) (n : Nat) (hn : n ≤ 1000) : goLc [11] (tgName 11) (ret true) C_law_3 (rangeD 0 n) [] (LW t x2 x3 x4 x5 x6 x7 x8 x9 x10 none) = .ok (diag n) (LW t x2 x3 x4 x5 x6 x7 x8 x9 x10 none) := by
  have lc := lc_map (vs := [11]) (s := tgName 11) (t := ret true) (f := C_law_3) (W := LW t x2 x3 x4 x5 x6 x7 x8 x9 x10 none) (enc := fun i : Nat => PyData.int (i : Nat)) (p := fun _ => true) (k := fun i : Nat => PyData.tuple [.int (i : Nat), .int (i : Nat)]) (List.range n) [] (by simp; omega)
    (fun i _ => ⟨LW t x2 x3 x4 x5 x6 x7 x8 x9 x10 (some (.im (.int (i : Nat)))), _, rfl, rfl, fun _ => ⟨_, by simp only [C_law_3, bnd_e, ret_e, oops_e, lift_s, lift_n, opn_e, thaw_v, thaw_t, thaw_s, rsv_v, rsv_s, frz_v, frz_t, frz_s, kept_e, eVar_e, eBin_e, toB_b, eTest_e, bAnd_e, bOr_e, bNot_e, eTruth_e, vAnd_e, vOr_e, vNot_e, eIf_e, eTup_e, eLst_e, rsvs_n, rsvs_c, eBi_e, toPart_i, eSl_e, eUn_e, eIsi_e, eChain_e, sSeq_e, sRet_e, sExpr_e, sIf_e, putS_e, asg_v, asg_t, sSet_e, tgTup_e, tgCons_e, tgNil_e, tgName_e, sAsg_e, sFor_e, eIter_e, eEnum_e, eRng1_e, eRng2_e, eCallA_e, eCallK_e, frOf_k, ite_ap, mtc_out, isi_int, isi_bool, isi_tuple, isIntD, isBoolD, isTupD, gLen, truth, gEq_int, gNe_int, gLe_int, gLt_int, gSub_int, gAdd_int, sPar_e, gEq_str, abAtE_e, frB_k, eCallB_e, noExc_e, eDict1_e, gNeg_int, gPow_30, eLc_e, gTuple_l, gTuple_t, gList_l, gList_t, sPutAt_e, lsAt_e, gSl_t, finR, sRaise0_e, frOf_x, sTry_e, noX_k, isi_str, List.set, List.getElem?_cons_zero, List.getElem?_cons_succ, List.map_cons, List.map_nil, List.length_cons, List.length_nil, Option.bind_some, Bool.false_eq_true, if_false, if_true, reduceIte, Nat.reduceAdd, reduceCtorEq, decide_true, decide_false, Bool.not_true, Bool.not_false]; rfl, rfl⟩, fun _ => rfl⟩)
  rw [rangeD_map, lc, filter_yes]
  rfl
theorem size_ok {n : Nat} (h1 : 1 ≤ n) (hn : n ≤ 10) (hp : PairsOk n) {t : Ab} (hd : Dk t) (x3 x4 x5 x6 x7 x8 x9 x10 : Option SV) :
    ∃ t' x4' x5' x6' x7' x8' x9' x10', B_law_4 (LW t (some (.im (.int (n : Nat)))) x3 x4 x5 x6 x7 x8 x9 x10 none) = .ok .next (LW t' (some (.im (.int (n : Nat)))) x3 x4' x5' x6' x7' x8' x9' x10' none) ∧ Dk t' := by
  obtain ⟨ts, ps, t1, e1, ok, hl, hl2, d1⟩ := net_ok hd h1 hn hp
  have r1 := gRepr_1 ok.can
  have rw1 := F_rows_ok ts ps ok
  have p1 := hp.run
  have hle := hp.le
  have lc := lc_diag t1 (some (.im (.int (n : Nat)))) x3 (some (.im (netD ts ps))) (some (.im (.str (netD ts ps).shown))) x6 x7 x8 x9 x10 n (by omega)
  have hdl : (diag n).length = n := by simp [diag]
  have ga := gAdd_ll (xs := (prsOf n).map prD) (ys := diag n) (by rw [List.length_map, hdl]; unfold bigLine; omega)
  have hin : ∀ d ∈ (prsOf n).map prD ++ diag n, InR ts.length d := by
    intro d hdd
    rw [hl]
    rcases List.mem_append.mp hdd with hdd | hdd
    · obtain ⟨p, hp', rfl⟩ := List.mem_map.mp hdd
      obtain ⟨z1, z2, z3, z4, _⟩ := hp.ln p hp'
      refine ⟨p.1.toNat, p.2.toNat, by omega, by omega, ?_⟩
      rw [Int.toNat_of_nonneg z1, Int.toNat_of_nonneg z3]
      rfl
    · unfold diag at hdd
      obtain ⟨i, hi, rfl⟩ := List.mem_map.mp hdd
      have := List.mem_range.mp hi
      exact ⟨i, i, this, this, rfl⟩
  have hne : (prsOf n).map prD ++ diag n ≠ [] := by
    intro z
    have := congrArg List.length z
    rw [List.length_append, hdl] at this
    simp at this
    omega
  obtain ⟨t2, b7, b8, b9, b10, e2, d2⟩ := turns1_ok ok (by omega) (PL := (prsOf n).map prD ++ diag n) hne (by rw [List.length_append, hdl, List.length_map]; omega) hin (some (.im (.int (n : Nat)))) x3 (some (.im (.str (netD ts ps).shown))) none 5 0 t1 x7 x8 x9 x10 d1
  refine ⟨t2, some (.im (netD ts ps)), some (.im (.str (netD ts ps).shown)), some (.im (.list ((prsOf n).map prD ++ diag n))), b7, b8, b9, b10, ?_, d2⟩
  have i6 : int1 [.int 6] = some 6 := int1_n (n := 6) (by decide)
  have i6' : ((6 : Int)).toNat = 5 + 1 := rfl
  have ir := int1_n (n := n) (by omega)
  generalize netD ts ps = NT at *
  generalize (prsOf n).map prD = PP at *
  generalize diag n = DG at *
  unfold B_law_4
  simp only [LW] at lc e2 ⊢
  simp only [bnd_e, ret_e, oops_e, lift_s, lift_n, opn_e, thaw_v, thaw_t, thaw_s, rsv_v, rsv_s, frz_v, frz_t, frz_s, kept_e, eVar_e, eBin_e, toB_b, eTest_e, bAnd_e, bOr_e, bNot_e, eTruth_e, vAnd_e, vOr_e, vNot_e, eIf_e, eTup_e, eLst_e, rsvs_n, rsvs_c, eBi_e, toPart_i, eSl_e, eUn_e, eIsi_e, eChain_e, sSeq_e, sRet_e, sExpr_e, sIf_e, putS_e, asg_v, asg_t, sSet_e, tgTup_e, tgCons_e, tgNil_e, tgName_e, sAsg_e, sFor_e, eIter_e, eEnum_e, eRng1_e, eRng2_e, eCallA_e, eCallK_e, frOf_k, ite_ap, mtc_out, isi_int, isi_bool, isi_tuple, isIntD, isBoolD, isTupD, gLen, truth, gEq_int, gNe_int, gLe_int, gLt_int, gSub_int, gAdd_int, sPar_e, gEq_str, abAtE_e, frB_k, eCallB_e, noExc_e, eDict1_e, gNeg_int, gPow_30, eLc_e, gTuple_l, gTuple_t, gList_l, gList_t, sPutAt_e, lsAt_e, gSl_t, finR, sRaise0_e, frOf_x, sTry_e, noX_k, isi_str, List.set, List.getElem?_cons_zero, List.getElem?_cons_succ, List.map_cons, List.map_nil, List.length_cons, List.length_nil, Option.bind_some, Bool.false_eq_true, if_false, if_true, reduceIte, Nat.reduceAdd, reduceCtorEq, decide_true, decide_false, Bool.not_true, Bool.not_false, e1, r1, rw1, p1, ir, Int.toNat_natCast, wipeE, lc, rst, imOnly, ga, i6, i6', e2, gNe_str]
def sizeD (d : D) : Prop := ∃ n : Nat, d = .int (n : Nat) ∧ 1 ≤ n ∧ n ≤ 10 ∧ PairsOk n
theorem sizes_ok : ∀ (ds : List D) (t : Ab) (x2 x3 x4 x5 x6 x7 x8 x9 x10 : Option SV), (∀ d ∈ ds, sizeD d) → Dk t → ∃ t' x2' x4' x5' x6' x7' x8' x9' x10', goFor (tgName 2) B_law_4 ds (LW t x2 x3 x4 x5 x6 x7 x8 x9 x10 none) = .ok .next (LW t' x2' x3 x4' x5' x6' x7' x8' x9' x10' none) ∧ Dk t'
  | [], t, x2, x3, x4, x5, x6, x7, x8, x9, x10, _, hd => ⟨t, x2, x4, x5, x6, x7, x8, x9, x10, rfl, hd⟩
  | d :: ds, t, x2, x3, x4, x5, x6, x7, x8, x9, x10, h, hd => by
    obtain ⟨n, rfl, h1, h2, hp⟩ := h d (by simp)
    obtain ⟨t1, a4, a5, a6, a7, a8, a9, a10, e1, d1⟩ := size_ok h1 h2 hp hd x3 x4 x5 x6 x7 x8 x9 x10
    obtain ⟨t2, b2, b4, b5, b6, b7, b8, b9, b10, e2, d2⟩ := sizes_ok ds t1 (some (.im (.int (n : Nat)))) x3 a4 a5 a6 a7 a8 a9 a10 (fun x hx => h x (List.mem_cons_of_mem _ hx)) d1
    refine ⟨t2, b2, b4, b5, b6, b7, b8, b9, b10, ?_, d2⟩
    unfold goFor
    simp only [LW] at e1 e2 ⊢
    simp only [bnd_e, ret_e, oops_e, lift_s, lift_n, opn_e, thaw_v, thaw_t, thaw_s, rsv_v, rsv_s, frz_v, frz_t, frz_s, kept_e, eVar_e, eBin_e, toB_b, eTest_e, bAnd_e, bOr_e, bNot_e, eTruth_e, vAnd_e, vOr_e, vNot_e, eIf_e, eTup_e, eLst_e, rsvs_n, rsvs_c, eBi_e, toPart_i, eSl_e, eUn_e, eIsi_e, eChain_e, sSeq_e, sRet_e, sExpr_e, sIf_e, putS_e, asg_v, asg_t, sSet_e, tgTup_e, tgCons_e, tgNil_e, tgName_e, sAsg_e, sFor_e, eIter_e, eEnum_e, eRng1_e, eRng2_e, eCallA_e, eCallK_e, frOf_k, ite_ap, mtc_out, isi_int, isi_bool, isi_tuple, isIntD, isBoolD, isTupD, gLen, truth, gEq_int, gNe_int, gLe_int, gLt_int, gSub_int, gAdd_int, sPar_e, gEq_str, abAtE_e, frB_k, eCallB_e, noExc_e, eDict1_e, gNeg_int, gPow_30, eLc_e, gTuple_l, gTuple_t, gList_l, gList_t, sPutAt_e, lsAt_e, gSl_t, finR, sRaise0_e, frOf_x, sTry_e, noX_k, isi_str, List.set, List.getElem?_cons_zero, List.getElem?_cons_succ, List.map_cons, List.map_nil, List.length_cons, List.length_nil, Option.bind_some, Bool.false_eq_true, if_false, if_true, reduceIte, Nat.reduceAdd, reduceCtorEq, decide_true, decide_false, Bool.not_true, Bool.not_false, e1, e2]
theorem law_true : ∀ d, IsDeck "deep" "state" d → TrueEnd (g_law (lawEnv 12 d)) := by
  intro t hd
  have he : lawEnv 12 t = LW t none none none none none none none none none none := rfl
  obtain ⟨d3, t1, e1, m1, h1⟩ := pck (ds := [.int 3, .int 4]) hd (by decide) (by decide)
  obtain ⟨d5, t2, e2, m2, h2⟩ := pck (ds := [.int 5, .int 6]) h1 (by decide) (by decide)
  have s1 : sizeD d3 := by
    simp only [List.mem_cons, List.not_mem_nil, or_false] at m1
    rcases m1 with rfl | rfl
    · exact ⟨3, rfl, by decide, by decide, pairs3⟩
    · exact ⟨4, rfl, by decide, by decide, pairs4⟩
  have s2 : sizeD d5 := by
    simp only [List.mem_cons, List.not_mem_nil, or_false] at m2
    rcases m2 with rfl | rfl
    · exact ⟨5, rfl, by decide, by decide, pairs5⟩
    · exact ⟨6, rfl, by decide, by decide, pairs6⟩
  obtain ⟨t3, a2, a4, a5, a6, a7, a8, a9, a10, e3, h3⟩ := sizes_ok [.int 1, .int 2, d3, d5, .int 10] t2 none none none none none none none none none (by
    intro d hdd
    simp only [List.mem_cons, List.not_mem_nil, or_false] at hdd
    rcases hdd with rfl | rfl | rfl | rfl | rfl
    · exact ⟨1, rfl, by decide, by decide, pairs1⟩
    · exact ⟨2, rfl, by decide, by decide, pairs2⟩
    · exact s1
    · exact s2
    · exact ⟨10, rfl, by decide, by decide, pairs10⟩) h2
  have hnet : netD [4, 4, 4] [(0, 1)] = .tuple [.tuple [.int 4, .int 4, .int 4], .tuple [.tuple [.int 0, .int 1]]] := rfl
  have f0 := F_deed_ok "wider" (.inl rfl) [4, 4, 4] [(0, 1)] 0 0 (by decide) (by decide) (by decide)
  have f1 := F_deed_ok "wider" (.inl rfl) [4, 4, 4] [(0, 1)] 1 0 (by decide) (by decide) (by decide)
  have f2 := F_deed_ok "wider" (.inl rfl) [4, 4, 4] [(0, 1)] 2 0 (by decide) (by decide) (by decide)
  have u0 : dueOf "wider" [4, 4, 4] [(0, 1)] 0 0 = .str "unfit" := rfl
  have u1 : dueOf "wider" [4, 4, 4] [(0, 1)] 1 0 = .str "unfit" := rfl
  have u2 : dueOf "wider" [4, 4, 4] [(0, 1)] 2 0 = .str "unfit" := rfl
  rw [u0, hnet] at f0
  rw [u1, hnet] at f1
  rw [u2, hnet] at f2
  have f0' : F__law_deed [.str "wider", .tuple [.tuple [.int 4, .int 4, .int 4], .tuple [.tuple [.int 0, .int 1]]], .int 0, .int 0] = .ok (.val (.str "unfit")) := f0
  have f1' : F__law_deed [.str "wider", .tuple [.tuple [.int 4, .int 4, .int 4], .tuple [.tuple [.int 0, .int 1]]], .int 1, .int 0] = .ok (.val (.str "unfit")) := f1
  have f2' : F__law_deed [.str "wider", .tuple [.tuple [.int 4, .int 4, .int 4], .tuple [.tuple [.int 0, .int 1]]], .int 2, .int 0] = .ok (.val (.str "unfit")) := f2
  have m3 : gMul (.tuple [.int 4]) (.int 3) = some (.val (.tuple [.int 4, .int 4, .int 4])) := rfl
  have m4 : gMul (.list [.str "unfit"]) (.int 3) = some (.tmp [.str "unfit", .str "unfit", .str "unfit"]) := rfl
  have i3 : int1 [.int 3] = some 3 := int1_n (n := 3) (by decide)
  have lc : goLc [11] (tgName 11) (ret true) C_law_0 (rangeD 0 3) [] (LW t3 a2 (some (.im (.tuple [.tuple [.int 4, .int 4, .int 4], .tuple [.tuple [.int 0, .int 1]]]))) a4 a5 a6 a7 a8 a9 a10 none) = .ok [.str "unfit", .str "unfit", .str "unfit"] (LW t3 a2 (some (.im (.tuple [.tuple [.int 4, .int 4, .int 4], .tuple [.tuple [.int 0, .int 1]]]))) a4 a5 a6 a7 a8 a9 a10 none) := by
    have hr : rangeD 0 3 = [.int 0, .int 1, .int 2] := rfl
    have b0 : ([] : List D).length < bigLine := by decide
    have b1 : [PyData.str "unfit"].length < bigLine := by simp [bigLine]
    have b2 : [PyData.str "unfit", PyData.str "unfit"].length < bigLine := by simp [bigLine]
    rw [hr]
    unfold goLc goLc goLc goLc C_law_0
    simp only [LW]
    have b0 : 0 < bigLine := by decide
    have b1 : 1 < bigLine := by decide
    have b2 : 2 < bigLine := by decide
    simp only [bnd_e, ret_e, oops_e, lift_s, lift_n, opn_e, thaw_v, thaw_t, thaw_s, rsv_v, rsv_s, frz_v, frz_t, frz_s, kept_e, eVar_e, eBin_e, toB_b, eTest_e, bAnd_e, bOr_e, bNot_e, eTruth_e, vAnd_e, vOr_e, vNot_e, eIf_e, eTup_e, eLst_e, rsvs_n, rsvs_c, eBi_e, toPart_i, eSl_e, eUn_e, eIsi_e, eChain_e, sSeq_e, sRet_e, sExpr_e, sIf_e, putS_e, asg_v, asg_t, sSet_e, tgTup_e, tgCons_e, tgNil_e, tgName_e, sAsg_e, sFor_e, eIter_e, eEnum_e, eRng1_e, eRng2_e, eCallA_e, eCallK_e, frOf_k, ite_ap, mtc_out, isi_int, isi_bool, isi_tuple, isIntD, isBoolD, isTupD, gLen, truth, gEq_int, gNe_int, gLe_int, gLt_int, gSub_int, gAdd_int, sPar_e, gEq_str, abAtE_e, frB_k, eCallB_e, noExc_e, eDict1_e, gNeg_int, gPow_30, eLc_e, gTuple_l, gTuple_t, gList_l, gList_t, sPutAt_e, lsAt_e, gSl_t, finR, sRaise0_e, frOf_x, sTry_e, noX_k, isi_str, List.set, List.getElem?_cons_zero, List.getElem?_cons_succ, List.map_cons, List.map_nil, List.length_cons, List.length_nil, Option.bind_some, Bool.false_eq_true, if_false, if_true, reduceIte, Nat.reduceAdd, reduceCtorEq, decide_true, decide_false, Bool.not_true, Bool.not_false, f0', f1', f2', wipeE, List.nil_append, List.cons_append, b0, b1, b2]
  have q3 : gEq false (.list [.str "unfit", .str "unfit", .str "unfit"]) (.list [.str "unfit", .str "unfit", .str "unfit"]) = some (.val (.bool true)) := by
    have sh : SeqAt.shaped (.list [.str "unfit", .str "unfit", .str "unfit"]) = true := by decide +kernel
    have ev : PyData.eqv (.list [.str "unfit", .str "unfit", .str "unfit"]) (.list [.str "unfit", .str "unfit", .str "unfit"]) = true := by decide +kernel
    have sp : strPair (.list [.str "unfit", .str "unfit", .str "unfit"]) (.list [.str "unfit", .str "unfit", .str "unfit"]) = none := rfl
    unfold gEq
    rw [sp]
    simp only [sh, ev, and_self, if_true, Bool.false_eq_true, if_false]
  have i3' : (3 : Int).toNat = 3 := rfl
  refine ev_true ?_
  rw [he]
  unfold g_law
  simp only [LW] at lc e3 ⊢
  simp only [bnd_e, ret_e, oops_e, lift_s, lift_n, opn_e, thaw_v, thaw_t, thaw_s, rsv_v, rsv_s, frz_v, frz_t, frz_s, kept_e, eVar_e, eBin_e, toB_b, eTest_e, bAnd_e, bOr_e, bNot_e, eTruth_e, vAnd_e, vOr_e, vNot_e, eIf_e, eTup_e, eLst_e, rsvs_n, rsvs_c, eBi_e, toPart_i, eSl_e, eUn_e, eIsi_e, eChain_e, sSeq_e, sRet_e, sExpr_e, sIf_e, putS_e, asg_v, asg_t, sSet_e, tgTup_e, tgCons_e, tgNil_e, tgName_e, sAsg_e, sFor_e, eIter_e, eEnum_e, eRng1_e, eRng2_e, eCallA_e, eCallK_e, frOf_k, ite_ap, mtc_out, isi_int, isi_bool, isi_tuple, isIntD, isBoolD, isTupD, gLen, truth, gEq_int, gNe_int, gLe_int, gLt_int, gSub_int, gAdd_int, sPar_e, gEq_str, abAtE_e, frB_k, eCallB_e, noExc_e, eDict1_e, gNeg_int, gPow_30, eLc_e, gTuple_l, gTuple_t, gList_l, gList_t, sPutAt_e, lsAt_e, gSl_t, finR, sRaise0_e, frOf_x, sTry_e, noX_k, isi_str, List.set, List.getElem?_cons_zero, List.getElem?_cons_succ, List.map_cons, List.map_nil, List.length_cons, List.length_nil, Option.bind_some, Bool.false_eq_true, if_false, if_true, reduceIte, Nat.reduceAdd, reduceCtorEq, decide_true, decide_false, Bool.not_true, Bool.not_false, e1, e2, itemsOf, e3, m3, m4, i3, i3', wipeE, lc, rst, imOnly, q3]
  trivial

end Pu.L

namespace Pu.L
open PySem PySem.Spec PyProof.Rows L2 Pu
section
variable {P : Program} {w : World} {K : PySem.W.Frag} {mg : Str → Option Value} {base : Heap}
theorem G_law (t : T K mg) {f : Addr} {fd : FuncData} (F : Fun K "law" "law" slaw f fd) (hT : ∀ d, IsDeck "deep" "state" d → TrueEnd (g_law (lawEnv 12 d))) : FnG P w K mg base CX0 6 f fd ["script"] (SpLaw K) := by
  refine fnLaw_of (N := ["script", "deck", "size", "full", "net", "known", "pairs", "turn", "word", "one", "other", "station"]) F sclaw rfl (by decide) rfl ?_ ?_ hT
  · intro cdv A outer s H E hr hgu
    exact psetC 1 sclaw.nd (pe_g ((G__law_deck t).mono (by decide)) hr hgu (by rfl) t.g__law_deck t.F__law_deck.kp t.n__law_deck pass0A (pa_cons (pv 0) pa_nil))
  · intro cdv A outer s H E hr hgu
    have hu := hr.units
    have hu1 := hr.units0
    exact (pssx_cons (psx_for PassesOwn.never rfl (pix_seq (px_tup (paf_cons px_int (paf_cons px_int (paf_cons (px_callB (i := 1) ((G__law_pick t).mono (by decide)) hr hgu t.g__law_pick t.F__law_pick.kp t.n__law_pick pass0A (paf_cons (px_lst (paf_cons px_int (paf_cons px_int paf_nil))) paf_nil)) (paf_cons (px_callB (i := 1) ((G__law_pick t).mono (by decide)) hr hgu t.g__law_pick t.F__law_pick.kp t.n__law_pick pass0A (paf_cons (px_lst (paf_cons px_int (paf_cons px_int paf_nil))) paf_nil)) (paf_cons px_int paf_nil))))))) (tgx_name (i := 2) sclaw.nd)
      (pssx_cons (psx_set (i := 4) sclaw.nd (px_callB (i := 1) ((G__law_net t).mono (by decide)) hr hgu t.g__law_net t.F__law_net.kp t.n__law_net pass0A (paf_cons (px_var 2) paf_nil)))
      (pssx_cons (psx_set (i := 5) sclaw.nd (px_bi (bi_repr hgu hu) (pax_cons (px_var 4) pax_nil) rfl t.b_repr bt_repr))
      (pssx_cons (psx_if (ptx_not (ptx_truth (px_callA ((G__law_rows_hold t).mono (by decide)) hr hgu t.g__law_rows_hold t.F__law_rows_hold.kp t.n__law_rows_hold pass0A (paf_cons (px_var 4) paf_nil))))
      (pssx_one (psx_ret px_bl))
      pssx_nil)
      (pssx_cons (psx_set (i := 6) sclaw.nd (px_op o2_add (px_callA ((G__law_pairs t).mono (by decide)) hr hgu t.g__law_pairs t.F__law_pairs.kp t.n__law_pairs pass0A (paf_cons (px_var 2) paf_nil)) (px_lc (own := [("station", 11)]) rfl sclaw.nd (pix_range1 rfl t.b_range (paf_cons (px_var 2) paf_nil)) (blkOk_by (show blkC ["script", "deck", "size", "full", "net", "known", "pairs", "turn", "word", "one", "other", "station"] (defScope slaw) _ _ = true from by decide +kernel)) (fun _ _ _ _ _ => (tgx_name (i := 11) sclaw.nd)) (fun _ _ _ _ _ => ptsx_nil) (fun _ _ _ _ _ => (px_tup (paf_cons (px_var 11) (paf_cons (px_var 11) paf_nil)))) (by decide) (by decide))))
      (pssx_cons (psx_for PassesOwn.never rfl (pix_range1 rfl t.b_range (paf_cons px_int paf_nil)) (tgx_name (i := 7) sclaw.nd)
      (pssx_cons (psx_asg (px_callB (i := 1) ((G__law_pick t).mono (by decide)) hr hgu t.g__law_pick t.F__law_pick.kp t.n__law_pick pass0A (paf_cons (px_var 6) paf_nil)) (tgx_tup rfl (tgsx_cons (tgx_name (i := 9) sclaw.nd) (tgsx_cons (tgx_name (i := 10) sclaw.nd) tgsx_nil))))
      (pssx_one (psx_for PassesOwn.never rfl (pix_seq (px_tup (paf_cons px_str (paf_cons px_str (paf_cons px_str paf_nil))))) (tgx_name (i := 8) sclaw.nd)
      (pssx_one (psx_if (ptx_not (ptx_truth (px_callA ((G__law_is_done t).mono (by decide)) hr hgu t.g__law_is_done t.F__law_is_done.kp t.n__law_is_done pass0A (paf_cons (px_var 8) (paf_cons (px_var 4) (paf_cons (px_var 9) (paf_cons (px_var 10) paf_nil)))))))
      (pssx_one (psx_ret px_bl))
      pssx_nil))))))
      (pssx_one (psx_if (ptx_cmp (o2_ne hu) (px_bi (bi_repr hgu hu) (pax_cons (px_var 4) pax_nil) rfl t.b_repr bt_repr) (px_var 5) (nomark _))
      (pssx_one (psx_ret px_bl))
      pssx_nil))))))))
      (pssx_cons (psx_set (i := 3) sclaw.nd (px_tup (paf_cons (px_op o2_mul (px_tup (paf_cons px_int paf_nil)) px_int) (paf_cons (px_tup (paf_cons (px_tup (paf_cons px_int (paf_cons px_int paf_nil))) paf_nil)) paf_nil))))
      (pssx_one (psx_ret (px_cmp (o2_eq hu) (px_lc (own := [("station", 11)]) rfl sclaw.nd (pix_range1 rfl t.b_range (paf_cons px_int paf_nil)) (blkOk_by (show blkC ["script", "deck", "size", "full", "net", "known", "pairs", "turn", "word", "one", "other", "station"] (defScope slaw) _ _ = true from by decide +kernel)) (fun _ _ _ _ _ => (tgx_name (i := 11) sclaw.nd)) (fun _ _ _ _ _ => ptsx_nil) (fun _ _ _ _ _ => (px_callA ((G__law_deed t).mono (by decide)) hr hgu t.g__law_deed t.F__law_deed.kp t.n__law_deed pass0A (paf_cons px_str (paf_cons (px_var 3) (paf_cons (px_var 11) (paf_cons px_int paf_nil)))))) (by decide) (by decide)) (px_op o2_mul (px_lst (paf_cons px_str paf_nil)) px_int) (nomark _))))))
end
end Pu.L

namespace Pu.L
open PySem PySem.Spec PyProof.Rows L2 Pu
theorem all_mk {l : PySem.W.OpenLaw} {w : World} {K : PySem.W.Frag} {h : Heap} {mg : Str → Option Value} {fa : Addr} (X : K.In h) (G : h.Ns mainGlobals mg) (hfa : mg "law" = some (.ref fa))
    {f_is_integer : Addr} {od_is_integer an_is_integer : Option Addr} {sl_is_integer : Array (Option Value)} {oc_is_integer kV_is_integer dc_is_integer pm_is_integer cd_is_integer ct_is_integer : Value}
    {f_is_within : Addr} {od_is_within an_is_within : Option Addr} {sl_is_within : Array (Option Value)} {oc_is_within kV_is_within dc_is_within pm_is_within cd_is_within ct_is_within : Value}
    {f_is_row : Addr} {od_is_row an_is_row : Option Addr} {sl_is_row : Array (Option Value)} {oc_is_row kV_is_row dc_is_row pm_is_row cd_is_row ct_is_row : Value}
    {f_is_pair : Addr} {od_is_pair an_is_pair : Option Addr} {sl_is_pair : Array (Option Value)} {oc_is_pair kV_is_pair dc_is_pair pm_is_pair cd_is_pair ct_is_pair : Value}
    {f__is_line : Addr} {od__is_line an__is_line : Option Addr} {sl__is_line : Array (Option Value)} {oc__is_line kV__is_line dc__is_line pm__is_line cd__is_line ct__is_line : Value}
    {f__is_built : Addr} {od__is_built an__is_built : Option Addr} {sl__is_built : Array (Option Value)} {oc__is_built kV__is_built dc__is_built pm__is_built cd__is_built ct__is_built : Value}
    {f_net_error : Addr} {od_net_error an_net_error : Option Addr} {sl_net_error : Array (Option Value)} {oc_net_error kV_net_error dc_net_error pm_net_error cd_net_error ct_net_error : Value}
    {f_nexts : Addr} {od_nexts an_nexts : Option Addr} {sl_nexts : Array (Option Value)} {oc_nexts kV_nexts dc_nexts pm_nexts cd_nexts ct_nexts : Value}
    {f_befores : Addr} {od_befores an_befores : Option Addr} {sl_befores : Array (Option Value)} {oc_befores kV_befores dc_befores pm_befores cd_befores ct_befores : Value}
    {f_turned : Addr} {od_turned an_turned : Option Addr} {sl_turned : Array (Option Value)} {oc_turned kV_turned dc_turned pm_turned cd_turned ct_turned : Value}
    {f_wider : Addr} {od_wider an_wider : Option Addr} {sl_wider : Array (Option Value)} {oc_wider kV_wider dc_wider pm_wider cd_wider ct_wider : Value}
    {f_laid : Addr} {od_laid an_laid : Option Addr} {sl_laid : Array (Option Value)} {oc_laid kV_laid dc_laid pm_laid cd_laid ct_laid : Value}
    {f_shut : Addr} {od_shut an_shut : Option Addr} {sl_shut : Array (Option Value)} {oc_shut kV_shut dc_shut pm_shut cd_shut ct_shut : Value}
    {f__law_deck : Addr} {od__law_deck an__law_deck : Option Addr} {sl__law_deck : Array (Option Value)} {oc__law_deck kV__law_deck dc__law_deck pm__law_deck cd__law_deck ct__law_deck : Value}
    {f__law_draw : Addr} {od__law_draw an__law_draw : Option Addr} {sl__law_draw : Array (Option Value)} {oc__law_draw kV__law_draw dc__law_draw pm__law_draw cd__law_draw ct__law_draw : Value}
    {f__law_pick : Addr} {od__law_pick an__law_pick : Option Addr} {sl__law_pick : Array (Option Value)} {oc__law_pick kV__law_pick dc__law_pick pm__law_pick cd__law_pick ct__law_pick : Value}
    {f__law_pairs : Addr} {od__law_pairs an__law_pairs : Option Addr} {sl__law_pairs : Array (Option Value)} {oc__law_pairs kV__law_pairs dc__law_pairs pm__law_pairs cd__law_pairs ct__law_pairs : Value}
    {f__law_net : Addr} {od__law_net an__law_net : Option Addr} {sl__law_net : Array (Option Value)} {oc__law_net kV__law_net dc__law_net pm__law_net cd__law_net ct__law_net : Value}
    {f__law_deed : Addr} {od__law_deed an__law_deed : Option Addr} {sl__law_deed : Array (Option Value)} {oc__law_deed kV__law_deed dc__law_deed pm__law_deed cd__law_deed ct__law_deed : Value}
    {f__law_due : Addr} {od__law_due an__law_due : Option Addr} {sl__law_due : Array (Option Value)} {oc__law_due kV__law_due dc__law_due pm__law_due cd__law_due ct__law_due : Value}
    {f__law_rows_hold : Addr} {od__law_rows_hold an__law_rows_hold : Option Addr} {sl__law_rows_hold : Array (Option Value)} {oc__law_rows_hold kV__law_rows_hold dc__law_rows_hold pm__law_rows_hold cd__law_rows_hold ct__law_rows_hold : Value}
    {f__law_is_done : Addr} {od__law_is_done an__law_is_done : Option Addr} {sl__law_is_done : Array (Option Value)} {oc__law_is_done kV__law_is_done dc__law_is_done pm__law_is_done cd__law_is_done ct__law_is_done : Value}
    {f_law : Addr} {od_law an_law : Option Addr} {sl_law : Array (Option Value)} {oc_law kV_law dc_law pm_law cd_law ct_law : Value}
    {t_MAX_STATIONS : Tok}
    {t_MAX_TRACKS : Tok}
    {e_Unfit : Addr}
    (p_is_integer : PySem.W.nsIn K mainGlobals "is_integer" = some (some (.ref f_is_integer))) (l_is_integer : K.lookup f_is_integer = some ⟨oc_is_integer, od_is_integer, .func (PySem.W.fnOf "is_integer" "is_integer" (defArgs sis_integer) (defBody sis_integer) (defScope sis_integer) .none kV_is_integer dc_is_integer pm_is_integer an_is_integer cd_is_integer ct_is_integer), sl_is_integer⟩) (c_is_integer : PySem.W.codeIn K cd_is_integer "is_integer" = true) (q_is_integer : PySem.W.keepIn K (.ref f_is_integer) = true)
    (p_is_within : PySem.W.nsIn K mainGlobals "is_within" = some (some (.ref f_is_within))) (l_is_within : K.lookup f_is_within = some ⟨oc_is_within, od_is_within, .func (PySem.W.fnOf "is_within" "is_within" (defArgs sis_within) (defBody sis_within) (defScope sis_within) .none kV_is_within dc_is_within pm_is_within an_is_within cd_is_within ct_is_within), sl_is_within⟩) (c_is_within : PySem.W.codeIn K cd_is_within "is_within" = true) (q_is_within : PySem.W.keepIn K (.ref f_is_within) = true)
    (p_is_row : PySem.W.nsIn K mainGlobals "is_row" = some (some (.ref f_is_row))) (l_is_row : K.lookup f_is_row = some ⟨oc_is_row, od_is_row, .func (PySem.W.fnOf "is_row" "is_row" (defArgs sis_row) (defBody sis_row) (defScope sis_row) .none kV_is_row dc_is_row pm_is_row an_is_row cd_is_row ct_is_row), sl_is_row⟩) (c_is_row : PySem.W.codeIn K cd_is_row "is_row" = true) (q_is_row : PySem.W.keepIn K (.ref f_is_row) = true)
    (p_is_pair : PySem.W.nsIn K mainGlobals "is_pair" = some (some (.ref f_is_pair))) (l_is_pair : K.lookup f_is_pair = some ⟨oc_is_pair, od_is_pair, .func (PySem.W.fnOf "is_pair" "is_pair" (defArgs sis_pair) (defBody sis_pair) (defScope sis_pair) .none kV_is_pair dc_is_pair pm_is_pair an_is_pair cd_is_pair ct_is_pair), sl_is_pair⟩) (c_is_pair : PySem.W.codeIn K cd_is_pair "is_pair" = true) (q_is_pair : PySem.W.keepIn K (.ref f_is_pair) = true)
    (p__is_line : PySem.W.nsIn K mainGlobals "_is_line" = some (some (.ref f__is_line))) (l__is_line : K.lookup f__is_line = some ⟨oc__is_line, od__is_line, .func (PySem.W.fnOf "_is_line" "_is_line" (defArgs s_is_line) (defBody s_is_line) (defScope s_is_line) .none kV__is_line dc__is_line pm__is_line an__is_line cd__is_line ct__is_line), sl__is_line⟩) (c__is_line : PySem.W.codeIn K cd__is_line "_is_line" = true) (q__is_line : PySem.W.keepIn K (.ref f__is_line) = true)
    (p__is_built : PySem.W.nsIn K mainGlobals "_is_built" = some (some (.ref f__is_built))) (l__is_built : K.lookup f__is_built = some ⟨oc__is_built, od__is_built, .func (PySem.W.fnOf "_is_built" "_is_built" (defArgs s_is_built) (defBody s_is_built) (defScope s_is_built) .none kV__is_built dc__is_built pm__is_built an__is_built cd__is_built ct__is_built), sl__is_built⟩) (c__is_built : PySem.W.codeIn K cd__is_built "_is_built" = true) (q__is_built : PySem.W.keepIn K (.ref f__is_built) = true)
    (p_net_error : PySem.W.nsIn K mainGlobals "net_error" = some (some (.ref f_net_error))) (l_net_error : K.lookup f_net_error = some ⟨oc_net_error, od_net_error, .func (PySem.W.fnOf "net_error" "net_error" (defArgs snet_error) (defBody snet_error) (defScope snet_error) .none kV_net_error dc_net_error pm_net_error an_net_error cd_net_error ct_net_error), sl_net_error⟩) (c_net_error : PySem.W.codeIn K cd_net_error "net_error" = true) (q_net_error : PySem.W.keepIn K (.ref f_net_error) = true)
    (p_nexts : PySem.W.nsIn K mainGlobals "nexts" = some (some (.ref f_nexts))) (l_nexts : K.lookup f_nexts = some ⟨oc_nexts, od_nexts, .func (PySem.W.fnOf "nexts" "nexts" (defArgs snexts) (defBody snexts) (defScope snexts) .none kV_nexts dc_nexts pm_nexts an_nexts cd_nexts ct_nexts), sl_nexts⟩) (c_nexts : PySem.W.codeIn K cd_nexts "nexts" = true) (q_nexts : PySem.W.keepIn K (.ref f_nexts) = true)
    (p_befores : PySem.W.nsIn K mainGlobals "befores" = some (some (.ref f_befores))) (l_befores : K.lookup f_befores = some ⟨oc_befores, od_befores, .func (PySem.W.fnOf "befores" "befores" (defArgs sbefores) (defBody sbefores) (defScope sbefores) .none kV_befores dc_befores pm_befores an_befores cd_befores ct_befores), sl_befores⟩) (c_befores : PySem.W.codeIn K cd_befores "befores" = true) (q_befores : PySem.W.keepIn K (.ref f_befores) = true)
    (p_turned : PySem.W.nsIn K mainGlobals "turned" = some (some (.ref f_turned))) (l_turned : K.lookup f_turned = some ⟨oc_turned, od_turned, .func (PySem.W.fnOf "turned" "turned" (defArgs sturned) (defBody sturned) (defScope sturned) .none kV_turned dc_turned pm_turned an_turned cd_turned ct_turned), sl_turned⟩) (c_turned : PySem.W.codeIn K cd_turned "turned" = true) (q_turned : PySem.W.keepIn K (.ref f_turned) = true)
    (p_wider : PySem.W.nsIn K mainGlobals "wider" = some (some (.ref f_wider))) (l_wider : K.lookup f_wider = some ⟨oc_wider, od_wider, .func (PySem.W.fnOf "wider" "wider" (defArgs swider) (defBody swider) (defScope swider) .none kV_wider dc_wider pm_wider an_wider cd_wider ct_wider), sl_wider⟩) (c_wider : PySem.W.codeIn K cd_wider "wider" = true) (q_wider : PySem.W.keepIn K (.ref f_wider) = true)
    (p_laid : PySem.W.nsIn K mainGlobals "laid" = some (some (.ref f_laid))) (l_laid : K.lookup f_laid = some ⟨oc_laid, od_laid, .func (PySem.W.fnOf "laid" "laid" (defArgs slaid) (defBody slaid) (defScope slaid) .none kV_laid dc_laid pm_laid an_laid cd_laid ct_laid), sl_laid⟩) (c_laid : PySem.W.codeIn K cd_laid "laid" = true) (q_laid : PySem.W.keepIn K (.ref f_laid) = true)
    (p_shut : PySem.W.nsIn K mainGlobals "shut" = some (some (.ref f_shut))) (l_shut : K.lookup f_shut = some ⟨oc_shut, od_shut, .func (PySem.W.fnOf "shut" "shut" (defArgs sshut) (defBody sshut) (defScope sshut) .none kV_shut dc_shut pm_shut an_shut cd_shut ct_shut), sl_shut⟩) (c_shut : PySem.W.codeIn K cd_shut "shut" = true) (q_shut : PySem.W.keepIn K (.ref f_shut) = true)
    (p__law_deck : PySem.W.nsIn K mainGlobals "_law_deck" = some (some (.ref f__law_deck))) (l__law_deck : K.lookup f__law_deck = some ⟨oc__law_deck, od__law_deck, .func (PySem.W.fnOf "_law_deck" "_law_deck" (defArgs s_law_deck) (defBody s_law_deck) (defScope s_law_deck) .none kV__law_deck dc__law_deck pm__law_deck an__law_deck cd__law_deck ct__law_deck), sl__law_deck⟩) (c__law_deck : PySem.W.codeIn K cd__law_deck "_law_deck" = true) (q__law_deck : PySem.W.keepIn K (.ref f__law_deck) = true)
    (p__law_draw : PySem.W.nsIn K mainGlobals "_law_draw" = some (some (.ref f__law_draw))) (l__law_draw : K.lookup f__law_draw = some ⟨oc__law_draw, od__law_draw, .func (PySem.W.fnOf "_law_draw" "_law_draw" (defArgs s_law_draw) (defBody s_law_draw) (defScope s_law_draw) .none kV__law_draw dc__law_draw pm__law_draw an__law_draw cd__law_draw ct__law_draw), sl__law_draw⟩) (c__law_draw : PySem.W.codeIn K cd__law_draw "_law_draw" = true) (q__law_draw : PySem.W.keepIn K (.ref f__law_draw) = true)
    (p__law_pick : PySem.W.nsIn K mainGlobals "_law_pick" = some (some (.ref f__law_pick))) (l__law_pick : K.lookup f__law_pick = some ⟨oc__law_pick, od__law_pick, .func (PySem.W.fnOf "_law_pick" "_law_pick" (defArgs s_law_pick) (defBody s_law_pick) (defScope s_law_pick) .none kV__law_pick dc__law_pick pm__law_pick an__law_pick cd__law_pick ct__law_pick), sl__law_pick⟩) (c__law_pick : PySem.W.codeIn K cd__law_pick "_law_pick" = true) (q__law_pick : PySem.W.keepIn K (.ref f__law_pick) = true)
    (p__law_pairs : PySem.W.nsIn K mainGlobals "_law_pairs" = some (some (.ref f__law_pairs))) (l__law_pairs : K.lookup f__law_pairs = some ⟨oc__law_pairs, od__law_pairs, .func (PySem.W.fnOf "_law_pairs" "_law_pairs" (defArgs s_law_pairs) (defBody s_law_pairs) (defScope s_law_pairs) .none kV__law_pairs dc__law_pairs pm__law_pairs an__law_pairs cd__law_pairs ct__law_pairs), sl__law_pairs⟩) (c__law_pairs : PySem.W.codeIn K cd__law_pairs "_law_pairs" = true) (q__law_pairs : PySem.W.keepIn K (.ref f__law_pairs) = true)
    (p__law_net : PySem.W.nsIn K mainGlobals "_law_net" = some (some (.ref f__law_net))) (l__law_net : K.lookup f__law_net = some ⟨oc__law_net, od__law_net, .func (PySem.W.fnOf "_law_net" "_law_net" (defArgs s_law_net) (defBody s_law_net) (defScope s_law_net) .none kV__law_net dc__law_net pm__law_net an__law_net cd__law_net ct__law_net), sl__law_net⟩) (c__law_net : PySem.W.codeIn K cd__law_net "_law_net" = true) (q__law_net : PySem.W.keepIn K (.ref f__law_net) = true)
    (p__law_deed : PySem.W.nsIn K mainGlobals "_law_deed" = some (some (.ref f__law_deed))) (l__law_deed : K.lookup f__law_deed = some ⟨oc__law_deed, od__law_deed, .func (PySem.W.fnOf "_law_deed" "_law_deed" (defArgs s_law_deed) (defBody s_law_deed) (defScope s_law_deed) .none kV__law_deed dc__law_deed pm__law_deed an__law_deed cd__law_deed ct__law_deed), sl__law_deed⟩) (c__law_deed : PySem.W.codeIn K cd__law_deed "_law_deed" = true) (q__law_deed : PySem.W.keepIn K (.ref f__law_deed) = true)
    (p__law_due : PySem.W.nsIn K mainGlobals "_law_due" = some (some (.ref f__law_due))) (l__law_due : K.lookup f__law_due = some ⟨oc__law_due, od__law_due, .func (PySem.W.fnOf "_law_due" "_law_due" (defArgs s_law_due) (defBody s_law_due) (defScope s_law_due) .none kV__law_due dc__law_due pm__law_due an__law_due cd__law_due ct__law_due), sl__law_due⟩) (c__law_due : PySem.W.codeIn K cd__law_due "_law_due" = true) (q__law_due : PySem.W.keepIn K (.ref f__law_due) = true)
    (p__law_rows_hold : PySem.W.nsIn K mainGlobals "_law_rows_hold" = some (some (.ref f__law_rows_hold))) (l__law_rows_hold : K.lookup f__law_rows_hold = some ⟨oc__law_rows_hold, od__law_rows_hold, .func (PySem.W.fnOf "_law_rows_hold" "_law_rows_hold" (defArgs s_law_rows_hold) (defBody s_law_rows_hold) (defScope s_law_rows_hold) .none kV__law_rows_hold dc__law_rows_hold pm__law_rows_hold an__law_rows_hold cd__law_rows_hold ct__law_rows_hold), sl__law_rows_hold⟩) (c__law_rows_hold : PySem.W.codeIn K cd__law_rows_hold "_law_rows_hold" = true) (q__law_rows_hold : PySem.W.keepIn K (.ref f__law_rows_hold) = true)
    (p__law_is_done : PySem.W.nsIn K mainGlobals "_law_is_done" = some (some (.ref f__law_is_done))) (l__law_is_done : K.lookup f__law_is_done = some ⟨oc__law_is_done, od__law_is_done, .func (PySem.W.fnOf "_law_is_done" "_law_is_done" (defArgs s_law_is_done) (defBody s_law_is_done) (defScope s_law_is_done) .none kV__law_is_done dc__law_is_done pm__law_is_done an__law_is_done cd__law_is_done ct__law_is_done), sl__law_is_done⟩) (c__law_is_done : PySem.W.codeIn K cd__law_is_done "_law_is_done" = true) (q__law_is_done : PySem.W.keepIn K (.ref f__law_is_done) = true)
    (p_law : PySem.W.nsIn K mainGlobals "law" = some (some (.ref f_law))) (l_law : K.lookup f_law = some ⟨oc_law, od_law, .func (PySem.W.fnOf "law" "law" (defArgs slaw) (defBody slaw) (defScope slaw) .none kV_law dc_law pm_law an_law cd_law ct_law), sl_law⟩) (c_law : PySem.W.codeIn K cd_law "law" = true) (q_law : PySem.W.keepIn K (.ref f_law) = true)
    (m_MAX_STATIONS : PySem.W.nsIn K mainGlobals "MAX_STATIONS" = some (some (.int 10 t_MAX_STATIONS)))
    (m_MAX_TRACKS : PySem.W.nsIn K mainGlobals "MAX_TRACKS" = some (some (.int 4 t_MAX_TRACKS)))
    (pe_Unfit : PySem.W.nsIn K mainGlobals "Unfit" = some (some (.ref e_Unfit))) (xe_Unfit : PySem.W.excIn K e_Unfit HandSPX.veTail "ValueError.__new__" = true) (ke_Unfit : PySem.W.keepIn K (.ref e_Unfit) = true) (be_Unfit : PySem.W.subIn K (.ref e_Unfit) (.type "BaseException") = some true) (te_Unfit : PySem.W.typeIn K (.ref e_Unfit) = some (.type "type")) (ie_Unfit : PySem.W.isClsIn K e_Unfit = true)
    (me_Unfit_Unfit : PySem.W.subIn K (.ref e_Unfit) (.ref e_Unfit) = some true)
    (z_abs : PySem.W.nsIn K mainGlobals "abs" = some none)
    (z_bool : PySem.W.nsIn K mainGlobals "bool" = some none)
    (z_enumerate : PySem.W.nsIn K mainGlobals "enumerate" = some none)
    (z_int : PySem.W.nsIn K mainGlobals "int" = some none)
    (z_isinstance : PySem.W.nsIn K mainGlobals "isinstance" = some none)
    (z_len : PySem.W.nsIn K mainGlobals "len" = some none)
    (z_range : PySem.W.nsIn K mainGlobals "range" = some none)
    (z_repr : PySem.W.nsIn K mainGlobals "repr" = some none)
    (z_sorted : PySem.W.nsIn K mainGlobals "sorted" = some none)
    (z_tuple : PySem.W.nsIn K mainGlobals "tuple" = some none)
    (hT : ∀ d, IsDeck "deep" "state" d → TrueEnd (g_law (lawEnv 12 d))) :
    ∃ fd : FuncData, (∀ (s : Shared) (v : Value), BindsTo s fd ⟨[v], []⟩ [("script", v)]) ∧ ∀ base : Heap, K.In base → base.Ns mainGlobals mg → FnG l.prog w K mg base CX0 6 fa fd ["script"] (SpLaw K) := by
  have e := hfa.symm.trans (PySem.W.mg_of X G p_law)
  cases e
  have F_is_integer := fun_mk (st := sis_integer) l_is_integer c_is_integer q_is_integer
  have F_is_within := fun_mk (st := sis_within) l_is_within c_is_within q_is_within
  have F_is_row := fun_mk (st := sis_row) l_is_row c_is_row q_is_row
  have F_is_pair := fun_mk (st := sis_pair) l_is_pair c_is_pair q_is_pair
  have F__is_line := fun_mk (st := s_is_line) l__is_line c__is_line q__is_line
  have F__is_built := fun_mk (st := s_is_built) l__is_built c__is_built q__is_built
  have F_net_error := fun_mk (st := snet_error) l_net_error c_net_error q_net_error
  have F_nexts := fun_mk (st := snexts) l_nexts c_nexts q_nexts
  have F_befores := fun_mk (st := sbefores) l_befores c_befores q_befores
  have F_turned := fun_mk (st := sturned) l_turned c_turned q_turned
  have F_wider := fun_mk (st := swider) l_wider c_wider q_wider
  have F_laid := fun_mk (st := slaid) l_laid c_laid q_laid
  have F_shut := fun_mk (st := sshut) l_shut c_shut q_shut
  have F__law_deck := fun_mk (st := s_law_deck) l__law_deck c__law_deck q__law_deck
  have F__law_draw := fun_mk (st := s_law_draw) l__law_draw c__law_draw q__law_draw
  have F__law_pick := fun_mk (st := s_law_pick) l__law_pick c__law_pick q__law_pick
  have F__law_pairs := fun_mk (st := s_law_pairs) l__law_pairs c__law_pairs q__law_pairs
  have F__law_net := fun_mk (st := s_law_net) l__law_net c__law_net q__law_net
  have F__law_deed := fun_mk (st := s_law_deed) l__law_deed c__law_deed q__law_deed
  have F__law_due := fun_mk (st := s_law_due) l__law_due c__law_due q__law_due
  have F__law_rows_hold := fun_mk (st := s_law_rows_hold) l__law_rows_hold c__law_rows_hold q__law_rows_hold
  have F__law_is_done := fun_mk (st := s_law_is_done) l__law_is_done c__law_is_done q__law_is_done
  have F_law := fun_mk (st := slaw) l_law c_law q_law
  have t : T K mg := {
    b_abs := PySem.W.mg_none_of X G z_abs,
    b_bool := PySem.W.mg_none_of X G z_bool,
    b_enumerate := PySem.W.mg_none_of X G z_enumerate,
    b_int := PySem.W.mg_none_of X G z_int,
    b_isinstance := PySem.W.mg_none_of X G z_isinstance,
    b_len := PySem.W.mg_none_of X G z_len,
    b_range := PySem.W.mg_none_of X G z_range,
    b_repr := PySem.W.mg_none_of X G z_repr,
    b_sorted := PySem.W.mg_none_of X G z_sorted,
    b_tuple := PySem.W.mg_none_of X G z_tuple,
    t_MAX_STATIONS := t_MAX_STATIONS, c_MAX_STATIONS := PySem.W.mg_of X G m_MAX_STATIONS,
    t_MAX_TRACKS := t_MAX_TRACKS, c_MAX_TRACKS := PySem.W.mg_of X G m_MAX_TRACKS,
    e_Unfit := e_Unfit, xe_Unfit := xe_Unfit, ge_Unfit := PySem.W.mg_of X G pe_Unfit, ke_Unfit := ke_Unfit, be_Unfit := be_Unfit, te_Unfit := te_Unfit,
    me_Unfit_Unfit := exm_by be_Unfit ie_Unfit te_Unfit me_Unfit_Unfit,
    a_is_integer := f_is_integer, d_is_integer := _, F_is_integer := F_is_integer, g_is_integer := PySem.W.mg_of X G p_is_integer, n_is_integer := F_is_integer.binds (ps := ["value"]) fun _ _ _ _ _ _ us hl => match us, hl with | [_], _ => rfl,
    a_is_within := f_is_within, d_is_within := _, F_is_within := F_is_within, g_is_within := PySem.W.mg_of X G p_is_within, n_is_within := F_is_within.binds (ps := ["value", "least", "most"]) fun _ _ _ _ _ _ us hl => match us, hl with | [_, _, _], _ => rfl,
    a_is_row := f_is_row, d_is_row := _, F_is_row := F_is_row, g_is_row := PySem.W.mg_of X G p_is_row, n_is_row := F_is_row.binds (ps := ["value", "many"]) fun _ _ _ _ _ _ us hl => match us, hl with | [_, _], _ => rfl,
    a_is_pair := f_is_pair, d_is_pair := _, F_is_pair := F_is_pair, g_is_pair := PySem.W.mg_of X G p_is_pair, n_is_pair := F_is_pair.binds (ps := ["value"]) fun _ _ _ _ _ _ us hl => match us, hl with | [_], _ => rfl,
    a__is_line := f__is_line, d__is_line := _, F__is_line := F__is_line, g__is_line := PySem.W.mg_of X G p__is_line, n__is_line := F__is_line.binds (ps := ["value", "many"]) fun _ _ _ _ _ _ us hl => match us, hl with | [_, _], _ => rfl,
    a__is_built := f__is_built, d__is_built := _, F__is_built := F__is_built, g__is_built := PySem.W.mg_of X G p__is_built, n__is_built := F__is_built.binds (ps := ["value"]) fun _ _ _ _ _ _ us hl => match us, hl with | [_], _ => rfl,
    a_net_error := f_net_error, d_net_error := _, F_net_error := F_net_error, g_net_error := PySem.W.mg_of X G p_net_error, n_net_error := F_net_error.binds (ps := ["value"]) fun _ _ _ _ _ _ us hl => match us, hl with | [_], _ => rfl,
    a_nexts := f_nexts, d_nexts := _, F_nexts := F_nexts, g_nexts := PySem.W.mg_of X G p_nexts, n_nexts := F_nexts.binds (ps := ["net", "station"]) fun _ _ _ _ _ _ us hl => match us, hl with | [_, _], _ => rfl,
    a_befores := f_befores, d_befores := _, F_befores := F_befores, g_befores := PySem.W.mg_of X G p_befores, n_befores := F_befores.binds (ps := ["net", "station"]) fun _ _ _ _ _ _ us hl => match us, hl with | [_, _], _ => rfl,
    a_turned := f_turned, d_turned := _, F_turned := F_turned, g_turned := PySem.W.mg_of X G p_turned, n_turned := F_turned.binds (ps := ["net"]) fun _ _ _ _ _ _ us hl => match us, hl with | [_], _ => rfl,
    a_wider := f_wider, d_wider := _, F_wider := F_wider, g_wider := PySem.W.mg_of X G p_wider, n_wider := F_wider.binds (ps := ["net", "station"]) fun _ _ _ _ _ _ us hl => match us, hl with | [_, _], _ => rfl,
    a_laid := f_laid, d_laid := _, F_laid := F_laid, g_laid := PySem.W.mg_of X G p_laid, n_laid := F_laid.binds (ps := ["net", "origin", "target"]) fun _ _ _ _ _ _ us hl => match us, hl with | [_, _, _], _ => rfl,
    a_shut := f_shut, d_shut := _, F_shut := F_shut, g_shut := PySem.W.mg_of X G p_shut, n_shut := F_shut.binds (ps := ["net", "origin", "target"]) fun _ _ _ _ _ _ us hl => match us, hl with | [_, _, _], _ => rfl,
    a__law_deck := f__law_deck, d__law_deck := _, F__law_deck := F__law_deck, g__law_deck := PySem.W.mg_of X G p__law_deck, n__law_deck := F__law_deck.binds (ps := ["script"]) fun _ _ _ _ _ _ us hl => match us, hl with | [_], _ => rfl,
    a__law_draw := f__law_draw, d__law_draw := _, F__law_draw := F__law_draw, g__law_draw := PySem.W.mg_of X G p__law_draw, n__law_draw := F__law_draw.binds (ps := ["deck", "many"]) fun _ _ _ _ _ _ us hl => match us, hl with | [_, _], _ => rfl,
    a__law_pick := f__law_pick, d__law_pick := _, F__law_pick := F__law_pick, g__law_pick := PySem.W.mg_of X G p__law_pick, n__law_pick := F__law_pick.binds (ps := ["deck", "items"]) fun _ _ _ _ _ _ us hl => match us, hl with | [_, _], _ => rfl,
    a__law_pairs := f__law_pairs, d__law_pairs := _, F__law_pairs := F__law_pairs, g__law_pairs := PySem.W.mg_of X G p__law_pairs, n__law_pairs := F__law_pairs.binds (ps := ["size"]) fun _ _ _ _ _ _ us hl => match us, hl with | [_], _ => rfl,
    a__law_net := f__law_net, d__law_net := _, F__law_net := F__law_net, g__law_net := PySem.W.mg_of X G p__law_net, n__law_net := F__law_net.binds (ps := ["deck", "size"]) fun _ _ _ _ _ _ us hl => match us, hl with | [_, _], _ => rfl,
    a__law_deed := f__law_deed, d__law_deed := _, F__law_deed := F__law_deed, g__law_deed := PySem.W.mg_of X G p__law_deed, n__law_deed := F__law_deed.binds (ps := ["word", "net", "one", "other"]) fun _ _ _ _ _ _ us hl => match us, hl with | [_, _, _, _], _ => rfl,
    a__law_due := f__law_due, d__law_due := _, F__law_due := F__law_due, g__law_due := PySem.W.mg_of X G p__law_due, n__law_due := F__law_due.binds (ps := ["word", "net", "one", "other"]) fun _ _ _ _ _ _ us hl => match us, hl with | [_, _, _, _], _ => rfl,
    a__law_rows_hold := f__law_rows_hold, d__law_rows_hold := _, F__law_rows_hold := F__law_rows_hold, g__law_rows_hold := PySem.W.mg_of X G p__law_rows_hold, n__law_rows_hold := F__law_rows_hold.binds (ps := ["net"]) fun _ _ _ _ _ _ us hl => match us, hl with | [_], _ => rfl,
    a__law_is_done := f__law_is_done, d__law_is_done := _, F__law_is_done := F__law_is_done, g__law_is_done := PySem.W.mg_of X G p__law_is_done, n__law_is_done := F__law_is_done.binds (ps := ["word", "net", "one", "other"]) fun _ _ _ _ _ _ us hl => match us, hl with | [_, _, _, _], _ => rfl }
  exact ⟨_, fun s v => .of_eq rfl, fun base _ _ => G_law t F_law hT⟩
end Pu.L
open PySem PySem.W PyProof.Rows
set_option maxHeartbeats 0 in
theorem PySem.Challenge.cw_singlegates_k02_whole_lines_of_nets_holds : PySem.Challenge.rw_singlegates_k02_whole_lines_of_nets.Holds := by
  w_on; o_law; k_head; (case hw => w_witness2)
  k_fill
  refine Pu.walkG (l := PySem.Challenge.rw_singlegates_k02_whole_lines_of_nets) (n := 63) (k := 6) rfl (by decide) rfl ⟨rfl, by decide, by decide⟩ (fun w h Y => PySem.W.kIn_of Y) ?hq (fun w => rfl) ?F
  case hq => decide +kernel
  case F =>
    intro w mg fa h KX G hmg
    refine' Pu.L.all_mk KX G hmg ?p_is_integer ?l_is_integer ?c_is_integer ?q_is_integer ?p_is_within ?l_is_within ?c_is_within ?q_is_within ?p_is_row ?l_is_row ?c_is_row ?q_is_row ?p_is_pair ?l_is_pair ?c_is_pair ?q_is_pair ?p__is_line ?l__is_line ?c__is_line ?q__is_line ?p__is_built ?l__is_built ?c__is_built ?q__is_built ?p_net_error ?l_net_error ?c_net_error ?q_net_error ?p_nexts ?l_nexts ?c_nexts ?q_nexts ?p_befores ?l_befores ?c_befores ?q_befores ?p_turned ?l_turned ?c_turned ?q_turned ?p_wider ?l_wider ?c_wider ?q_wider ?p_laid ?l_laid ?c_laid ?q_laid ?p_shut ?l_shut ?c_shut ?q_shut ?p__law_deck ?l__law_deck ?c__law_deck ?q__law_deck ?p__law_draw ?l__law_draw ?c__law_draw ?q__law_draw ?p__law_pick ?l__law_pick ?c__law_pick ?q__law_pick ?p__law_pairs ?l__law_pairs ?c__law_pairs ?q__law_pairs ?p__law_net ?l__law_net ?c__law_net ?q__law_net ?p__law_deed ?l__law_deed ?c__law_deed ?q__law_deed ?p__law_due ?l__law_due ?c__law_due ?q__law_due ?p__law_rows_hold ?l__law_rows_hold ?c__law_rows_hold ?q__law_rows_hold ?p__law_is_done ?l__law_is_done ?c__law_is_done ?q__law_is_done ?p_law ?l_law ?c_law ?q_law ?m_MAX_STATIONS ?m_MAX_TRACKS ?pe_Unfit ?xe_Unfit ?ke_Unfit ?be_Unfit ?te_Unfit ?ie_Unfit ?me_Unfit_Unfit ?z_abs ?z_bool ?z_enumerate ?z_int ?z_isinstance ?z_len ?z_range ?z_repr ?z_sorted ?z_tuple Pu.L.law_true
    (case p_is_integer => k_is); (case l_is_integer => k_is); (case c_is_integer => k_is); (case q_is_integer => k_is); (case p_is_within => k_is); (case l_is_within => k_is); (case c_is_within => k_is); (case q_is_within => k_is); (case p_is_row => k_is); (case l_is_row => k_is); (case c_is_row => k_is); (case q_is_row => k_is); (case p_is_pair => k_is); (case l_is_pair => k_is); (case c_is_pair => k_is); (case q_is_pair => k_is); (case p__is_line => k_is); (case l__is_line => k_is); (case c__is_line => k_is); (case q__is_line => k_is); (case p__is_built => k_is); (case l__is_built => k_is); (case c__is_built => k_is); (case q__is_built => k_is); (case p_net_error => k_is); (case l_net_error => k_is); (case c_net_error => k_is); (case q_net_error => k_is); (case p_nexts => k_is); (case l_nexts => k_is); (case c_nexts => k_is); (case q_nexts => k_is); (case p_befores => k_is); (case l_befores => k_is); (case c_befores => k_is); (case q_befores => k_is); (case p_turned => k_is); (case l_turned => k_is); (case c_turned => k_is); (case q_turned => k_is); (case p_wider => k_is); (case l_wider => k_is); (case c_wider => k_is); (case q_wider => k_is); (case p_laid => k_is); (case l_laid => k_is); (case c_laid => k_is); (case q_laid => k_is); (case p_shut => k_is); (case l_shut => k_is); (case c_shut => k_is); (case q_shut => k_is); (case p__law_deck => k_is); (case l__law_deck => k_is); (case c__law_deck => k_is); (case q__law_deck => k_is); (case p__law_draw => k_is); (case l__law_draw => k_is); (case c__law_draw => k_is); (case q__law_draw => k_is); (case p__law_pick => k_is); (case l__law_pick => k_is); (case c__law_pick => k_is); (case q__law_pick => k_is); (case p__law_pairs => k_is); (case l__law_pairs => k_is); (case c__law_pairs => k_is); (case q__law_pairs => k_is); (case p__law_net => k_is); (case l__law_net => k_is); (case c__law_net => k_is); (case q__law_net => k_is); (case p__law_deed => k_is); (case l__law_deed => k_is); (case c__law_deed => k_is); (case q__law_deed => k_is); (case p__law_due => k_is); (case l__law_due => k_is); (case c__law_due => k_is); (case q__law_due => k_is); (case p__law_rows_hold => k_is); (case l__law_rows_hold => k_is); (case c__law_rows_hold => k_is); (case q__law_rows_hold => k_is); (case p__law_is_done => k_is); (case l__law_is_done => k_is); (case c__law_is_done => k_is); (case q__law_is_done => k_is); (case p_law => k_is); (case l_law => k_is); (case c_law => k_is); (case q_law => k_is); (case m_MAX_STATIONS => k_is); (case m_MAX_TRACKS => k_is); (case pe_Unfit => k_is); (case xe_Unfit => k_exc); (case ke_Unfit => k_is); (case be_Unfit => k_is); (case te_Unfit => k_is); (case ie_Unfit => k_is); (case me_Unfit_Unfit => first | rfl | k_is); (case z_abs => k_is); (case z_bool => k_is); (case z_enumerate => k_is); (case z_int => k_is); (case z_isinstance => k_is); (case z_len => k_is); (case z_range => k_is); (case z_repr => k_is); (case z_sorted => k_is); (case z_tuple => k_is)

