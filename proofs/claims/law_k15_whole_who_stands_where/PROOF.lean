import PyProof.Rows.All
import Wide.All
import OpenK.AllK
import Wide.FinOn
import HandS.ForMost
import HandS.Exc
import HandS.WordsExc
import HandS.Walk
import HandS.Deep
import KE.GoesNew
import HandS.IsInst
import HandS.TupLe
import HandS.TupAny
import HandS.TupMul
import HandS.More
import KE.SortData
import PyProof.P3In
import HandS.TryOnly
import HandS.ExcOwn
import HandS.Conv
import HandS.Text
import HandS.StrMore
import HandS.FStr
import KE.OsSort
import HandS.TupSets
import HandS.Flt
import HandS.SetFor
import PySem.Challenge.RW_singlegates_k15_whole_who_stands_where
set_option Elab.async false
set_option linter.all false
set_option maxRecDepth 100000
namespace Pu
open PySem PySem.Spec PyProof.Rows L2
abbrev D := PyData
def kD : Key → D
  | .inl i => .int i
  | .inr x => .str x
mutual
def Den (K : PySem.W.Frag) (F : Hp) : D → V → Prop
  | .none, v => v = .non
  | .bool b, v => v = .bl b
  | .int i, v => v = .int i
  | .str x, v => v = .str x
  | .list ds, v => ∃ a xs, v = .ref a ∧ F a = some (.lst xs) ∧ Dens K F ds xs
  | .tuple ds, v => ∃ a xs, v = .ref a ∧ SqT K F a xs ∧ Dens K F ds xs
  | .dict es, v => ∃ a kvs, v = .ref a ∧ F a = some (.dK kvs) ∧ DenKV K F es kvs
def Dens (K : PySem.W.Frag) (F : Hp) : List D → List V → Prop
  | [], vs => vs = []
  | d :: ds, vs => ∃ v r, vs = v :: r ∧ Den K F d v ∧ Dens K F ds r
def DenKV (K : PySem.W.Frag) (F : Hp) : List (D × D) → List (Key × V) → Prop
  | [], l => l = []
  | (k, d) :: es, l => ∃ k' v r, l = (k', v) :: r ∧ k = kD k' ∧ Den K F d v ∧ DenKV K F es r
end
def Ex (H H' : Hp) : Prop := ∀ a o, H a = some o → H' a = some o
theorem Ex.refl (H : Hp) : Ex H H := fun _ _ h => h
theorem Ex.trans {H H1 H2 : Hp} (a : Ex H H1) (b : Ex H1 H2) : Ex H H2 := fun x o h => b x o (a x o h)
/-- what stands at the modules' place is tracked, and no list -/
def SyF (F : Hp) : Prop := ∃ o, F sysModules = some o ∧ ∀ xs, o ≠ .lst xs
theorem SyF.mono {F F' : Hp} (h : SyF F) (e : Ex F F') : SyF F' := let ⟨o, h1, h2⟩ := h; ⟨o, e _ _ h1, h2⟩
theorem SyF.ne {F : Hp} (h : SyF F) {a : Addr} {xs : List V} (e : F a = some (.lst xs)) : sysModules ≠ a := fun z => by
  obtain ⟨o, h1, h2⟩ := h
  rw [z, e] at h1
  exact h2 xs (Option.some.inj h1).symm
theorem Ex.new {H : Hp} {p : Addr} {o : HO} (h : H p = none) : Ex H (upd H p o) := fun a u e => by
  rw [upd_ne (ne_of_none e h)]
  exact e
theorem ex_rd {H H' : Hp} {a : Addr} {u : HO} (e : Ex H H') (h : Rd H a u) : Rd H' a u := by
  rcases h with h | ⟨o, h⟩
  · exact Or.inl (e a _ h)
  · exact Or.inr ⟨o, e a _ h⟩
theorem ex_l {K : PySem.W.Frag} {H H' : Hp} {a : Addr} {xs : List V} (e : Ex H H') (h : SqL K H a xs) : SqL K H' a xs := by
  rcases h with h | h
  · exact Or.inl (ex_rd e h)
  · exact Or.inr h
theorem ex_t {K : PySem.W.Frag} {H H' : Hp} {a : Addr} {xs : List V} (e : Ex H H') (h : SqT K H a xs) : SqT K H' a xs := by
  rcases h with h | h
  · exact Or.inl (ex_rd e h)
  · exact Or.inr h
section
variable {K : PySem.W.Frag} {F F' : Hp}
mutual
theorem den_mono (e : Ex F F') : ∀ (d : D) (v : V), Den K F d v → Den K F' d v
  | .none, _, h => by simpa only [Den] using h
  | .bool _, _, h => by simpa only [Den] using h
  | .int _, _, h => by simpa only [Den] using h
  | .str _, _, h => by simpa only [Den] using h
  | .list ds, v, h => by
    simp only [Den] at h ⊢
    obtain ⟨a, xs, h1, h2, h3⟩ := h
    exact ⟨a, xs, h1, e _ _ h2, dens_mono e ds xs h3⟩
  | .tuple ds, v, h => by
    simp only [Den] at h ⊢
    obtain ⟨a, xs, h1, h2, h3⟩ := h
    exact ⟨a, xs, h1, ex_t e h2, dens_mono e ds xs h3⟩
  | .dict es, v, h => by
    simp only [Den] at h ⊢
    obtain ⟨a, xs, h1, h2, h3⟩ := h
    exact ⟨a, xs, h1, e _ _ h2, denkv_mono e es xs h3⟩
theorem dens_mono (e : Ex F F') : ∀ (ds : List D) (vs : List V), Dens K F ds vs → Dens K F' ds vs
  | [], vs, h => by simpa only [Dens] using h
  | d :: ds, vs, h => by
    simp only [Dens] at h ⊢
    obtain ⟨v, r, h1, h2, h3⟩ := h
    exact ⟨v, r, h1, den_mono e d v h2, dens_mono e ds r h3⟩
theorem denkv_mono (e : Ex F F') : ∀ (es : List (D × D)) (l : List (Key × V)), DenKV K F es l → DenKV K F' es l
  | [], l, h => by simpa only [DenKV] using h
  | (k, d) :: es, l, h => by
    simp only [DenKV] at h ⊢
    obtain ⟨k', v, r, h1, h2, h3, h4⟩ := h
    exact ⟨k', v, r, h1, h2, den_mono e d v h3, denkv_mono e es r h4⟩
end
end
end Pu

namespace Pu
open PySem PySem.Spec PyProof.Rows L2
/-- owned things that are handed on and changed in place -/
inductive Cell where
  | im (d : D)
  | fl (ds : List D)
inductive Ab where
  | deck (k1 k2 : Str) (far : List Nat) (st : Fin 2305843009213693952)
  | sc (ns : List Int)
  | dc (es : List (Key × Cell))
  | ll (cs : List (List D))
  | fl (ds : List D)
inductive SV where
  | im (d : D)
  | ls (ds : List D)
  | ab (t : Ab)
abbrev PEnv := List (Option SV)
structure Exn where
  cls : Value
  fs : Option (List (Str × D))
inductive Opd where
  | val (d : D)
  | slot (i : Nat)
  | tmp (ds : List D)
  | tab (t : Ab)
inductive Res (α : Type) where
  | ok (a : α) (e : PEnv)
  | exc (x : Exn) (e : PEnv)
  | bad
abbrev PM (α : Type) := PEnv → Res α
def bnd {α β : Type} (m : PM α) (f : α → PM β) : PM β := fun e => match m e with
  | .ok a e' => f a e'
  | .exc x e' => .exc x e'
  | .bad => .bad
def ret {α : Type} (a : α) : PM α := fun e => .ok a e
def oops {α : Type} : PM α := fun _ => .bad
def lift {α : Type} : Option α → PM α
  | some a => ret a
  | none => oops
/-- the cells of an owned dict, of an owned list of lists: what they own is in the footprint -/
def CellsAt (K : PySem.W.Frag) (F H : Hp) : List (Key × Cell) → List (Key × V) → List Addr → Prop
  | [], kvs, fp => kvs = [] ∧ fp = []
  | (k, .im d) :: es, kvs, fp => ∃ v r, kvs = (k, v) :: r ∧ Den K F d v ∧ CellsAt K F H es r fp
  | (k, .fl ds) :: es, kvs, fp => ∃ b r fr xs, kvs = (k, .ref b) :: r ∧ fp = b :: fr ∧ b ∉ fr ∧ H b = some (.lst xs) ∧ Dens K F ds xs ∧ CellsAt K F H es r fr
def RowsAt (K : PySem.W.Frag) (F H : Hp) : List (List D) → List V → List Addr → Prop
  | [], vs, fp => vs = [] ∧ fp = []
  | ds :: cs, vs, fp => ∃ b r fr xs, vs = .ref b :: r ∧ fp = b :: fr ∧ b ∉ fr ∧ H b = some (.lst xs) ∧ Dens K F ds xs ∧ RowsAt K F H cs r fr
def AbAt (K : PySem.W.Frag) (F H : Hp) : Ab → V → List Addr → Prop
  | .deck k1 k2 far st, v, fp => ∃ a b, v = .ref a ∧ fp = [a, b] ∧ a ≠ b ∧ H a = some (.dK [(Sum.inr k1, .ref b), (Sum.inr k2, .int (st.val : Int))]) ∧ H b = some (.lst (far.map fun (n : Nat) => V.int (n : Int)))
  | .sc ns, v, fp => ∃ a, v = .ref a ∧ fp = [] ∧ SqL K F a (ns.map V.int)
  | .dc es, v, fp => ∃ a kvs fr, v = .ref a ∧ fp = a :: fr ∧ a ∉ fr ∧ H a = some (.dK kvs) ∧ CellsAt K F H es kvs fr
  | .ll cs, v, fp => ∃ a vs fr, v = .ref a ∧ fp = a :: fr ∧ a ∉ fr ∧ H a = some (.lst vs) ∧ RowsAt K F H cs vs fr
  | .fl ds, v, fp => ∃ a xs, v = .ref a ∧ fp = [a] ∧ H a = some (.lst xs) ∧ Dens K F ds xs
theorem cells_keep {K : PySem.W.Frag} {F F' H H' : Hp} (e : Ex F F') : ∀ {es : List (Key × Cell)} {kvs : List (Key × V)} {fp : List Addr}, CellsAt K F H es kvs fp → (∀ a o, a ∈ fp → H a = some o → H' a = some o) → CellsAt K F' H' es kvs fp
  | [], _, _, h, _ => h
  | (k, .im d) :: es, _, _, ⟨v, r, h1, h2, h3⟩, kk => ⟨v, r, h1, den_mono e d v h2, cells_keep e h3 kk⟩
  | (k, .fl ds) :: es, _, _, ⟨b, r, fr, xs, h1, h2, h3, h4, h5, h6⟩, kk => by
    subst h2
    exact ⟨b, r, fr, xs, h1, rfl, h3, kk _ _ (List.mem_cons_self ..) h4, dens_mono e ds xs h5, cells_keep e h6 fun a o ha => kk a o (List.mem_cons_of_mem _ ha)⟩
theorem rows_keep {K : PySem.W.Frag} {F F' H H' : Hp} (e : Ex F F') : ∀ {cs : List (List D)} {vs : List V} {fp : List Addr}, RowsAt K F H cs vs fp → (∀ a o, a ∈ fp → H a = some o → H' a = some o) → RowsAt K F' H' cs vs fp
  | [], _, _, h, _ => h
  | ds :: cs, _, _, ⟨b, r, fr, xs, h1, h2, h3, h4, h5, h6⟩, kk => by
    subst h2
    exact ⟨b, r, fr, xs, h1, rfl, h3, kk _ _ (List.mem_cons_self ..) h4, dens_mono e ds xs h5, rows_keep e h6 fun a o ha => kk a o (List.mem_cons_of_mem _ ha)⟩
theorem cells_in {K : PySem.W.Frag} {F H : Hp} : ∀ {es : List (Key × Cell)} {kvs : List (Key × V)} {fp : List Addr}, CellsAt K F H es kvs fp → ∀ a ∈ fp, H a ≠ none
  | [], _, _, ⟨_, h⟩, a, ha => by subst h; cases ha
  | (k, .im d) :: es, _, _, ⟨v, r, h1, h2, h3⟩, a, ha => cells_in h3 a ha
  | (k, .fl ds) :: es, _, _, ⟨b, r, fr, xs, h1, h2, h3, h4, h5, h6⟩, a, ha => by
    subst h2
    rcases List.mem_cons.mp ha with rfl | ha
    · rw [h4]; simp
    · exact cells_in h6 a ha
theorem rows_in {K : PySem.W.Frag} {F H : Hp} : ∀ {cs : List (List D)} {vs : List V} {fp : List Addr}, RowsAt K F H cs vs fp → ∀ a ∈ fp, H a ≠ none
  | [], _, _, ⟨_, h⟩, a, ha => by subst h; cases ha
  | ds :: cs, _, _, ⟨b, r, fr, xs, h1, h2, h3, h4, h5, h6⟩, a, ha => by
    subst h2
    rcases List.mem_cons.mp ha with rfl | ha
    · rw [h4]; simp
    · exact rows_in h6 a ha
theorem abAt_keep {K : PySem.W.Frag} {F F' H H' : Hp} {t : Ab} {v : V} {fp : List Addr} (e : Ex F F') (h : AbAt K F H t v fp) (k : ∀ a o, a ∈ fp → H a = some o → H' a = some o) : AbAt K F' H' t v fp := by
  cases t with
  | deck k1 k2 far st =>
    obtain ⟨a, b, h1, h2, h3, h4, h5⟩ := h
    subst h2
    exact ⟨a, b, h1, rfl, h3, k _ _ (by simp) h4, k _ _ (by simp) h5⟩
  | sc ns =>
    obtain ⟨a, h1, h2, h3⟩ := h
    exact ⟨a, h1, h2, ex_l e h3⟩
  | dc es =>
    obtain ⟨a, kvs, fr, h1, h2, h3, h4, h5⟩ := h
    subst h2
    exact ⟨a, kvs, fr, h1, rfl, h3, k _ _ (by simp) h4, cells_keep e h5 fun b o hb => k b o (List.mem_cons_of_mem _ hb)⟩
  | ll cs =>
    obtain ⟨a, vs, fr, h1, h2, h3, h4, h5⟩ := h
    subst h2
    exact ⟨a, vs, fr, h1, rfl, h3, k _ _ (by simp) h4, rows_keep e h5 fun b o hb => k b o (List.mem_cons_of_mem _ hb)⟩
  | fl ds =>
    obtain ⟨a, xs, h1, h2, h3, h4⟩ := h
    subst h2
    exact ⟨a, xs, h1, rfl, k _ _ (by simp) h3, dens_mono e ds xs h4⟩
theorem abAt_in {K : PySem.W.Frag} {F H : Hp} {t : Ab} {v : V} {fp : List Addr} (h : AbAt K F H t v fp) : ∀ a ∈ fp, H a ≠ none := by
  cases t with
  | deck k1 k2 far st =>
    obtain ⟨a, b, h1, h2, h3, h4, h5⟩ := h
    subst h2
    intro c hc
    simp only [List.mem_cons, List.not_mem_nil, or_false] at hc
    rcases hc with rfl | rfl
    · rw [h4]; simp
    · rw [h5]; simp
  | sc ns =>
    obtain ⟨a, h1, h2, h3⟩ := h
    subst h2
    intro c hc
    cases hc
  | dc es =>
    obtain ⟨a, kvs, fr, h1, h2, h3, h4, h5⟩ := h
    subst h2
    intro c hc
    rcases List.mem_cons.mp hc with rfl | hc
    · rw [h4]; simp
    · exact cells_in h5 c hc
  | ll cs =>
    obtain ⟨a, vs, fr, h1, h2, h3, h4, h5⟩ := h
    subst h2
    intro c hc
    rcases List.mem_cons.mp hc with rfl | hc
    · rw [h4]; simp
    · exact rows_in h5 c hc
  | fl ds =>
    obtain ⟨a, xs, h1, h2, h3, h4⟩ := h
    subst h2
    intro c hc
    have : c = a := by simpa using hc
    rw [this, h3]; simp
/-- what a slot stands for -/
def Sl (K : PySem.W.Frag) (F H : Hp) (fp : List Addr) : SV → V → Prop
  | .im d, v => Den K F d v
  | .ls ds, v => ∃ a xs, v = .ref a ∧ fp = [a] ∧ H a = some (.lst xs) ∧ Dens K F ds xs
  | .ab t, v => AbAt K F H t v fp
/-- what a run starts from: the heap, its frozen part; what stood there and may be changed, may be frozen; the thing that slot 0 has borrowed -/
structure Ct where
  H0 : Hp
  F0 : Hp
  mu : Addr → Prop
  fz : Addr → Prop
  br : List (Nat × Addr × List Addr)
structure Rel (K : PySem.W.Frag) (c : Ct) (fp : Nat → List Addr) (F : Hp) (env : PEnv) (σ : L2.St) (H : Hp) : Prop where
  f0 : Ex c.F0 F
  sy : SyF F
  fh : Ex F H
  kp : ∀ q o, c.H0 q = some o → ¬ c.mu q → H q = some o
  al : ∀ q, c.H0 q ≠ none → H q ≠ none
  nw : ∀ q, F q ≠ none → c.F0 q ≠ none ∨ c.H0 q = none ∨ c.fz q
  ln : env.length = σ.length
  sl : ∀ i o, env[i]? = some (some o) → ∃ v, σ[i]? = some (some v) ∧ Sl K F H (fp i) o v
  ow : ∀ i a, a ∈ fp i → F a = none ∧ H a ≠ none ∧ (c.mu a ∨ c.H0 a = none)
  lf : ∀ i ds a, env[i]? = some (some (.ls ds)) → a ∈ fp i → c.H0 a = none ∨ c.fz a
  ds : ∀ i j a, a ∈ fp i → a ∈ fp j → i = j
  bb : ∀ p ∈ c.br, σ[p.1]? = some (some (.ref p.2.1)) ∧ fp p.1 = p.2.2 ∧ ∃ t, env[p.1]? = some (some (.ab t))
def OpdOk (K : PySem.W.Frag) (c : Ct) (fp : Nat → List Addr) (F : Hp) (σ : L2.St) (H : Hp) : Opd → V → Prop
  | .val d, v => Den K F d v
  | .slot i, v => σ[i]? = some (some v)
  | .tmp ds, v => ∃ p xs, v = .ref p ∧ H p = some (.lst xs) ∧ F p = none ∧ c.H0 p = none ∧ (∀ i, p ∉ fp i) ∧ Dens K F ds xs
  | .tab t, v => ∃ fT, AbAt K F H t v fT ∧ ∀ a ∈ fT, F a = none ∧ c.H0 a = none ∧ ∀ i, a ∉ fp i
/-- the outcome of a basic step on values: the heap as it was, or one new object -/
inductive Got (K : PySem.W.Frag) (F H : Hp) : Opd → V → Hp → Prop where
  | same {d v} : Den K F d v → Got K F H (.val d) v H
  | tup {ds xs p} : H p = none → Dens K F ds xs → Got K F H (.val (.tuple ds)) (.ref p) (upd H p (.tup xs))
  | lst {ds xs p} : H p = none → Dens K F ds xs → Got K F H (.tmp ds) (.ref p) (upd H p (.lst xs))
  | dic {es kvs p} : H p = none → DenKV K F es kvs → Got K F H (.val (.dict es)) (.ref p) (upd H p (.dK kvs))
section
variable {K : PySem.W.Frag} {c : Ct} {fp : Nat → List Addr} {F F' : Hp} {env env' : PEnv} {σ : L2.St} {H H' : Hp}
theorem none_of_ex (e : Ex F H) {p : Addr} (h : H p = none) : F p = none := by
  cases q : F p with
  | none => rfl
  | some o => rw [e p o q] at h; cases h
theorem Rel.free (R : Rel K c fp F env σ H) {p : Addr} (h : H p = none) : F p = none ∧ c.H0 p = none ∧ ∀ i, p ∉ fp i := by
  refine ⟨none_of_ex R.fh h, ?_, fun i hi => (R.ow i p hi).2.1 h⟩
  cases q : c.H0 p with
  | none => rfl
  | some o => exact absurd h (R.al p (by rw [q]; simp))
theorem sl_keep {fq : List Addr} {o : SV} {v : V} (e : Ex F F') (k : ∀ a o, a ∈ fq → H a = some o → H' a = some o) (h : Sl K F H fq o v) : Sl K F' H' fq o v := by
  cases o with
  | im d => exact den_mono e d v h
  | ls ds =>
    obtain ⟨a, xs, h1, h2, h3, h4⟩ := h
    exact ⟨a, xs, h1, h2, k _ _ (by rw [h2]; simp) h3, dens_mono e ds xs h4⟩
  | ab t => exact abAt_keep e h k
/-- the general step: the frozen part grows by what is new or was not owned, what was there stays -/
theorem Rel.grow (R : Rel K c fp F env σ H) (e : Ex F F') (eh : Ex F' H') (k : Ex H H') (nw : ∀ q, F' q ≠ none → F q ≠ none ∨ (c.H0 q = none ∧ ∀ i, q ∉ fp i)) : Rel K c fp F' env σ H' where
  lf := R.lf
  f0 := R.f0.trans e
  sy := R.sy.mono e
  fh := eh
  kp := fun q o h1 h2 => k q o (R.kp q o h1 h2)
  al := fun q h => by
    have := R.al q h
    cases z : H q with
    | none => exact absurd z this
    | some o => rw [k q o z]; simp
  nw := fun q h => (nw q h).elim (R.nw q) fun z => .inr (.inl z.1)
  ln := R.ln
  sl := fun i o h => let ⟨v, h1, h2⟩ := R.sl i o h; ⟨v, h1, sl_keep e (fun a u _ z => k a u z) h2⟩
  ow := fun i a h => by
    obtain ⟨h1, h2, h3⟩ := R.ow i a h
    refine ⟨?_, ?_, h3⟩
    · cases z : F' a with
      | none => rfl
      | some u =>
        rcases nw a (by rw [z]; simp) with q | q
        · exact absurd h1 q
        · exact absurd h (q.2 i)
    · cases z : H a with
      | none => exact absurd z h2
      | some o => rw [k a o z]; simp
  ds := R.ds
  bb := R.bb
theorem upd_some {H : Hp} {p q : Addr} {o : HO} (h : upd H p o q ≠ none) : q = p ∨ H q ≠ none := by
  by_cases e : q = p
  · exact .inl e
  · rw [upd_ne e] at h; exact .inr h
theorem ex_upd2 {p : Addr} {o : HO} (e : Ex F H) (h : H p = none) : Ex (upd F p o) (upd H p o) := fun q u z => by
  by_cases hq : q = p
  · subst hq; rw [upd_same] at z ⊢; exact z
  · rw [upd_ne hq] at z ⊢; exact e q u z
/-- a new frozen object -/
theorem Rel.new (R : Rel K c fp F env σ H) {p : Addr} {o : HO} (h : H p = none) : Rel K c fp (upd F p o) env σ (upd H p o) := by
  obtain ⟨h1, h2, h3⟩ := R.free h
  refine R.grow (Ex.new h1) (ex_upd2 R.fh h) (Ex.new h) fun q z => ?_
  rcases upd_some z with rfl | z
  · exact .inr ⟨h2, h3⟩
  · exact .inl z
/-- a new object that is not frozen -/
theorem Rel.newH (R : Rel K c fp F env σ H) {p : Addr} {o : HO} (h : H p = none) : Rel K c fp F env σ (upd H p o) :=
  R.grow (Ex.refl F) (R.fh.trans (Ex.new h)) (Ex.new h) fun q z => .inl z
theorem Rel.got (R : Rel K c fp F env σ H) {o : Opd} {v : V} (g : Got K F H o v H') : ∃ F', Rel K c fp F' env σ H' ∧ Ex F F' ∧ OpdOk K c fp F' σ H' o v := by
  cases g with
  | same h => exact ⟨F, R, Ex.refl F, h⟩
  | @tup ds xs p h1 h2 =>
    obtain ⟨n1, n2, n3⟩ := R.free h1
    refine ⟨_, R.new h1, Ex.new n1, ?_⟩
    show Den K _ (.tuple ds) _
    simp only [Den]
    exact ⟨p, xs, rfl, .inl (.inl upd_same), dens_mono (Ex.new n1) _ _ h2⟩
  | @lst ds xs p h1 h2 =>
    obtain ⟨n1, n2, n3⟩ := R.free h1
    exact ⟨F, R.newH h1, Ex.refl F, p, xs, rfl, upd_same, n1, n2, n3, h2⟩
  | @dic es kvs p h1 h2 =>
    obtain ⟨n1, n2, n3⟩ := R.free h1
    refine ⟨_, R.new h1, Ex.new n1, ?_⟩
    show Den K _ (.dict es) _
    simp only [Den]
    exact ⟨p, kvs, rfl, upd_same, denkv_mono (Ex.new n1) _ _ h2⟩
/-- a new list is frozen -/
theorem Rel.freezeTmp (R : Rel K c fp F env σ H) {ds : List D} {v : V} (h : OpdOk K c fp F σ H (.tmp ds) v) : ∃ F', Rel K c fp F' env σ H ∧ Ex F F' ∧ Den K F' (.list ds) v := by
  obtain ⟨p, xs, h1, h2, h3, h4, h5, h6⟩ := h
  refine ⟨upd F p (.lst xs), R.grow (Ex.new h3) (fun q u z => ?_) (Ex.refl H) (fun q z => ?_), Ex.new h3, ?_⟩
  · by_cases hq : q = p
    · subst hq; rw [upd_same] at z; cases z; exact h2
    · rw [upd_ne hq] at z; exact R.fh q u z
  · rcases upd_some z with rfl | z
    · exact .inr ⟨h4, h5⟩
    · exact .inl z
  · simp only [Den]
    exact ⟨p, xs, h1, upd_same, dens_mono (Ex.new h3) _ _ h6⟩
def fpSet (fp : Nat → List Addr) (i : Nat) (l : List Addr) : Nat → List Addr := fun j => if j = i then l else fp j
theorem fpSet_same {i : Nat} {l : List Addr} : fpSet fp i l i = l := if_pos rfl
theorem fpSet_ne {i j : Nat} {l : List Addr} (h : j ≠ i) : fpSet fp i l j = fp j := if_neg h
theorem get_set_ne' {α : Type} {l : List α} {i j : Nat} {x : α} (h : j ≠ i) : (l.set i x)[j]? = l[j]? := List.getElem?_set_ne (Ne.symm h)
theorem set_some {α : Type} {l : List α} {i : Nat} {x y : α} (h : (l.set i x)[i]? = some y) : y = x ∧ i < l.length := by
  have hl : i < l.length := by
    have := (List.getElem?_eq_some_iff.mp h).1
    simpa using this
  rw [List.getElem?_set_self hl] at h
  exact ⟨(Option.some.inj h).symm, hl⟩
/-- a slot is forgotten, or holds data -/
theorem Rel.put (R : Rel K c fp F env σ H) {i : Nat} {d : D} {v : V} (hb : ∀ q ∈ c.br, q.1 ≠ i) (h : Den K F d v) : Rel K c (fpSet fp i []) F (env.set i (some (.im d))) (σ.set i (some v)) H where
  f0 := R.f0
  sy := R.sy
  fh := R.fh
  kp := R.kp
  al := R.al
  nw := R.nw
  ln := by simp [R.ln]
  sl := fun j o hj => by
    by_cases e : j = i
    · subst e
      obtain ⟨h1, h2⟩ := set_some hj
      cases h1
      refine ⟨v, by rw [List.getElem?_set_self (by rw [← R.ln]; exact h2)], ?_⟩
      exact h
    · rw [get_set_ne' e] at hj ⊢
      rw [fpSet_ne e]
      exact R.sl j o hj
  ow := fun j a ha => by
    by_cases e : j = i
    · subst e; rw [fpSet_same] at ha; cases ha
    · rw [fpSet_ne e] at ha; exact R.ow j a ha
  ds := fun j k a h1 h2 => by
    by_cases e : j = i
    · subst e; rw [fpSet_same] at h1; cases h1
    · by_cases e2 : k = i
      · subst e2; rw [fpSet_same] at h2; cases h2
      · rw [fpSet_ne e] at h1; rw [fpSet_ne e2] at h2; exact R.ds j k a h1 h2
  lf := fun j ds' a hj ha => by
    by_cases e : j = i
    · subst e
      obtain ⟨h1, _⟩ := set_some hj
      cases h1
    · rw [get_set_ne' e] at hj
      rw [fpSet_ne e] at ha
      exact R.lf j ds' a hj ha
  bb := fun a ha => by
    have h0 := hb a ha
    rw [get_set_ne' h0, get_set_ne' h0, fpSet_ne h0]
    exact R.bb a ha
/-- a slot takes an owned thing -/
theorem Rel.putOwn (R : Rel K c fp F env σ H) {i : Nat} {o : SV} {v : V} {l : List Addr} (hb : ∀ q ∈ c.br, q.1 ≠ i) (h : Sl K F H l o v) (hl : ∀ a ∈ l, F a = none ∧ H a ≠ none ∧ c.H0 a = none ∧ ∀ j, a ∉ fp j) :
    Rel K c (fpSet fp i l) F (env.set i (some o)) (σ.set i (some v)) H where
  f0 := R.f0
  sy := R.sy
  fh := R.fh
  kp := R.kp
  al := R.al
  nw := R.nw
  ln := by simp [R.ln]
  sl := fun j o' hj => by
    by_cases e : j = i
    · subst e
      obtain ⟨h1, h2⟩ := set_some hj
      cases h1
      refine ⟨v, by rw [List.getElem?_set_self (by rw [← R.ln]; exact h2)], ?_⟩
      rw [fpSet_same]
      exact h
    · rw [get_set_ne' e] at hj ⊢
      rw [fpSet_ne e]
      exact R.sl j o' hj
  ow := fun j a ha => by
    by_cases e : j = i
    · subst e
      rw [fpSet_same] at ha
      obtain ⟨h1, h2, h3, _⟩ := hl a ha
      exact ⟨h1, h2, .inr h3⟩
    · rw [fpSet_ne e] at ha; exact R.ow j a ha
  ds := fun j k a h1 h2 => by
    by_cases e : j = i
    · by_cases e2 : k = i
      · rw [e, e2]
      · subst e; rw [fpSet_same] at h1; rw [fpSet_ne e2] at h2; exact absurd h2 ((hl a h1).2.2.2 k)
    · by_cases e2 : k = i
      · subst e2; rw [fpSet_same] at h2; rw [fpSet_ne e] at h1; exact absurd h1 ((hl a h2).2.2.2 j)
      · rw [fpSet_ne e] at h1; rw [fpSet_ne e2] at h2; exact R.ds j k a h1 h2
  lf := fun j ds' a hj ha => by
    by_cases e : j = i
    · subst e
      rw [fpSet_same] at ha
      exact .inl (hl a ha).2.2.1
    · rw [get_set_ne' e] at hj
      rw [fpSet_ne e] at ha
      exact R.lf j ds' a hj ha
  bb := fun a ha => by
    have h0 := hb a ha
    rw [get_set_ne' h0, get_set_ne' h0, fpSet_ne h0]
    exact R.bb a ha
/-- an owned thing is changed in place: the slot's footprint stays, what stands outside stays -/
theorem Rel.mutate (R : Rel K c fp F env σ H) {i : Nat} {o o' : SV} {v : V} (hi : env[i]? = some (some o)) (hv : σ[i]? = some (some v)) (hF : Ex F F') (hFH : Ex F' H') (k : ∀ q u, q ∉ fp i → H q = some u → H' q = some u) (al : ∀ q, H q ≠ none → H' q ≠ none)
    (nw : ∀ q, F' q ≠ none → F q ≠ none ∨ (c.H0 q = none ∧ ∀ i, q ∉ fp i)) (h : Sl K F' H' (fp i) o' v) (hk : (∃ t, o = .ab t) → ∃ t, o' = .ab t) (hk2 : (∃ l, o' = .ls l) → ∃ l, o = .ls l) : Rel K c fp F' (env.set i (some o')) σ H' where
  f0 := R.f0.trans hF
  sy := R.sy.mono hF
  fh := hFH
  kp := fun q u h1 h2 => k q u (fun z => by
    rcases (R.ow i q z).2.2 with y | y
    · exact h2 y
    · rw [y] at h1; cases h1) (R.kp q u h1 h2)
  al := fun q hq => al q (R.al q hq)
  nw := fun q hq => (nw q hq).elim (R.nw q) fun z => .inr (.inl z.1)
  lf := fun j ds' a hj ha => by
    by_cases e : j = i
    · subst e
      obtain ⟨h1, _⟩ := set_some hj
      cases h1
      obtain ⟨l, hl⟩ := hk2 ⟨_, rfl⟩
      subst hl
      exact R.lf _ l a hi ha
    · rw [get_set_ne' e] at hj
      exact R.lf j ds' a hj ha
  ln := by simp [R.ln]
  sl := fun j u hj => by
    by_cases e : j = i
    · subst e
      obtain ⟨h1, h2⟩ := set_some hj
      cases h1
      exact ⟨v, hv, h⟩
    · rw [get_set_ne' e] at hj
      obtain ⟨w, h1, h2⟩ := R.sl j u hj
      exact ⟨w, h1, sl_keep hF (fun a x ha z => k a x (fun q => e (R.ds j i a ha q)) z) h2⟩
  ow := fun j a ha => by
    obtain ⟨h1, h2, h3⟩ := R.ow j a ha
    refine ⟨?_, al a h2, h3⟩
    cases z : F' a with
    | none => rfl
    | some u =>
      rcases nw a (by rw [z]; simp) with q | q
      · exact absurd h1 q
      · exact absurd ha (q.2 j)
  ds := R.ds
  bb := fun a ha => by
    obtain ⟨h1, h2, t, h3⟩ := R.bb a ha
    refine ⟨h1, h2, ?_⟩
    by_cases e : a.1 = i
    · subst e
      rw [hi] at h3
      have h4 := Option.some.inj (Option.some.inj h3)
      obtain ⟨t', ht⟩ := hk ⟨t, h4⟩
      refine ⟨t', ?_⟩
      rw [ht, List.getElem?_set_self (List.getElem?_eq_some_iff.mp hi).1]
    · rw [get_set_ne' e]
      exact ⟨t, h3⟩
/-- an owned list is frozen -/
theorem Rel.freeze (R : Rel K c fp F env σ H) {i : Nat} {ds : List D} {v : V} (hi : env[i]? = some (some (.ls ds))) (hv : σ[i]? = some (some v)) :
    ∃ F', Rel K c (fpSet fp i []) F' (env.set i (some (.im (.list ds)))) σ H ∧ Ex F F' ∧ Den K F' (.list ds) v := by
  obtain ⟨w, h1, a, xs, h2, h3, h4, h5⟩ := R.sl i _ hi
  have hw : w = v := by rw [hv] at h1; exact (Option.some.inj (Option.some.inj h1)).symm
  subst hw
  have ha : a ∈ fp i := by rw [h3]; simp
  have h0 : ∀ q ∈ c.br, q.1 ≠ i := fun b hb e => by
    subst e
    obtain ⟨_, _, t, q⟩ := R.bb b hb
    rw [hi] at q
    cases q
  obtain ⟨n1, n2, n3⟩ := R.ow i a ha
  have n4 := R.lf i ds a hi ha
  have only : ∀ j, j ≠ i → a ∉ fp j := fun j hj z => hj (R.ds j i a z ha)
  have e1 : Ex F (upd F a (.lst xs)) := Ex.new n1
  refine ⟨upd F a (.lst xs), ⟨R.f0.trans e1, R.sy.mono e1, fun q u z => ?_, R.kp, R.al, fun q z => ?_, by simp [R.ln], fun j o hj => ?_, fun j b hb => ?_, fun j ds' b hj hb => ?_, fun j k b p q => ?_, fun b hb => ?_⟩, e1, ?_⟩
  · by_cases hq : q = a
    · subst hq; rw [upd_same] at z; cases z; exact h4
    · rw [upd_ne hq] at z; exact R.fh q u z
  · rcases upd_some z with rfl | z
    · exact .inr n4
    · exact R.nw q z
  · by_cases e : j = i
    · subst e
      obtain ⟨z1, z2⟩ := set_some hj
      cases z1
      refine ⟨w, hv, ?_⟩
      show Den K _ (.list ds) w
      simp only [Den]
      exact ⟨a, xs, h2, upd_same, dens_mono e1 _ _ h5⟩
    · rw [get_set_ne' e] at hj
      rw [fpSet_ne e]
      obtain ⟨w', z1, z2⟩ := R.sl j o hj
      exact ⟨w', z1, sl_keep e1 (fun _ _ _ z => z) z2⟩
  · by_cases e : j = i
    · subst e; rw [fpSet_same] at hb; cases hb
    · rw [fpSet_ne e] at hb
      obtain ⟨z1, z2, z3⟩ := R.ow j b hb
      refine ⟨?_, z2, z3⟩
      have hne : b ≠ a := fun z => only j e (z ▸ hb)
      rw [upd_ne hne]
      exact z1
  · by_cases e : j = i
    · subst e
      obtain ⟨z1, _⟩ := set_some hj
      cases z1
    · rw [get_set_ne' e] at hj
      rw [fpSet_ne e] at hb
      exact R.lf j ds' b hj hb
  · by_cases e : j = i
    · subst e; rw [fpSet_same] at p; cases p
    · by_cases e2 : k = i
      · subst e2; rw [fpSet_same] at q; cases q
      · rw [fpSet_ne e] at p; rw [fpSet_ne e2] at q; exact R.ds j k b p q
  · have hi0 := h0 b hb
    rw [get_set_ne' hi0, fpSet_ne hi0]
    exact R.bb b hb
  · simp only [Den]
    exact ⟨a, xs, h2, upd_same, dens_mono e1 _ _ h5⟩
/-- a piece of code that runs on its own: it starts from the state as it stands -/
def Ct.sub (c : Ct) (fp : Nat → List Addr) (F H : Hp) : Ct := ⟨H, F, fun a => ∃ i, a ∈ fp i, fun a => ∃ i, a ∈ fp i ∧ (c.H0 a = none ∨ c.fz a), c.br⟩
theorem Rel.into (R : Rel K c fp F env σ H) : Rel K (c.sub fp F H) fp F env σ H where
  f0 := Ex.refl F
  sy := R.sy
  fh := R.fh
  kp := fun q o h _ => h
  al := fun q h => h
  nw := fun q h => .inl h
  ln := R.ln
  sl := R.sl
  ow := fun i a h => ⟨(R.ow i a h).1, (R.ow i a h).2.1, .inl ⟨i, h⟩⟩
  lf := fun i ds a h1 h2 => .inr ⟨i, h2, R.lf i ds a h1 h2⟩
  ds := R.ds
  bb := R.bb
theorem Rel.outof {fp' : Nat → List Addr} {env' : PEnv} {σ' : L2.St} (R : Rel K c fp F env σ H) (R' : Rel K (c.sub fp F H) fp' F' env' σ' H') : Rel K c fp' F' env' σ' H' where
  f0 := R.f0.trans R'.f0
  sy := R'.sy
  fh := R'.fh
  kp := fun q o h1 h2 => R'.kp q o (R.kp q o h1 h2) fun ⟨i, z⟩ => by
    rcases (R.ow i q z).2.2 with y | y
    · exact h2 y
    · rw [y] at h1; cases h1
  al := fun q h => R'.al q (R.al q h)
  nw := fun q h => by
    rcases R'.nw q h with z | z | z
    · exact R.nw q z
    · refine .inr (.inl ?_)
      cases e : c.H0 q with
      | none => rfl
      | some o => exact absurd z (R.al q (by rw [e]; simp))
    · obtain ⟨_, _, z⟩ := z
      exact .inr z
  ln := R'.ln
  sl := R'.sl
  ow := fun i a h => by
    obtain ⟨h1, h2, h3⟩ := R'.ow i a h
    refine ⟨h1, h2, ?_⟩
    rcases h3 with ⟨j, z⟩ | z
    · exact (R.ow j a z).2.2
    · refine .inr ?_
      cases e : c.H0 a with
      | none => rfl
      | some o => exact absurd z (R.al a (by rw [e]; simp))
  lf := fun i ds a h1 h2 => by
    rcases R'.lf i ds a h1 h2 with z | z
    · refine .inl ?_
      cases e : c.H0 a with
      | none => rfl
      | some o => exact absurd z (R.al a (by rw [e]; simp))
    · obtain ⟨_, _, z⟩ := z
      exact z
  ds := R'.ds
  bb := R'.bb
/-- what stands outside of all that is owned stays, and stays outside -/
theorem Rel.aside {fp' : Nat → List Addr} {env' : PEnv} {σ' : L2.St} (R' : Rel K (c.sub fp F H) fp' F' env' σ' H') {q : Addr} {o : HO} (h1 : H q = some o) (h2 : F q = none) (h3 : ∀ i, q ∉ fp i) : H' q = some o ∧ F' q = none ∧ ∀ i, q ∉ fp' i := by
  refine ⟨R'.kp q o h1 fun ⟨i, z⟩ => h3 i z, ?_, fun i z => ?_⟩
  · cases e : F' q with
    | none => rfl
    | some u =>
      rcases R'.nw q (by rw [e]; simp) with z | z | ⟨i, z, _⟩
      · exact absurd h2 z
      · have z' : H q = none := z
        rw [h1] at z'; cases z'
      · exact absurd z (h3 i)
  · rcases (R'.ow i q z).2.2 with ⟨j, y⟩ | y
    · exact h3 j y
    · have y' : H q = none := y
      rw [h1] at y'; cases y'
end
end Pu

namespace Pu
open PySem PySem.Spec PyProof.Rows L2
/-! ### judgements -/
def FieldsOk (K : PySem.W.Frag) (F : Hp) : List (Str × D) → List (Str × V) → Prop
  | [], l => l = []
  | (k, d) :: es, l => ∃ v r, l = (k, v) :: r ∧ Den K F d v ∧ FieldsOk K F es r
def ExnOk (K : PySem.W.Frag) (F H : Hp) (x : Exn) (d : Option Addr) : Prop :=
  match x.fs with
  | none => d = none
  | some fs => ∃ a l, d = some a ∧ H a = some (.xd l) ∧ FieldsOk K F fs l
/-- the state behind a piece of code -/
def Goes {α : Type} (K : PySem.W.Frag) (c : Ct) (W : WX) (σ : L2.St) (F : Hp) (r : Res α) (G : (Nat → List Addr) → Hp → PEnv → Hp → α → Prop) : Prop :=
  match r with
  | .ok a env' => ∀ fp' F' H', Rel K c fp' F' env' σ H' → Ex F F' → G fp' F' env' H' a
  | .exc x env' => ∀ fp' F' H' d, Rel K c fp' F' env' σ H' → Ex F F' → ExnOk K F' H' x d → W x.cls d σ H'
  | .bad => False
section
variable {K : PySem.W.Frag} {c : Ct} {W : WX} {σ : L2.St} {F F' : Hp} {α β : Type}
theorem Goes.mono {r : Res α} {G G' : (Nat → List Addr) → Hp → PEnv → Hp → α → Prop} (h : Goes K c W σ F r G) (e : Ex F F') (k : ∀ fp1 F1 env1 H1 a, Ex F' F1 → Rel K c fp1 F1 env1 σ H1 → G fp1 F1 env1 H1 a → G' fp1 F1 env1 H1 a) : Goes K c W σ F' r G' := by
  cases r with
  | ok a env' => exact fun fp1 F1 H1 R e1 => k _ _ _ _ _ e1 R (h fp1 F1 H1 R (e.trans e1))
  | exc x env' => exact fun fp1 F1 H1 d R e1 => h fp1 F1 H1 d R (e.trans e1)
  | bad => exact h
theorem Goes.bnd {m : PM α} {k : α → PM β} {env : PEnv} {G : (Nat → List Addr) → Hp → PEnv → Hp → β → Prop} (h : Goes K c W σ F (bnd m k env) G) :
    Goes K c W σ F (m env) fun fp' F' env' H' a => Goes K c W σ F' (k a env') G := by
  unfold Pu.bnd at h
  cases e : m env with
  | ok a env' =>
    rw [e] at h
    exact fun fp1 F1 H1 R e1 => h.mono e1 fun _ _ _ _ _ _ _ g => g
  | exc x env' => rw [e] at h; exact h
  | bad => rw [e] at h; exact h
/-- a step that leaves the environment -/
theorem Goes.lift {o : Option α} {env : PEnv} {G : (Nat → List Addr) → Hp → PEnv → Hp → α → Prop} (h : Goes K c W σ F (lift o env) G) :
    ∃ a, o = some a ∧ ∀ fp' F' H', Rel K c fp' F' env σ H' → Ex F F' → G fp' F' env H' a := by
  cases o with
  | none => exact h.elim
  | some a => exact ⟨a, rfl, h⟩
end
abbrev OkC (c : Ct) (bo : List Nat) : Prop := ∀ q ∈ c.br, q.1 ∈ bo
theorem okc_ne {c : Ct} {bo : List Nat} {i : Nat} (hc : OkC c bo) (hb : bo.contains i = false) : ∀ q ∈ c.br, q.1 ≠ i := fun q hq e => by
  have h1 := hc q hq
  rw [e] at h1
  have h2 : bo.contains i = true := List.contains_iff_mem.mpr h1
  rw [hb] at h2
  cases h2
/-- an expression: what it gives, by the environment -/
def PX (X : Cx) (bo : List Nat) (W : WX) (e : Expr) (f : PM Opd) : Prop :=
  ∃ t, PE X e t ∧ ∀ c fp F env σ H (Q : VK), OkC c bo → Rel X.K c fp F env σ H →
    Goes X.K c W σ F (f env) (fun fp' F' env' H' o => ∀ v, OpdOk X.K c fp' F' σ H' o v → Q v H') → t σ H Q
def PTX (X : Cx) (bo : List Nat) (W : WX) (e : Expr) (f : PM Bool) : Prop :=
  ∃ t, PT X e t ∧ ∀ c fp F env σ H (Q : Bool → Hp → Prop), OkC c bo → Rel X.K c fp F env σ H →
    Goes X.K c W σ F (f env) (fun fp' F' env' H' b => Q b H') → t σ H Q
def PWX (X : Cx) (bo : List Nat) (W : WX) (e : Expr) (f : PM Bool) : Prop :=
  ∃ t, PW X e t ∧ ∀ c fp F env σ H (Q : Bool → Hp → Prop), OkC c bo → Rel X.K c fp F env σ H →
    Goes X.K c W σ F (f env) (fun fp' F' env' H' b => Q b H') → t σ H Q
def OpdsOk (K : PySem.W.Frag) (c : Ct) (fp : Nat → List Addr) (F : Hp) (σ : L2.St) (H : Hp) : List Opd → List V → Prop
  | [], vs => vs = []
  | o :: os, vs => ∃ v r, vs = v :: r ∧ (match o with | .tmp _ => False | .tab _ => False | _ => True) ∧ OpdOk K c fp F σ H o v ∧ OpdsOk K c fp F σ H os r
/-- arguments that are read: data, or slots -/
def PAX (X : Cx) (bo : List Nat) (W : WX) (es : List Expr) (f : PM (List Opd)) : Prop :=
  ∃ t, PA X es t ∧ ∀ c fp F env σ H (Q : List V → Hp → Prop), OkC c bo → Rel X.K c fp F env σ H →
    Goes X.K c W σ F (f env) (fun fp' F' env' H' os => ∀ vs, OpdsOk X.K c fp' F' σ H' os vs → Q vs H') → t σ H Q
/-- arguments that are kept: data -/
def PAF (X : Cx) (bo : List Nat) (W : WX) (es : List Expr) (f : PM (List D)) : Prop :=
  ∃ t, PA X es t ∧ ∀ c fp F env σ H (Q : List V → Hp → Prop), OkC c bo → Rel X.K c fp F env σ H →
    Goes X.K c W σ F (f env) (fun fp' F' env' H' ds => ∀ vs, vs.length = es.length → Dens X.K F' ds vs → Q vs H') → t σ H Q
/-! ### reading, keeping -/
/-- a new list is laid down as data -/
def thaw : Opd → PM Opd
  | .tmp ds => ret (.val (.list ds))
  | .tab _ => oops
  | o => ret o
def opn (f : PM Opd) : PM Opd := bnd f thaw
/-- an owned thing as data -/
def imsD : List (Key × Cell) → Option (List (D × D))
  | [] => some []
  | (k, .im d) :: es => (imsD es).map ((kD k, d) :: ·)
  | (_, .fl _) :: _ => none
def rdAb : Ab → Option D
  | .dc es => (imsD es).map .dict
  | .fl ds => some (.list ds)
  | _ => none
def tabD : Ab → Option D
  | .dc es => (imsD es).map .dict
  | .ll cs => some (.list (cs.map .list))
  | _ => none
section
variable {K : PySem.W.Frag} {F F' H : Hp}
theorem cells_ims : ∀ {es : List (Key × Cell)} {kvs : List (Key × V)} {fp : List Addr} {ds : List (D × D)}, imsD es = some ds → CellsAt K F H es kvs fp → DenKV K F ds kvs ∧ fp = []
  | [], _, _, _, h, ⟨h1, h2⟩ => by cases h; subst h1; exact ⟨by simp only [DenKV], h2⟩
  | (k, .im d) :: es, _, fp, ds, h, ⟨v, r, h1, h2, h3⟩ => by
    simp only [imsD] at h
    cases e : imsD es with
    | none => rw [e] at h; cases h
    | some xs =>
      rw [e] at h
      cases h
      obtain ⟨q1, q2⟩ := cells_ims e h3
      subst h1
      refine ⟨?_, q2⟩
      simp only [DenKV]
      exact ⟨k, v, r, rfl, rfl, h2, q1⟩
  | (k, .fl _) :: es, _, _, _, h, _ => by cases h
theorem rows_dens : ∀ {cs : List (List D)} {vs : List V} {fr : List Addr}, RowsAt K F H cs vs fr → Ex F F' → (∀ b ∈ fr, F' b = H b) → Dens K F' (cs.map .list) vs
  | [], _, _, ⟨h1, _⟩, _, _ => by subst h1; simp only [List.map_nil, Dens]
  | ds :: cs, _, _, ⟨b, r, fr, xs, h1, h2, h3, h4, h5, h6⟩, e, hF => by
    subst h1 h2
    have ih := rows_dens h6 e fun c hc => hF c (List.mem_cons_of_mem _ hc)
    simp only [List.map_cons, Dens, Den]
    exact ⟨.ref b, r, rfl, ⟨b, xs, rfl, by rw [hF b (List.mem_cons_self ..)]; exact h4, dens_mono e ds xs h5⟩, ih⟩
/-- a new owned thing is frozen -/
theorem Rel.freezeTab {c : Ct} {fp : Nat → List Addr} {env : PEnv} {σ : L2.St} (R : Rel K c fp F env σ H) {t : Ab} {v : V} {d : D} (h : OpdOk K c fp F σ H (.tab t) v) (hd : tabD t = some d) : ∃ F', Rel K c fp F' env σ H ∧ Ex F F' ∧ Den K F' d v := by
  obtain ⟨fT, h1, h2⟩ := h
  have hin := abAt_in h1
  let F' : Hp := fun q => if q ∈ fT then H q else F q
  have e1 : Ex F F' := fun q o hq => by
    show (if q ∈ fT then H q else F q) = some o
    by_cases hm : q ∈ fT
    · rw [(h2 q hm).1] at hq; cases hq
    · rw [if_neg hm]; exact hq
  have hF : ∀ b ∈ fT, F' b = H b := fun b hb => if_pos hb
  refine ⟨F', R.grow e1 (fun q u z => ?_) (Ex.refl H) (fun q z => ?_), e1, ?_⟩
  · have z' : (if q ∈ fT then H q else F q) = some u := z
    by_cases hm : q ∈ fT
    · rw [if_pos hm] at z'; exact z'
    · rw [if_neg hm] at z'; exact R.fh q u z'
  · have z' : (if q ∈ fT then H q else F q) ≠ none := z
    by_cases hm : q ∈ fT
    · exact .inr ⟨(h2 q hm).2.1, (h2 q hm).2.2⟩
    · rw [if_neg hm] at z'; exact .inl z'
  · cases t with
    | dc es =>
      obtain ⟨a, kvs, fr, rfl, q2, q3, q4, q5⟩ := h1
      simp only [tabD] at hd
      cases e : imsD es with
      | none => rw [e] at hd; cases hd
      | some ds =>
        rw [e] at hd
        cases hd
        obtain ⟨w1, w2⟩ := cells_ims e q5
        simp only [Den]
        exact ⟨a, kvs, rfl, by rw [hF a (by rw [q2]; exact List.mem_cons_self ..)]; exact q4, denkv_mono e1 _ _ w1⟩
    | ll cs =>
      obtain ⟨a, vs, fr, rfl, q2, q3, q4, q5⟩ := h1
      cases hd
      simp only [Den]
      exact ⟨a, vs, rfl, by rw [hF a (by rw [q2]; exact List.mem_cons_self ..)]; exact q4, rows_dens q5 e1 fun b hb => hF b (by rw [q2]; exact List.mem_cons_of_mem _ hb)⟩
    | _ => cases hd
end
/-- what an operand reads as, now -/
def rsv : Opd → PM D
  | .val d => ret d
  | .slot i => fun env => match env[i]? with
    | some (some (.im d)) => .ok d env
    | some (some (.ls ds)) => .ok (.list ds) env
    | some (some (.ab t)) => lift (rdAb t) env
    | _ => .bad
  | _ => oops
def frz : Opd → PM D
  | .val d => ret d
  | .tmp ds => ret (.list ds)
  | .slot i => fun env => match env[i]? with
    | some (some (.im d)) => .ok d env
    | some (some (.ls ds)) => .ok (.list ds) (env.set i (some (.im (.list ds))))
    | _ => .bad
  | .tab t => lift (tabD t)
def kept (f : PM Opd) : PM D := bnd f frz
/-- data by its outer form over the heap as it stands -/
def BDen (K : PySem.W.Frag) (F H : Hp) : D → V → Prop
  | .list ds, v => ∃ a xs, v = .ref a ∧ H a = some (.lst xs) ∧ Dens K F ds xs
  | .dict es, v => ∃ a kvs, v = .ref a ∧ H a = some (.dK kvs) ∧ DenKV K F es kvs
  | d, v => Den K F d v
section
variable {K : PySem.W.Frag} {c : Ct} {fp : Nat → List Addr} {F F' : Hp} {env env' : PEnv} {σ : L2.St} {H H' : Hp} {W : WX}
theorem bden_of (e : Ex F H) : ∀ {d : D} {v : V}, Den K F d v → BDen K F H d v
  | .none, _, h => h
  | .bool _, _, h => h
  | .int _, _, h => h
  | .str _, _, h => h
  | .list ds, v, h => by
    simp only [Den] at h
    obtain ⟨a, xs, h1, h2, h3⟩ := h
    exact ⟨a, xs, h1, e _ _ h2, h3⟩
  | .tuple ds, v, h => h
  | .dict ds, v, h => by
    simp only [Den] at h
    obtain ⟨a, xs, h1, h2, h3⟩ := h
    exact ⟨a, xs, h1, e _ _ h2, h3⟩
theorem rsv_ok (R : Rel K c fp F env σ H) {o : Opd} {v : V} (h : OpdOk K c fp F σ H o v) {β : Type} {k : D → PM β} {G : (Nat → List Addr) → Hp → PEnv → Hp → β → Prop} (g : Goes K c W σ F (bnd (rsv o) k env) G) :
    ∃ d, BDen K F H d v ∧ Goes K c W σ F (k d env) G := by
  cases o with
  | val d => exact ⟨d, bden_of R.fh h, g⟩
  | slot i =>
    have h' : σ[i]? = some (some v) := h
    cases e : env[i]? with
    | none => simp only [bnd, rsv, e] at g; exact g.elim
    | some x =>
      cases x with
      | none => simp only [bnd, rsv, e] at g; exact g.elim
      | some s =>
        obtain ⟨w, h1, h2⟩ := R.sl i s e
        rw [h'] at h1
        cases h1
        cases s with
        | im d => simp only [bnd, rsv, e] at g; exact ⟨d, bden_of R.fh h2, g⟩
        | ls ds =>
          simp only [bnd, rsv, e] at g
          obtain ⟨a, xs, q1, q2, q3, q4⟩ := h2
          exact ⟨.list ds, ⟨a, xs, q1, q3, q4⟩, g⟩
        | ab t =>
          simp only [bnd, rsv, e] at g
          cases er : rdAb t with
          | none => simp only [er, lift, oops] at g; exact g.elim
          | some d =>
            simp only [er, lift, ret] at g
            cases t with
            | dc es =>
              simp only [rdAb] at er
              cases ei : imsD es with
              | none => rw [ei] at er; cases er
              | some ds =>
                rw [ei] at er
                cases er
                obtain ⟨a, kvs, fr, q1, q2, q3, q4, q5⟩ := h2
                exact ⟨.dict ds, ⟨a, kvs, q1, q4, (cells_ims ei q5).1⟩, g⟩
            | fl ds =>
              cases er
              obtain ⟨a, xs, q1, q2, q3, q4⟩ := h2
              exact ⟨.list ds, ⟨a, xs, q1, q3, q4⟩, g⟩
            | _ => cases er
  | tmp ds => exact g.elim
  | tab t => exact g.elim
theorem frz_ok (R : Rel K c fp F env σ H) {o : Opd} {v : V} (h : OpdOk K c fp F σ H o v) {β : Type} {k : D → PM β} {G : (Nat → List Addr) → Hp → PEnv → Hp → β → Prop} (g : Goes K c W σ F (bnd (frz o) k env) G) :
    ∃ d fp' F' env', Rel K c fp' F' env' σ H ∧ Ex F F' ∧ Den K F' d v ∧ Goes K c W σ F (k d env') G := by
  cases o with
  | val d => exact ⟨d, fp, F, env, R, Ex.refl F, h, g⟩
  | tmp ds =>
    obtain ⟨F1, R1, e1, d1⟩ := R.freezeTmp h
    exact ⟨.list ds, fp, F1, env, R1, e1, d1, g⟩
  | slot i =>
    have h' : σ[i]? = some (some v) := h
    cases e : env[i]? with
    | none => simp only [bnd, frz, e] at g; exact g.elim
    | some x =>
      cases x with
      | none => simp only [bnd, frz, e] at g; exact g.elim
      | some s =>
        obtain ⟨w, h1, h2⟩ := R.sl i s e
        rw [h'] at h1
        cases h1
        cases s with
        | im d => simp only [bnd, frz, e] at g; exact ⟨d, fp, F, env, R, Ex.refl F, h2, g⟩
        | ls ds =>
          simp only [bnd, frz, e] at g
          obtain ⟨F1, R1, e1, d1⟩ := R.freeze e h'
          exact ⟨.list ds, _, F1, _, R1, e1, d1, g⟩
        | ab t => simp only [bnd, frz, e] at g; exact g.elim
  | tab t =>
    cases ed : tabD t with
    | none => simp only [bnd, frz, ed, lift, oops] at g; exact g.elim
    | some d =>
      simp only [bnd, frz, ed, lift, ret] at g
      obtain ⟨F1, R1, e1, d1⟩ := R.freezeTab h ed
      exact ⟨d, fp, F1, env, R1, e1, d1, g⟩
theorem thaw_ok (R : Rel K c fp F env σ H) {o : Opd} {v : V} (h : OpdOk K c fp F σ H o v) {G : (Nat → List Addr) → Hp → PEnv → Hp → Opd → Prop} (g : Goes K c W σ F (thaw o env) G) :
    ∃ o' F', Rel K c fp F' env σ H ∧ Ex F F' ∧ OpdOk K c fp F' σ H o' v ∧ (match o' with | .tmp _ => False | .tab _ => False | _ => True) ∧ G fp F' env H o' := by
  cases o with
  | val d => exact ⟨.val d, F, R, Ex.refl F, h, trivial, g fp F H R (Ex.refl F)⟩
  | slot i => exact ⟨.slot i, F, R, Ex.refl F, h, trivial, g fp F H R (Ex.refl F)⟩
  | tmp ds =>
    obtain ⟨F1, R1, e1, d1⟩ := R.freezeTmp h
    exact ⟨.val (.list ds), F1, R1, e1, d1, trivial, g fp F1 H R1 e1⟩
  | tab t => exact g.elim
theorem opd_ex (e : Ex F F') {o : Opd} {v : V} {fp' : Nat → List Addr} {H' : Hp} (hn : match o with | .tmp _ => False | .tab _ => False | _ => True) (h : OpdOk K c fp F σ H o v) : OpdOk K c fp' F' σ H' o v := by
  cases o with
  | val d => exact den_mono e d v h
  | slot i => exact h
  | tmp ds => exact hn.elim
  | tab t => exact hn.elim
end
/-! ### expressions -/
section
variable {X : Cx} {bo : List Nat} {W : WX} {e a b : Expr} {es : List Expr} {pos p : Pos} {x : Str}
/-- an operand that stays -/
theorem px_opn {f : PM Opd} (h : PX X bo W e f) : ∃ t, PE X e t ∧ ∀ c fp F env σ H (Q : VK), OkC c bo → Rel X.K c fp F env σ H →
    Goes X.K c W σ F (opn f env) (fun fp' F' env' H' o => ∀ v, (match o with | .tmp _ => False | .tab _ => False | _ => True) → OpdOk X.K c fp' F' σ H' o v → Q v H') → t σ H Q := by
  obtain ⟨t, h1, h2⟩ := h
  refine ⟨t, h1, fun c fp F env σ H Q hc R g => h2 c fp F env σ H Q hc R ?_⟩
  refine (Goes.bnd g).mono (Ex.refl F) fun fp1 F1 env1 H1 o e1 R1 g1 v hv => ?_
  obtain ⟨o', F2, R2, e2, h3, h4, h5⟩ := thaw_ok R1 hv g1
  exact h5 v h4 h3
def eVar (i : Nat) : PM Opd := fun env => match env[i]? with
      | some (some (.im d)) => .ok (.val d) env
      | some (some _) => .ok (.slot i) env
      | _ => .bad
theorem px_var (i : Nat) (hN : X.N[i]? = some x := by rfl) (hv : Vis X.env.scope x := by first | exact Or.inl rfl | exact Or.inr (Or.inl rfl) | exact Or.inr (Or.inr rfl)) (hd : (x == ("__debug__" : Str)) = false := by decide)
    (hcd : (x == ("__classdict__" : Str)) = false := by decide) : PX X bo W (.Name x pos) (eVar i) := by
  refine ⟨_, pe_var hN hv hd hcd, fun c fp F env σ H Q hc R g => ?_⟩
  unfold eVar at g
  cases e : env[i]? with
  | none => simp only [e] at g; exact g.elim
  | some s =>
    cases s with
    | none => simp only [e] at g; exact g.elim
    | some s =>
      obtain ⟨v, h1, h2⟩ := R.sl i s e
      refine ⟨v, h1, ?_⟩
      cases s with
      | im d => simp only [e] at g; exact g fp F H R (Ex.refl F) v h2
      | ls ds => simp only [e] at g; exact g fp F H R (Ex.refl F) v h1
      | ab t => simp only [e] at g; exact g fp F H R (Ex.refl F) v h1
theorem px_const {t : TE} {d : D} {v : V} (h : PE X e (tC v)) (hd : ∀ K F, Den K F d v) : PX X bo W e (ret (.val d)) :=
  ⟨_, h, fun c fp F env σ H Q hc R g => g fp F H R (Ex.refl F) v (hd _ _)⟩
theorem px_int {i : Int} {j : Nat} : PX X bo W (.Constant (.int i) j pos) (ret (.val (.int i))) := px_const (t := tC (.int i)) pe_int fun _ _ => by simp only [Den]
theorem px_bl {i : Bool} {j : Nat} : PX X bo W (.Constant (.bool i) j pos) (ret (.val (.bool i))) := px_const (t := tC (.bl i)) pe_bl fun _ _ => by simp only [Den]
theorem px_non {j : Nat} : PX X bo W (.Constant .none j pos) (ret (.val .none)) := px_const (t := tC .non) pe_non fun _ _ => by simp only [Den]
theorem px_str {i : Str} {j : Nat} : PX X bo W (.Constant (.str i) j pos) (ret (.val (.str i))) := px_const (t := tC (.str i)) pe_str fun _ _ => by simp only [Den]
/-- a module's int -/
theorem px_glob {i : Int} {t : Tok} (hg : Gl X x) (hm : X.mg x = some (.int i t)) (hd : (x == ("__debug__" : Str)) = false := by decide) : PX X bo W (.Name x pos) (ret (.val (.int i))) :=
  px_const (t := tC (.int i)) (pe_glob (v := .int i) hg hm ⟨_, rfl⟩ hd) fun _ _ => by simp only [Den]
theorem paf_nil : PAF X bo W [] (ret []) := ⟨_, pa_nil, fun c fp F env σ H Q hc R g => g fp F H R (Ex.refl F) [] rfl (by simp only [Dens])⟩
theorem paf_cons {f : PM Opd} {fs : PM (List D)} (ha : PX X bo W e f) (hr : PAF X bo W es fs) (hs : starEach (e :: es) X.env = (false, eval e X.env) :: starEach es X.env := by rfl) :
    PAF X bo W (e :: es) (bnd (kept f) fun d => bnd fs fun ds => ret (d :: ds)) := by
  obtain ⟨t1, h1, h2⟩ := ha
  obtain ⟨t2, h3, h4⟩ := hr
  refine ⟨_, pa_cons h1 h3 hs, fun c fp F env σ H Q hc R g => ?_⟩
  refine h2 c fp F env σ H _ hc R ?_
  have g' : Goes X.K c W σ F (bnd f (fun o => bnd (frz o) fun d => bnd fs fun ds => ret (d :: ds)) env) (fun fp' F' env' H' ds => ∀ vs, vs.length = (e :: es).length → Dens X.K F' ds vs → Q vs H') := by
    have : bnd (kept f) (fun d => bnd fs fun ds => ret (d :: ds)) env = bnd f (fun o => bnd (frz o) fun d => bnd fs fun ds => ret (d :: ds)) env := by
      unfold kept bnd
      cases f env <;> rfl
    rw [← this]
    exact g
  refine (Goes.bnd g').mono (Ex.refl F) fun fp1 F1 env1 H1 o e1 R1 g1 v hv => ?_
  obtain ⟨d, fp2, F2, env2, R2, e2, hd, g2⟩ := frz_ok R1 hv g1
  refine h4 c fp2 F2 env2 σ H1 _ hc R2 ?_
  refine (Goes.bnd g2).mono e2 fun fp3 F3 env3 H3 ds e3 R3 g3 vs hl hds => ?_
  refine g3 fp3 F3 H3 R3 (Ex.refl F3) (v :: vs) (by simp [hl]) ?_
  simp only [Dens]
  exact ⟨v, vs, rfl, den_mono e3 d v hd, hds⟩
theorem pax_nil : PAX X bo W [] (ret []) := ⟨_, pa_nil, fun c fp F env σ H Q hc R g => g fp F H R (Ex.refl F) [] rfl⟩
end
end Pu

namespace Pu
open PySem PySem.Spec PyProof.Rows L2
/-! ### operations on values -/
/-- a two-place operation: on data it gives g -/
def Op2 (X : Cx) (f : Value → Value → Sem Value) (g : D → D → Option Opd) : Prop :=
  ∃ r, OpR X f r ∧ ∀ F H x y dx dy o (Q : VK), Ex F H → BDen X.K F H dx x → BDen X.K F H dy y → g dx dy = some o → (∀ v H', Got X.K F H o v H' → Q v H') → r x y H Q
def Un1 (X : Cx) (f : Value → Sem Value) (g : D → Option Opd) : Prop :=
  ∃ r, UnR X f r ∧ ∀ F H x dx o (Q : VK), Ex F H → BDen X.K F H dx x → g dx = some o → (∀ v H', Got X.K F H o v H' → Q v H') → r x H Q
def BDens (K : PySem.W.Frag) (F H : Hp) : List D → List V → Prop
  | [], vs => vs = []
  | d :: ds, vs => ∃ v r, vs = v :: r ∧ BDen K F H d v ∧ BDens K F H ds r
/-- a built-in called with values -/
def Bi (X : Cx) (f : Value) (g : List D → Option Opd) : Prop :=
  ∃ r, CallR X f r ∧ ∀ F H xs ds o (Q : VK), Ex F H → SyF F → BDens X.K F H ds xs → g ds = some o → (∀ v H', Got X.K F H o v H' → Q v H') → r xs H Q
/-- a subscript by values -/
def Ix2 (X : Cx) (g : D → D → Option Opd) : Prop :=
  ∃ r, IxR X r ∧ ∀ F H x y dx dy o (Q : VK), Ex F H → BDen X.K F H dx x → BDen X.K F H dy y → g dx dy = some o → (∀ v H', Got X.K F H o v H' → Q v H') → r x y H Q
def Sl2 (X : Cx) (g : D → Option Int → Option Int → Option Opd) : Prop :=
  ∃ r, SlR X r ∧ ∀ F H x dx lo hi o (Q : VK), Ex F H → BDen X.K F H dx x → g dx lo hi = some o → (∀ v H', Got X.K F H o v H' → Q v H') → r x lo hi H Q
theorem Op2.or {X : Cx} {f : Value → Value → Sem Value} {g g' : D → D → Option Opd} (h : Op2 X f g) (h' : Op2 X f g') (k : D → D → Option Opd) (hk : ∀ x y o, k x y = some o → g x y = some o ∨ g' x y = some o) : Op2 X f k := by
  obtain ⟨r, h1, h2⟩ := h
  obtain ⟨r', h3, h4⟩ := h'
  refine ⟨_, OpR.or h1 h3, fun F H x y dx dy o Q e bx by' hg q => ?_⟩
  rcases hk _ _ _ hg with z | z
  · exact .inl (h2 F H x y dx dy o Q e bx by' z q)
  · exact .inr (h4 F H x y dx dy o Q e bx by' z q)
section
variable {X : Cx} {bo : List Nat} {W : WX} {e a b : Expr} {es : List Expr} {pos p : Pos} {x : Str}
theorem goes_lift_bnd {K : PySem.W.Frag} {c : Ct} {σ : L2.St} {F : Hp} {α β : Type} {o : Option α} {k : α → PM β} {env : PEnv} {G : (Nat → List Addr) → Hp → PEnv → Hp → β → Prop} (h : Goes K c W σ F (bnd (lift o) k env) G) : ∃ a, o = some a ∧ Goes K c W σ F (k a env) G := by
  cases o with
  | none => exact h.elim
  | some a => exact ⟨a, rfl, h⟩
/-- a value has come: the wished end at it -/
theorem fin_got {K : PySem.W.Frag} {c : Ct} {fp : Nat → List Addr} {σ : L2.St} {F H H' : Hp} {env : PEnv} {o : Opd} {v : V} {Q : VK} {oo : Option Opd} (R : Rel K c fp F env σ H)
    (g : Goes K c W σ F (lift oo env) (fun fp' F' env' H' o => ∀ v, OpdOk K c fp' F' σ H' o v → Q v H')) (ho : oo = some o) (h : Got K F H o v H') : Q v H' := by
  obtain ⟨F1, R1, e1, k1⟩ := R.got h
  obtain ⟨o', h1, h2⟩ := g.lift
  rw [ho] at h1
  cases h1
  exact h2 fp F1 H' R1 e1 v k1
def eBin (g : D → D → Option Opd) (fa fb : PM Opd) : PM Opd := bnd (opn fa) fun x => bnd (opn fb) fun y => bnd (rsv x) fun dx => bnd (rsv y) fun dy => lift (g dx dy)
theorem rd_bin {op : R2} {g : D → D → Option Opd} {fa fb : PM Opd} (ha : PX X bo W a fa) (hb : PX X bo W b fb)
    (h2 : ∀ F H x y dx dy o (Q : VK), Ex F H → BDen X.K F H dx x → BDen X.K F H dy y → g dx dy = some o → (∀ v H', Got X.K F H o v H' → Q v H') → op x y H Q) :
    ∃ ta tb, PE X a ta ∧ PE X b tb ∧ ∀ c fp F env σ H (Q : VK), OkC c bo → Rel X.K c fp F env σ H →
      Goes X.K c W σ F (eBin g fa fb env) (fun fp' F' env' H' o => ∀ v, OpdOk X.K c fp' F' σ H' o v → Q v H') → tOp op ta tb σ H Q := by
  obtain ⟨ta, a1, a2⟩ := px_opn ha
  obtain ⟨tb, b1, b2⟩ := px_opn hb
  refine ⟨ta, tb, a1, b1, fun c fp F env σ H Q hc R gg => ?_⟩
  refine a2 c fp F env σ H _ hc R ((Goes.bnd gg).mono (Ex.refl F) fun fp1 F1 env1 H1 ox e1 R1 g1 v hn hv => ?_)
  refine b2 c fp1 F1 env1 σ H1 _ hc R1 ((Goes.bnd g1).mono (Ex.refl F1) fun fp2 F2 env2 H2 oy e2 R2 g2 u hm hu => ?_)
  obtain ⟨dx, k1, g3⟩ := rsv_ok R2 (opd_ex e2 hn hv) g2
  obtain ⟨dy, k2, g4⟩ := rsv_ok R2 hu g3
  obtain ⟨o, ho, _⟩ := g4.lift
  exact h2 F2 H2 v u dx dy o Q R2.fh k1 k2 ho fun v' H' got => fin_got R2 g4 ho got
theorem px_op {op : Operator} {g : D → D → Option Opd} {fa fb : PM Opd} (h : Op2 X (binaryOp op) g) (ha : PX X bo W a fa) (hb : PX X bo W b fb) : PX X bo W (.BinOp a op b pos) (eBin g fa fb) := by
  obtain ⟨r, h1, h2⟩ := h
  obtain ⟨ta, tb, a1, b1, k⟩ := rd_bin ha hb h2
  exact ⟨_, pe_op h1 a1 b1, k⟩
theorem px_cmp {op : CmpOp} {g : D → D → Option Opd} {fa fb : PM Opd} (h : Op2 X (compareOp op) g) (ha : PX X bo W a fa) (hb : PX X bo W b fb) (hm : behindInMarks op b = false) : PX X bo W (.Compare a [op] [b] pos) (eBin g fa fb) := by
  obtain ⟨r, h1, h2⟩ := h
  obtain ⟨ta, tb, a1, b1, k⟩ := rd_bin ha hb h2
  exact ⟨_, pe_cmpR h1 a1 b1 hm, k⟩
theorem px_ix {g : D → D → Option Opd} {fa fb : PM Opd} (h : Ix2 X g) (ha : PX X bo W a fa) (hb : PX X bo W b fb) (hs : PlainIx b) : PX X bo W (.Subscript a b pos) (eBin g fa fb) := by
  obtain ⟨r, h1, h2⟩ := h
  obtain ⟨ta, tb, a1, b1, k⟩ := rd_bin ha hb h2
  exact ⟨_, pe_ix h1 a1 b1 hs, k⟩
def toB : Opd → PM Bool
  | .val (.bool b) => ret b
  | _ => oops
def eTest (f : PM Opd) : PM Bool := bnd f toB
theorem toB_ok {K : PySem.W.Frag} {c : Ct} {fp : Nat → List Addr} {σ : L2.St} {F H : Hp} {env : PEnv} {o : Opd} {v : V} {G : (Nat → List Addr) → Hp → PEnv → Hp → Bool → Prop} (h : OpdOk K c fp F σ H o v) (g : Goes K c W σ F (toB o env) G) :
    ∃ b, v = .bl b ∧ Goes K c W σ F (ret b env) G := by
  cases o with
  | val d =>
    cases d with
    | bool b =>
      have h' : Den K F (.bool b) v := h
      simp only [Den] at h'
      exact ⟨b, h', g⟩
    | _ => exact g.elim
  | _ => exact g.elim
theorem ptx_cmp {op : CmpOp} {g : D → D → Option Opd} {fa fb : PM Opd} (h : Op2 X (compareOp op) g) (ha : PX X bo W a fa) (hb : PX X bo W b fb) (hm : behindInMarks op b = false) : PTX X bo W (.Compare a [op] [b] pos) (eTest (eBin g fa fb)) := by
  obtain ⟨r, h1, h2⟩ := h
  obtain ⟨ta, tb, a1, b1, k⟩ := rd_bin ha hb h2
  refine ⟨_, pt_cmpR h1 a1 b1 hm, fun c fp F env σ H Q hc R g => ?_⟩
  refine k c fp F env σ H _ hc R ((Goes.bnd g).mono (Ex.refl F) fun fp1 F1 env1 H1 o e1 R1 g1 v hv => ?_)
  obtain ⟨b, e, g2⟩ := toB_ok hv g1
  exact ⟨b, e, g2 fp1 F1 H1 R1 (Ex.refl F1)⟩
/-- a op1 b op2 c -/
def eChain (g g' : D → D → Option Opd) (fa fb fc : PM Opd) : PM Opd := bnd (opn fa) fun x => bnd (opn fb) fun y => bnd (rsv x) fun dx => bnd (rsv y) fun dy => bnd (lift (g dx dy)) fun o => bnd (toB o) fun k =>
  if k = true then bnd (opn fc) fun z => bnd (rsv y) fun dy => bnd (rsv z) fun dz => lift (g' dy dz) else ret (.val (.bool false))
theorem rd_chain {r r' : R2} {g g' : D → D → Option Opd} {cc : Expr} {fa fb fc : PM Opd} (ha : PX X bo W a fa) (hb : PX X bo W b fb) (hcc : PX X bo W cc fc)
    (h2 : ∀ F H x y dx dy o (Q : VK), Ex F H → BDen X.K F H dx x → BDen X.K F H dy y → g dx dy = some o → (∀ v H', Got X.K F H o v H' → Q v H') → r x y H Q)
    (h3 : ∀ F H x y dx dy o (Q : VK), Ex F H → BDen X.K F H dx x → BDen X.K F H dy y → g' dx dy = some o → (∀ v H', Got X.K F H o v H' → Q v H') → r' x y H Q) :
    ∃ ta tb tc, PE X a ta ∧ PE X b tb ∧ PE X cc tc ∧ ∀ c fp F env σ H (Q : VK), OkC c bo → Rel X.K c fp F env σ H →
      Goes X.K c W σ F (eChain g g' fa fb fc env) (fun fp' F' env' H' o => ∀ v, OpdOk X.K c fp' F' σ H' o v → Q v H') → tChain r r' ta tb tc σ H Q := by
  obtain ⟨ta, a1, a2⟩ := px_opn ha
  obtain ⟨tb, b1, b2⟩ := px_opn hb
  obtain ⟨tc, c1, c2⟩ := px_opn hcc
  refine ⟨ta, tb, tc, a1, b1, c1, fun c fp F env σ H Q hc R gg => ?_⟩
  refine a2 c fp F env σ H _ hc R ((Goes.bnd gg).mono (Ex.refl F) fun fp1 F1 env1 H1 ox e1 R1 g1 v hn hv => ?_)
  refine b2 c fp1 F1 env1 σ H1 _ hc R1 ((Goes.bnd g1).mono (Ex.refl F1) fun fp2 F2 env2 H2 oy e2 R2 g2 u hm hu => ?_)
  obtain ⟨dx, k1, g3⟩ := rsv_ok R2 (opd_ex e2 hn hv) g2
  obtain ⟨dy, k2, g4⟩ := rsv_ok R2 hu g3
  obtain ⟨o, ho, g5⟩ := goes_lift_bnd g4
  refine h2 F2 H2 v u dx dy o _ R2.fh k1 k2 ho fun v' H' got => ?_
  obtain ⟨F3, R3, e3, k3⟩ := R2.got got
  have g5' := g5.mono e3 fun _ _ _ _ _ _ _ q => q
  have g6 := Goes.bnd g5'
  obtain ⟨k, ek, g7⟩ := toB_ok k3 g6
  refine ⟨k, ek, ?_⟩
  cases k with
  | false =>
    rw [if_neg Bool.false_ne_true]
    have := g7 fp2 F3 H' R3 (Ex.refl F3)
    simp only [Bool.false_eq_true, if_false] at this
    exact this fp2 F3 H' R3 (Ex.refl F3) _ (by show Den _ _ _ _; simp only [Den])
  | true =>
    rw [if_pos rfl]
    have g9 := g7 fp2 F3 H' R3 (Ex.refl F3)
    simp only [if_true] at g9
    refine c2 c fp2 F3 env2 σ H' _ hc R3 ((Goes.bnd g9).mono (Ex.refl F3) fun fp4 F4 env4 H4 oz e4 R4 g10 w hz hw => ?_)
    obtain ⟨dy', k4, g11⟩ := rsv_ok R4 (opd_ex (e3.trans e4) hm hu) g10
    obtain ⟨dz, k5, g12⟩ := rsv_ok R4 hw g11
    obtain ⟨o', ho', _⟩ := g12.lift
    exact h3 F4 H4 u w dy' dz o' Q R4.fh k4 k5 ho' fun v'' H'' got' => fin_got R4 g12 ho' got'
theorem px_chain {op op' : CmpOp} {g g' : D → D → Option Opd} {cc : Expr} {fa fb fc : PM Opd} (h : Op2 X (compareOp op) g) (h' : Op2 X (compareOp op') g') (ha : PX X bo W a fa) (hb : PX X bo W b fb) (hcc : PX X bo W cc fc)
    (hm : lastMarks [op, op'] [b, cc] = false := by with_unfolding_all rfl) : PX X bo W (.Compare a [op, op'] [b, cc] pos) (eChain g g' fa fb fc) := by
  obtain ⟨r, h1, h2⟩ := h
  obtain ⟨r', h3, h4⟩ := h'
  obtain ⟨ta, tb, tc, a1, b1, c1, k⟩ := rd_chain ha hb hcc h2 h4
  exact ⟨_, pe_chain h1 h3 a1 b1 c1 hm, k⟩
theorem ptx_chain {op op' : CmpOp} {g g' : D → D → Option Opd} {cc : Expr} {fa fb fc : PM Opd} (h : Op2 X (compareOp op) g) (h' : Op2 X (compareOp op') g') (ha : PX X bo W a fa) (hb : PX X bo W b fb) (hcc : PX X bo W cc fc)
    (hm : lastMarks [op, op'] [b, cc] = false := by with_unfolding_all rfl) : PTX X bo W (.Compare a [op, op'] [b, cc] pos) (eTest (eChain g g' fa fb fc)) := by
  obtain ⟨r, h1, h2⟩ := h
  obtain ⟨r', h3, h4⟩ := h'
  obtain ⟨ta, tb, tc, a1, b1, c1, k⟩ := rd_chain ha hb hcc h2 h4
  refine ⟨_, pt_chain h1 h3 a1 b1 c1 hm, fun c fp F env σ H Q hc R g => ?_⟩
  refine k c fp F env σ H _ hc R ((Goes.bnd g).mono (Ex.refl F) fun fp1 F1 env1 H1 o e1 R1 g1 v hv => ?_)
  obtain ⟨b, e, g2⟩ := toB_ok hv g1
  exact ⟨b, e, g2 fp1 F1 H1 R1 (Ex.refl F1)⟩
/-! and, or, not, if -/
theorem ptx_pw {f : PM Bool} (h : PWX X bo W e f) : PTX X bo W e f := by
  obtain ⟨t, h1, h2⟩ := h
  exact ⟨t, h1.pt, h2⟩
theorem pwx_and1 {f : PM Bool} (h : PTX X bo W a f) : PWX X bo W (.BoolOp .And [a] pos) f := by
  obtain ⟨t, h1, h2⟩ := h
  exact ⟨t, pw_and1 h1, h2⟩
theorem pwx_or1 {f : PM Bool} (h : PTX X bo W a f) : PWX X bo W (.BoolOp .Or [a] pos) f := by
  obtain ⟨t, h1, h2⟩ := h
  exact ⟨t, pw_or1 h1, h2⟩
def bAnd (f g : PM Bool) : PM Bool := bnd f fun k => if k = true then g else ret false
def bOr (f g : PM Bool) : PM Bool := bnd f fun k => if k = true then ret true else g
def bNot (f : PM Bool) : PM Bool := bnd f fun k => ret (!k)
theorem pwx_and {f g : PM Bool} (ha : PTX X bo W a f) (hb : PWX X bo W (.BoolOp .And (b :: es) pos) g) : PWX X bo W (.BoolOp .And (a :: b :: es) pos) (bAnd f g) := by
  obtain ⟨t, h1, h2⟩ := ha
  obtain ⟨u, h3, h4⟩ := hb
  refine ⟨_, pw_and h1 h3, fun c fp F env σ H Q hc R gg => ?_⟩
  refine h2 c fp F env σ H _ hc R ((Goes.bnd gg).mono (Ex.refl F) fun fp1 F1 env1 H1 k e1 R1 g1 => ?_)
  cases k with
  | false =>
    rw [if_neg Bool.false_ne_true] at g1 ⊢
    exact g1 fp1 F1 H1 R1 (Ex.refl F1)
  | true =>
    rw [if_pos rfl] at g1 ⊢
    exact h4 c fp1 F1 env1 σ H1 Q hc R1 g1
theorem pwx_or {f g : PM Bool} (ha : PTX X bo W a f) (hb : PWX X bo W (.BoolOp .Or (b :: es) pos) g) : PWX X bo W (.BoolOp .Or (a :: b :: es) pos) (bOr f g) := by
  obtain ⟨t, h1, h2⟩ := ha
  obtain ⟨u, h3, h4⟩ := hb
  refine ⟨_, pw_or h1 h3, fun c fp F env σ H Q hc R gg => ?_⟩
  refine h2 c fp F env σ H _ hc R ((Goes.bnd gg).mono (Ex.refl F) fun fp1 F1 env1 H1 k e1 R1 g1 => ?_)
  cases k with
  | true =>
    rw [if_pos rfl] at g1 ⊢
    exact g1 fp1 F1 H1 R1 (Ex.refl F1)
  | false =>
    rw [if_neg Bool.false_ne_true] at g1 ⊢
    exact h4 c fp1 F1 env1 σ H1 Q hc R1 g1
theorem ptx_not {f : PM Bool} (ha : PTX X bo W a f) : PTX X bo W (.UnaryOp .Not a pos) (bNot f) := by
  obtain ⟨t, h1, h2⟩ := ha
  refine ⟨_, pt_not h1, fun c fp F env σ H Q hc R gg => ?_⟩
  exact h2 c fp F env σ H _ hc R ((Goes.bnd gg).mono (Ex.refl F) fun fp1 F1 env1 H1 k e1 R1 g1 => g1 fp1 F1 H1 R1 (Ex.refl F1))
/-- truth of data -/
def truth : D → Option Bool
  | .none => some false
  | .bool b => some b
  | .int i => some (i != 0)
  | .str y => if y.length ≤ sizeLine then some ((y.length : Int) != 0) else none
  | .list ds => some (!ds.isEmpty)
  | .tuple ds => some (!ds.isEmpty)
  | .dict es => some (!es.isEmpty)
def eTruth (f : PM Opd) : PM Bool := bnd (opn f) fun o => bnd (rsv o) fun d => lift (truth d)
theorem dens_empty {K : PySem.W.Frag} {F : Hp} {ds : List D} {xs : List V} (h : Dens K F ds xs) : (!xs.isEmpty) = !ds.isEmpty := by
  cases ds with
  | nil => simp only [Dens] at h; subst h; rfl
  | cons d ds => simp only [Dens] at h; obtain ⟨v, r, rfl, _⟩ := h; rfl
theorem denkv_empty {K : PySem.W.Frag} {F : Hp} {ds : List (D × D)} {xs : List (Key × V)} (h : DenKV K F ds xs) : (!xs.isEmpty) = !ds.isEmpty := by
  cases ds with
  | nil => simp only [DenKV] at h; subst h; rfl
  | cons d ds => obtain ⟨d1, d2⟩ := d; simp only [DenKV] at h; obtain ⟨k, v, r, rfl, _⟩ := h; rfl
theorem truth_ok {F H : Hp} {d : D} {v : V} {k : Bool} (e : Ex F H) (h : BDen X.K F H d v) (hk : truth d = some k) : TruV X.K v H k := by
  cases d with
  | none => simp only [BDen, Den] at h; subst h; cases hk; rfl
  | bool b => simp only [BDen, Den] at h; subst h; cases hk; rfl
  | int i => simp only [BDen, Den] at h; subst h; cases hk; rfl
  | str y =>
    simp only [BDen, Den] at h
    subst h
    have hk' : (if y.length ≤ sizeLine then some ((y.length : Int) != 0) else none) = some k := hk
    by_cases hl : y.length ≤ sizeLine
    · rw [if_pos hl] at hk'; cases hk'; exact ⟨hl, rfl⟩
    · rw [if_neg hl] at hk'; cases hk'
  | list ds =>
    obtain ⟨a, xs, rfl, h1, h2⟩ := h
    cases hk
    exact .inl ⟨xs, .inl (.inl h1), (dens_empty h2).symm⟩
  | tuple ds =>
    simp only [BDen, Den] at h
    obtain ⟨a, xs, rfl, h1, h2⟩ := h
    cases hk
    exact .inr (.inl ⟨xs, ex_t e h1, (dens_empty h2).symm⟩)
  | dict es =>
    obtain ⟨a, xs, rfl, h1, h2⟩ := h
    cases hk
    exact .inr (.inr ⟨xs, h1, (denkv_empty h2).symm⟩)
theorem ptx_truth {f : PM Opd} (ha : PX X bo W a f) (he : ∀ whole, isTrue a X.env whole = (do let v ← whole; standAt a.pos; holding [v] (truthy v)) := by intro _; rfl) : PTX X bo W a (eTruth f) := by
  obtain ⟨t, h1, h2⟩ := px_opn ha
  refine ⟨_, pt_truth h1 he, fun c fp F env σ H Q hc R gg => ?_⟩
  refine h2 c fp F env σ H _ hc R ((Goes.bnd gg).mono (Ex.refl F) fun fp1 F1 env1 H1 o e1 R1 g1 v hn hv => ?_)
  obtain ⟨d, k1, g2⟩ := rsv_ok R1 hv g1
  obtain ⟨k, hk, g3⟩ := g2.lift
  exact ⟨k, truth_ok R1.fh k1 hk, g3 fp1 F1 H1 R1 (Ex.refl F1)⟩
/-- and, or, not as values: of bools -/
def eBool (f : PM Bool) : PM Opd := bnd f fun k => ret (.val (.bool k))
def vAnd (f g : PM Opd) : PM Opd := bnd (eTest f) fun k => if k = true then g else ret (.val (.bool false))
def vOr (f g : PM Opd) : PM Opd := bnd (eTest f) fun k => if k = true then ret (.val (.bool true)) else g
def vNot (f : PM Opd) : PM Opd := bnd (eTest f) fun k => ret (.val (.bool (!k)))
theorem den_bl {K : PySem.W.Frag} {F : Hp} {k : Bool} : Den K F (.bool k) (.bl k) := by simp only [Den]
theorem px_test {f : PM Opd} (h : PX X bo W e f) : ∃ t, PE X e t ∧ ∀ c fp F env σ H (Q : VK), OkC c bo → Rel X.K c fp F env σ H →
    Goes X.K c W σ F (eTest f env) (fun fp' F' env' H' k => Q (.bl k) H') → t σ H Q := by
  obtain ⟨t, h1, h2⟩ := h
  refine ⟨t, h1, fun c fp F env σ H Q hc R g => h2 c fp F env σ H Q hc R ((Goes.bnd g).mono (Ex.refl F) fun fp1 F1 env1 H1 o e1 R1 g1 v hv => ?_)⟩
  obtain ⟨b, rfl, g2⟩ := toB_ok hv g1
  exact g2 fp1 F1 H1 R1 (Ex.refl F1)
theorem px_one {op : BoolOp} {f : PM Opd} (h : PX X bo W a f) : PX X bo W (.BoolOp op [a] pos) f := by
  obtain ⟨t, h1, h2⟩ := h
  exact ⟨t, pe_one h1, h2⟩
theorem px_and {f g : PM Opd} (ha : PX X bo W a f) (hb : PX X bo W (.BoolOp .And (b :: es) pos) g) : PX X bo W (.BoolOp .And (a :: b :: es) pos) (vAnd f g) := by
  obtain ⟨t, h1, h2⟩ := px_test ha
  obtain ⟨u, h3, h4⟩ := hb
  refine ⟨_, pe_and h1 h3, fun c fp F env σ H Q hc R gg => ?_⟩
  refine h2 c fp F env σ H _ hc R ((Goes.bnd gg).mono (Ex.refl F) fun fp1 F1 env1 H1 k e1 R1 g1 => ⟨k, rfl, ?_⟩)
  cases k with
  | false =>
    rw [if_neg Bool.false_ne_true] at g1 ⊢
    exact g1 fp1 F1 H1 R1 (Ex.refl F1) _ (den_bl (K := X.K) (F := F1))
  | true =>
    rw [if_pos rfl] at g1 ⊢
    exact h4 c fp1 F1 env1 σ H1 Q hc R1 g1
theorem px_or {f g : PM Opd} (ha : PX X bo W a f) (hb : PX X bo W (.BoolOp .Or (b :: es) pos) g) : PX X bo W (.BoolOp .Or (a :: b :: es) pos) (vOr f g) := by
  obtain ⟨t, h1, h2⟩ := px_test ha
  obtain ⟨u, h3, h4⟩ := hb
  refine ⟨_, pe_or h1 h3, fun c fp F env σ H Q hc R gg => ?_⟩
  refine h2 c fp F env σ H _ hc R ((Goes.bnd gg).mono (Ex.refl F) fun fp1 F1 env1 H1 k e1 R1 g1 => ⟨k, rfl, ?_⟩)
  cases k with
  | true =>
    rw [if_pos rfl] at g1 ⊢
    exact g1 fp1 F1 H1 R1 (Ex.refl F1) _ (den_bl (K := X.K) (F := F1))
  | false =>
    rw [if_neg Bool.false_ne_true] at g1 ⊢
    exact h4 c fp1 F1 env1 σ H1 Q hc R1 g1
theorem px_not {f : PM Opd} (ha : PX X bo W a f) : PX X bo W (.UnaryOp .Not a pos) (vNot f) := by
  obtain ⟨t, h1, h2⟩ := px_test ha
  refine ⟨_, pe_not h1, fun c fp F env σ H Q hc R gg => ?_⟩
  exact h2 c fp F env σ H _ hc R ((Goes.bnd gg).mono (Ex.refl F) fun fp1 F1 env1 H1 k e1 R1 g1 => ⟨k, rfl, g1 fp1 F1 H1 R1 (Ex.refl F1) _ (den_bl (K := X.K) (F := F1))⟩)
def eIf (f : PM Bool) (g h : PM Opd) : PM Opd := bnd f fun k => if k = true then g else h
theorem px_if {cc : Expr} {f : PM Bool} {g h : PM Opd} (hc : PTX X bo W cc f) (ha : PX X bo W a g) (hb : PX X bo W b h) : PX X bo W (.IfExp cc a b pos) (eIf f g h) := by
  obtain ⟨t, h1, h2⟩ := hc
  obtain ⟨u, h3, h4⟩ := ha
  obtain ⟨v, h5, h6⟩ := hb
  refine ⟨_, pe_ifExp h1 h3 h5, fun c fp F env σ H Q hc R gg => ?_⟩
  refine h2 c fp F env σ H _ hc R ((Goes.bnd gg).mono (Ex.refl F) fun fp1 F1 env1 H1 k e1 R1 g1 => ?_)
  cases k with
  | true =>
    rw [if_pos rfl] at g1 ⊢
    exact h4 c fp1 F1 env1 σ H1 Q hc R1 g1
  | false =>
    rw [if_neg Bool.false_ne_true] at g1 ⊢
    exact h6 c fp1 F1 env1 σ H1 Q hc R1 g1
/-! displays -/
def eTup (fs : PM (List D)) : PM Opd := bnd fs fun ds => ret (.val (.tuple ds))
def eLst (fs : PM (List D)) : PM Opd := bnd fs fun ds => ret (.tmp ds)
theorem len_line {n : Nat} (h : n ≤ 1000) : n ≤ sizeLine := Nat.le_of_lt (small1000 h)
theorem px_tup {k : Nat} {fs : PM (List D)} (h : PAF X bo W es fs) (hl : es.length ≤ 1000 := by decide) : PX X bo W (.Tuple es k pos) (eTup fs) := by
  obtain ⟨t, h1, h2⟩ := h
  refine ⟨_, pe_tup h1, fun c fp F env σ H Q hc R gg => ?_⟩
  refine h2 c fp F env σ H _ hc R ((Goes.bnd gg).mono (Ex.refl F) fun fp1 F1 env1 H1 ds e1 R1 g1 vs hv hd => ⟨len_line (by omega), fun p hp => ?_⟩)
  obtain ⟨F2, R2, e2, k2⟩ := R1.got (Got.tup hp hd)
  exact g1 fp1 F2 _ R2 e2 _ k2
theorem px_lst {fs : PM (List D)} (h : PAF X bo W es fs) (hl : es.length ≤ 1000 := by decide) : PX X bo W (.List es pos) (eLst fs) := by
  obtain ⟨t, h1, h2⟩ := h
  refine ⟨_, pe_lst h1, fun c fp F env σ H Q hc R gg => ?_⟩
  refine h2 c fp F env σ H _ hc R ((Goes.bnd gg).mono (Ex.refl F) fun fp1 F1 env1 H1 ds e1 R1 g1 vs hv hd => ⟨len_line (by omega), fun p hp => ?_⟩)
  obtain ⟨F2, R2, e2, k2⟩ := R1.got (Got.lst hp hd)
  exact g1 fp1 F2 _ R2 e2 _ k2
/-! calls of built-ins -/
theorem pax_cons {f : PM Opd} {fs : PM (List Opd)} (ha : PX X bo W e f) (hr : PAX X bo W es fs) (hs : starEach (e :: es) X.env = (false, eval e X.env) :: starEach es X.env := by rfl) :
    PAX X bo W (e :: es) (bnd (opn f) fun o => bnd fs fun os => ret (o :: os)) := by
  obtain ⟨t1, h1, h2⟩ := px_opn ha
  obtain ⟨t2, h3, h4⟩ := hr
  refine ⟨_, pa_cons h1 h3 hs, fun c fp F env σ H Q hc R g => ?_⟩
  refine h2 c fp F env σ H _ hc R ((Goes.bnd g).mono (Ex.refl F) fun fp1 F1 env1 H1 o e1 R1 g1 v hn hv => ?_)
  refine h4 c fp1 F1 env1 σ H1 _ hc R1 ((Goes.bnd g1).mono (Ex.refl F1) fun fp2 F2 env2 H2 os e2 R2 g2 vs hvs => ?_)
  exact g2 fp2 F2 H2 R2 (Ex.refl F2) (v :: vs) ⟨v, vs, rfl, hn, opd_ex e2 hn hv, hvs⟩
def rsvs : List Opd → PM (List D)
  | [] => ret []
  | o :: os => bnd (rsv o) fun d => bnd (rsvs os) fun ds => ret (d :: ds)
theorem bnd_assoc {α β γ : Type} (m : PM α) (f : α → PM β) (g : β → PM γ) : bnd (bnd m f) g = bnd m fun a => bnd (f a) g := by
  funext env
  unfold bnd
  cases m env <;> rfl
theorem ret_bnd {α β : Type} (a : α) (f : α → PM β) : bnd (ret a) f = f a := rfl
theorem rsvs_ok {K : PySem.W.Frag} {c : Ct} {fp : Nat → List Addr} {F : Hp} {env : PEnv} {σ : L2.St} {H : Hp} (R : Rel K c fp F env σ H) : ∀ {os : List Opd} {vs : List V}, OpdsOk K c fp F σ H os vs → ∀ {β : Type} {k : List D → PM β} {G : (Nat → List Addr) → Hp → PEnv → Hp → β → Prop},
    Goes K c W σ F (bnd (rsvs os) k env) G → ∃ ds, BDens K F H ds vs ∧ Goes K c W σ F (k ds env) G
  | [], vs, h, _, k, G, g => ⟨[], h, g⟩
  | o :: os, vs, h, _, k, G, g => by
    obtain ⟨v, r, rfl, _, h1, h2⟩ := h
    unfold rsvs at g
    rw [bnd_assoc] at g
    obtain ⟨d, k1, g1⟩ := rsv_ok R h1 g
    rw [bnd_assoc] at g1
    obtain ⟨ds, k2, g2⟩ := rsvs_ok R h2 g1
    exact ⟨d :: ds, ⟨v, r, rfl, k1, k2⟩, g2⟩
def eBi (g : List D → Option Opd) (fs : PM (List Opd)) : PM Opd := bnd fs fun os => bnd (rsvs os) fun ds => lift (g ds)
theorem px_bi {id : String} {g : List D → Option Opd} {fs : PM (List Opd)} (h : Bi X (.builtin id) g) (ha : PAX X bo W (e :: es) fs) (hg : Gl X x) (hm : X.mg x = none) (hv : bootBuiltins x = some (.builtin id)) (hn : x ≠ "__name__" := by decide) (hdb : (x == ("__debug__" : Str)) = false := by decide)
    (he : starEach (e :: es) X.env = (false, eval e X.env) :: starEach es X.env := by rfl) (hpl : (backTo pos (starEach es X.env)).any (·.1) = false := by rfl) : PX X bo W (.Call (.Name x p) (e :: es) [] pos) (eBi g fs) := by
  obtain ⟨r, h1, h2⟩ := h
  obtain ⟨t, h3, h4⟩ := ha
  refine ⟨_, pe_callB h1 hg hm hv h3 hn hdb he hpl, fun c fp F env σ H Q hc R gg => ?_⟩
  refine h4 c fp F env σ H _ hc R ((Goes.bnd gg).mono (Ex.refl F) fun fp1 F1 env1 H1 os e1 R1 g1 vs hvs => ?_)
  obtain ⟨ds, k1, g2⟩ := rsvs_ok R1 hvs g1
  obtain ⟨o, ho, _⟩ := g2.lift
  exact h2 F1 H1 vs ds o Q R1.fh R1.sy k1 ho fun v' H' got => fin_got R1 g2 ho got
theorem px_ty {T : String} {g : List D → Option Opd} {fs : PM (List Opd)} (h : Bi X (.type T) g) (ha : PAX X bo W (e :: es) fs) (hg : Gl X x) (hm : X.mg x = none) (hv : bootBuiltins x = some (.type T)) (hn : x ≠ "__name__" := by decide) (hdb : (x == ("__debug__" : Str)) = false := by decide)
    (he : starEach (e :: es) X.env = (false, eval e X.env) :: starEach es X.env := by rfl) (hpl : (backTo pos (starEach es X.env)).any (·.1) = false := by rfl) : PX X bo W (.Call (.Name x p) (e :: es) [] pos) (eBi g fs) := by
  obtain ⟨r, h1, h2⟩ := h
  obtain ⟨t, h3, h4⟩ := ha
  refine ⟨_, pe_callTy h1 hg hm hv h3 hn hdb he hpl, fun c fp F env σ H Q hc R gg => ?_⟩
  refine h4 c fp F env σ H _ hc R ((Goes.bnd gg).mono (Ex.refl F) fun fp1 F1 env1 H1 os e1 R1 g1 vs hvs => ?_)
  obtain ⟨ds, k1, g2⟩ := rsvs_ok R1 hvs g1
  obtain ⟨o, ho, _⟩ := g2.lift
  exact h2 F1 H1 vs ds o Q R1.fh R1.sy k1 ho fun v' H' got => fin_got R1 g2 ho got
/-! slices -/
def toPart : Opd → PM (Option Int)
  | .val (.int i) => ret (some i)
  | _ => oops
def eSl (g : D → Option Int → Option Int → Option Opd) (f : PM Opd) (lo hi : PM (Option Int)) : PM Opd := bnd (opn f) fun o => bnd lo fun l => bnd hi fun h => bnd (rsv o) fun d => lift (g d l h)
def POX (X : Cx) (bo : List Nat) (W : WX) (e : Option Expr) (f : PM (Option Int)) : Prop :=
  ∃ t, PO X e t ∧ ∀ c fp F env σ H (Q : Option Int → Hp → Prop), OkC c bo → Rel X.K c fp F env σ H →
    Goes X.K c W σ F (f env) (fun fp' F' env' H' o => Q o H') → t σ H Q
theorem pox_none : POX X bo W none (ret none) := ⟨_, po_none, fun c fp F env σ H Q hc R g => g fp F H R (Ex.refl F)⟩
theorem pox_some {f : PM Opd} (h : PX X bo W e f) : POX X bo W (some e) (bnd f toPart) := by
  obtain ⟨t, h1, h2⟩ := h
  refine ⟨_, po_some h1, fun c fp F env σ H Q hc R g => ?_⟩
  refine h2 c fp F env σ H _ hc R ((Goes.bnd g).mono (Ex.refl F) fun fp1 F1 env1 H1 o e1 R1 g1 v hv => ?_)
  cases o with
  | val d =>
    cases d with
    | int i =>
      have hv' : Den X.K F1 (.int i) v := hv
      simp only [Den] at hv'
      exact ⟨i, hv', g1 fp1 F1 H1 R1 (Ex.refl F1)⟩
    | _ => exact g1.elim
  | _ => exact g1.elim
theorem px_slice {lo hi : Option Expr} {p2 : Pos} {g : D → Option Int → Option Int → Option Opd} {f : PM Opd} {fl fh : PM (Option Int)} (h : Sl2 X g) (ha : PX X bo W a f) (hl : POX X bo W lo fl) (hh : POX X bo W hi fh) :
    PX X bo W (.Subscript a (.Slice lo hi none p2) pos) (eSl g f fl fh) := by
  obtain ⟨r, r1, r2⟩ := h
  obtain ⟨t, h1, h2⟩ := px_opn ha
  obtain ⟨tl, h3, h4⟩ := hl
  obtain ⟨th, h5, h6⟩ := hh
  refine ⟨_, pe_slice r1 h1 h3 h5, fun c fp F env σ H Q hc R gg => ?_⟩
  refine h2 c fp F env σ H _ hc R ((Goes.bnd gg).mono (Ex.refl F) fun fp1 F1 env1 H1 o e1 R1 g1 v hn hv => ?_)
  refine h4 c fp1 F1 env1 σ H1 _ hc R1 ((Goes.bnd g1).mono (Ex.refl F1) fun fp2 F2 env2 H2 l e2 R2 g2 => ?_)
  refine h6 c fp2 F2 env2 σ H2 _ hc R2 ((Goes.bnd g2).mono (Ex.refl F2) fun fp3 F3 env3 H3 u e3 R3 g3 => ?_)
  obtain ⟨d, k1, g4⟩ := rsv_ok R3 (opd_ex (e2.trans e3) hn hv) g3
  obtain ⟨o', ho, _⟩ := g4.lift
  exact r2 F3 H3 v d l u o' Q R3.fh k1 ho fun v' H' got => fin_got R3 g4 ho got
end
end Pu

namespace Pu
open PySem PySem.Spec PyProof.Rows L2
inductive Out where
  | next
  | brk
  | cont
  | ret (o : Opd)
def OutOk (K : PySem.W.Frag) (c : Ct) (fp : Nat → List Addr) (F : Hp) (σ : L2.St) (H : Hp) (D : Ends) : Out → Prop
  | .next => D.nx σ H
  | .brk => D.bk σ H
  | .cont => D.ct σ H
  | .ret o => ∀ v, OpdOk K c fp F σ H o v → D.rt v H
def GoesS (K : PySem.W.Frag) (c : Ct) (W : WX) (F : Hp) (r : Res Out) (D : Ends) : Prop :=
  match r with
  | .ok out env' => ∀ fp' F' σ' H', Rel K c fp' F' env' σ' H' → Ex F F' → OutOk K c fp' F' σ' H' D out
  | .exc x env' => ∀ fp' F' σ' H' d, Rel K c fp' F' env' σ' H' → Ex F F' → ExnOk K F' H' x d → W x.cls d σ' H'
  | .bad => False
theorem GoesS.mono {K : PySem.W.Frag} {c : Ct} {W : WX} {F F' : Hp} {r : Res Out} {D : Ends} (h : GoesS K c W F r D) (e : Ex F F') : GoesS K c W F' r D := by
  cases r with
  | ok a env' => exact fun fp1 F1 σ1 H1 R e1 => h fp1 F1 σ1 H1 R (e.trans e1)
  | exc x env' => exact fun fp1 F1 σ1 H1 d R e1 => h fp1 F1 σ1 H1 d R (e.trans e1)
  | bad => exact h
/-- an expression's part, then a statement's -/
theorem GoesS.bnd {K : PySem.W.Frag} {c : Ct} {W : WX} {F : Hp} {σ : L2.St} {α : Type} {m : PM α} {k : α → PM Out} {env : PEnv} {D : Ends} (h : GoesS K c W F (bnd m k env) D) :
    Goes K c W σ F (m env) fun fp' F' env' H' a => GoesS K c W F' (k a env') D := by
  unfold Pu.bnd at h
  cases e : m env with
  | ok a env' =>
    rw [e] at h
    exact fun fp1 F1 H1 R e1 => h.mono e1
  | exc x env' =>
    rw [e] at h
    exact fun fp1 F1 H1 d R e1 z => h fp1 F1 σ H1 d R e1 z
  | bad => rw [e] at h; exact h
def PSX (X : Cx) (bo : List Nat) (W : WX) (st : Stmt) (g : PM Out) : Prop :=
  ∃ t, PS X st t ∧ ∀ c fp F env σ H (D : Ends), OkC c bo → Rel X.K c fp F env σ H → GoesS X.K c W F (g env) D → t D σ H
def PSsX (X : Cx) (bo : List Nat) (W : WX) (st : List Stmt) (g : PM Out) : Prop :=
  ∃ t, PSs X st t ∧ ∀ c fp F env σ H (D : Ends), OkC c bo → Rel X.K c fp F env σ H → GoesS X.K c W F (g env) D → t D σ H
def sSeq (g1 g2 : PM Out) : PM Out := bnd g1 fun o => match o with
  | .next => g2
  | o => ret o
section
variable {X : Cx} {bo : List Nat} {W : WX} {st : Stmt} {rest : List Stmt} {e a b : Expr} {pos p : Pos} {x : Str}
theorem pssx_nil : PSsX X bo W [] (ret .next) := ⟨_, pss_nil, fun c fp F env σ H D hc R g => g fp F σ H R (Ex.refl F)⟩
theorem pssx_cons {g1 g2 : PM Out} (h1 : PSX X bo W st g1) (h2 : PSsX X bo W rest g2) : PSsX X bo W (st :: rest) (sSeq g1 g2) := by
  obtain ⟨t1, a1, a2⟩ := h1
  obtain ⟨t2, b1, b2⟩ := h2
  refine ⟨_, pss_cons a1 b1, fun c fp F env σ H D hc R g => ?_⟩
  refine a2 c fp F env σ H _ hc R ?_
  unfold sSeq Pu.bnd at g
  cases e : g1 env with
  | ok o env' =>
    rw [e] at g
    intro fp1 F1 σ1 H1 R1 e1
    cases o with
    | next => exact b2 c fp1 F1 env' σ1 H1 D hc R1 (GoesS.mono g e1)
    | brk => exact g fp1 F1 σ1 H1 R1 e1
    | cont => exact g fp1 F1 σ1 H1 R1 e1
    | ret o => exact g fp1 F1 σ1 H1 R1 e1
  | exc x env' => rw [e] at g; exact g
  | bad => rw [e] at g; exact g
theorem pssx_one {g1 : PM Out} (h1 : PSX X bo W st g1) : PSsX X bo W [st] g1 := by
  obtain ⟨t1, a1, a2⟩ := h1
  exact ⟨_, pss_one a1, a2⟩
def sPass : PM Out := ret .next
theorem psx_pass : PSX X bo W (.Pass pos) sPass := ⟨_, ps_pass, fun c fp F env σ H D hc R g => g fp F σ H R (Ex.refl F)⟩
theorem psx_break : PSX X bo W (.Break pos) (ret .brk) := ⟨_, ps_break, fun c fp F env σ H D hc R g => g fp F σ H R (Ex.refl F)⟩
theorem psx_continue : PSX X bo W (.Continue pos) (ret .cont) := ⟨_, ps_continue, fun c fp F env σ H D hc R g => g fp F σ H R (Ex.refl F)⟩
theorem psx_doc {i : Str} {j : Nat} {pos' : Pos} : PSX X bo W (.Expr (.Constant (.str i) j pos) pos') sPass := ⟨_, ps_doc, fun c fp F env σ H D hc R g => g fp F σ H R (Ex.refl F)⟩
def sExpr (f : PM Opd) : PM Out := bnd f fun _ => ret .next
theorem psx_expr {f : PM Opd} (h : PX X bo W e f) (hs : swapsWith e none pos.line X.env = pure false := by rfl) : PSX X bo W (.Expr e pos) (sExpr f) := by
  obtain ⟨t, h1, h2⟩ := h
  refine ⟨_, ps_expr h1 hs, fun c fp F env σ H D hc R g => ?_⟩
  exact h2 c fp F env σ H _ hc R ((GoesS.bnd (σ := σ) g).mono (Ex.refl F) fun fp1 F1 env1 H1 o e1 R1 g1 v hv => g1 fp1 F1 σ H1 R1 (Ex.refl F1))
def sRet (f : PM Opd) : PM Out := bnd f fun o => ret (.ret o)
theorem psx_ret {f : PM Opd} (h : PX X bo W e f) : PSX X bo W (.Return (some e) pos) (sRet f) := by
  obtain ⟨t, h1, h2⟩ := h
  refine ⟨_, ps_ret h1, fun c fp F env σ H D hc R g => ?_⟩
  exact h2 c fp F env σ H _ hc R ((GoesS.bnd (σ := σ) g).mono (Ex.refl F) fun fp1 F1 env1 H1 o e1 R1 g1 v hv => g1 fp1 F1 σ H1 R1 (Ex.refl F1) v hv)
theorem psx_retN : PSX X bo W (.Return none pos) (ret (.ret (.val .none))) :=
  ⟨_, ps_retN, fun c fp F env σ H D hc R g => g fp F σ H R (Ex.refl F) .non (by show Den _ _ _ _; simp only [Den])⟩
def sIf (f : PM Bool) (g h : PM Out) : PM Out := bnd f fun k => if k = true then g else h
theorem psx_if {cc : Expr} {u w : List Stmt} {f : PM Bool} {g h : PM Out} (hc : PTX X bo W cc f) (ha : PSsX X bo W u g) (hb : PSsX X bo W w h) : PSX X bo W (.If cc u w pos) (sIf f g h) := by
  obtain ⟨t, h1, h2⟩ := hc
  obtain ⟨t2, h3, h4⟩ := ha
  obtain ⟨t3, h5, h6⟩ := hb
  refine ⟨_, ps_if h1 h3 h5, fun c fp F env σ H D hc R gg => ?_⟩
  refine h2 c fp F env σ H _ hc R ((GoesS.bnd (σ := σ) gg).mono (Ex.refl F) fun fp1 F1 env1 H1 k e1 R1 g1 => ?_)
  cases k with
  | true =>
    simp only [if_true] at g1 ⊢
    exact h4 c fp1 F1 env1 σ H1 D hc R1 g1
  | false =>
    simp only [Bool.false_eq_true, if_false] at g1 ⊢
    exact h6 c fp1 F1 env1 σ H1 D hc R1 g1
/-! ### assignments -/
def putS (i : Nat) (s : SV) : PM Unit := fun env => .ok () (env.set i (some s))
def asg (i : Nat) : Opd → PM Unit
  | .val d => putS i (.im d)
  | .tmp ds => putS i (.ls ds)
  | .tab t => putS i (.ab t)
  | .slot j => bnd (frz (.slot j)) fun d => putS i (.im d)
theorem asg_ok {K : PySem.W.Frag} {c : Ct} {fp : Nat → List Addr} {F : Hp} {env : PEnv} {σ : L2.St} {H : Hp} {D : Ends} {i : Nat} {o : Opd} {v : V} {k : PM Out} (hi : ∀ q ∈ c.br, q.1 ≠ i) (R : Rel K c fp F env σ H) (h : OpdOk K c fp F σ H o v)
    (g : GoesS K c W F (bnd (asg i o) (fun _ => k) env) D) : ∃ fp' F' env', Rel K c fp' F' env' (σ.set i (some v)) H ∧ Ex F F' ∧ GoesS K c W F' (k env') D := by
  cases o with
  | val d => exact ⟨_, F, _, R.put hi h, Ex.refl F, g⟩
  | tmp ds =>
    obtain ⟨p, xs, h1, h2, h3, h4, h5, h6⟩ := h
    refine ⟨_, F, _, R.putOwn (o := .ls ds) (v := v) (l := [p]) hi ⟨p, xs, h1, rfl, h2, h6⟩ (fun a ha => ?_), Ex.refl F, g⟩
    simp only [List.mem_cons, List.not_mem_nil, or_false] at ha
    subst ha
    exact ⟨h3, by rw [h2]; simp, h4, h5⟩
  | tab t =>
    obtain ⟨fT, h1, h2⟩ := h
    exact ⟨_, F, _, R.putOwn (o := .ab t) (v := v) (l := fT) hi h1 (fun a ha => ⟨(h2 a ha).1, abAt_in h1 a ha, (h2 a ha).2⟩), Ex.refl F, g⟩
  | slot j =>
    have g' : GoesS K c W F (bnd (frz (.slot j)) (fun d => bnd (putS i (.im d)) fun _ => k) env) D := by
      have : bnd (asg i (.slot j)) (fun _ => k) = bnd (frz (.slot j)) (fun d => bnd (putS i (.im d)) fun _ => k) := bnd_assoc _ _ _
      rw [← this]
      exact g
    have h' : σ[j]? = some (some v) := h
    cases e : env[j]? with
    | none => simp only [bnd, frz, e] at g'; exact g'.elim
    | some s =>
      cases s with
      | none => simp only [bnd, frz, e] at g'; exact g'.elim
      | some s =>
        obtain ⟨w, h1, h2⟩ := R.sl j s e
        rw [h'] at h1
        cases h1
        cases s with
        | im d => simp only [bnd, frz, e] at g'; exact ⟨_, F, _, R.put hi h2, Ex.refl F, g'⟩
        | ls ds =>
          simp only [bnd, frz, e] at g'
          obtain ⟨F1, R1, e1, d1⟩ := R.freeze e h'
          exact ⟨_, F1, _, R1.put hi d1, e1, g'.mono e1⟩
        | ab t => simp only [bnd, frz, e] at g'; exact g'.elim
def sSet (i : Nat) (f : PM Opd) : PM Out := bnd f fun o => bnd (asg i o) fun _ => ret .next
theorem psx_set {i : Nat} {pos' : Pos} {f : PM Opd} (hN : X.N.Nodup) (h : PX X bo W e f) (hi : X.N[i]? = some x := by rfl) (hb : bo.contains i = false := by rfl) (hx : Loc X.env.scope x := by first | exact Or.inl rfl | exact Or.inr rfl) (hs : swapsWith e (some (.Name x pos')) pos.line X.env = pure false := by rfl) (hf : X.fn x = true ∨ X.env.scope.names.lookup x = some .local := by first | exact .inl rfl | exact .inr rfl | assumption) :
    PSX X bo W (.Assign [.Name x pos'] e pos) (sSet i f) := by
  obtain ⟨t, h1, h2⟩ := h
  refine ⟨_, ps_set hN hi hx h1 hs hf, fun c fp F env σ H D hc R g => ?_⟩
  have hi0 : ∀ q ∈ c.br, q.1 ≠ i := okc_ne hc hb
  refine h2 c fp F env σ H _ hc R ((GoesS.bnd (σ := σ) g).mono (Ex.refl F) fun fp1 F1 env1 H1 o e1 R1 g1 v hv => ?_)
  obtain ⟨fp2, F2, env2, R2, e2, g2⟩ := asg_ok hi0 R1 hv g1
  exact g2 fp2 F2 _ H1 R2 (Ex.refl F2)
/-! targets -/
def Sets (js : List Nat) (σ σ' : L2.St) : Prop := ∀ vs : List Nat, (∀ j ∈ js, j ∈ vs) → wipe σ' vs = wipe σ vs
def TGX (X : Cx) (bo : List Nat) (tg : Expr) (js : List Nat) (s : D → PEnv → Option PEnv) : Prop :=
  ∃ t, PG X tg t ∧ ∀ c fp F env σ H v d env' (Q : L2.St → Hp → Prop), OkC c bo → Rel X.K c fp F env σ H → Den X.K F d v → s d env = some env' →
    (∀ fp' σ', Rel X.K c fp' F env' σ' H → Sets js σ σ' → Q σ' H) → t v σ H Q
def TGsX (X : Cx) (bo : List Nat) (ts : List Expr) (js : List Nat) (s : List D → PEnv → Option PEnv) : Prop :=
  ∃ t, PGs X ts t ∧ ∀ c fp F env σ H vs ds env' (Q : L2.St → Hp → Prop), OkC c bo → Rel X.K c fp F env σ H → Dens X.K F ds vs → s ds env = some env' →
    (∀ fp' σ', Rel X.K c fp' F env' σ' H → Sets js σ σ' → Q σ' H) → t vs σ H Q
theorem wipe_set (i : Nat) (x : Option V) (σ : L2.St) : ∀ vs : List Nat, i ∈ vs → wipe (σ.set i x) vs = wipe σ vs := by
  have get : ∀ (τ : L2.St) (vs : List Nat) (j : Nat), (wipe τ vs)[j]? = if j ∈ vs then (if j < τ.length then some none else none) else τ[j]? := by
    intro τ vs
    induction vs with
    | nil => intro j; simp [wipe]
    | cons v vs ih =>
      intro j
      unfold wipe
      by_cases e : v = j
      · subst e
        rw [List.getElem?_set_self']
        rw [ih v]
        by_cases hl : v < τ.length
        · by_cases hm : v ∈ vs
          · simp [hm, hl]
          · simp [hm, hl, List.getElem?_eq_getElem hl]
        · by_cases hm : v ∈ vs
          · simp [hm, hl]
          · simp [hm, hl, List.getElem?_eq_none (Nat.le_of_not_lt hl)]
      · rw [List.getElem?_set_ne e, ih j]
        have : (j ∈ v :: vs) ↔ j ∈ vs := by simp [Ne.symm e]
        simp only [this]
  intro vs hi
  apply List.ext_getElem?
  intro j
  rw [get, get]
  by_cases hj : j ∈ vs
  · simp [hj]
  · have : i ≠ j := fun e => hj (e ▸ hi)
    simp only [hj, if_false]
    rw [List.getElem?_set_ne this]
theorem sets_one (i : Nat) (x : Option V) (σ : L2.St) : Sets [i] σ (σ.set i x) := fun vs h => wipe_set i x σ vs (h i (by simp))
def tgName (i : Nat) : D → PEnv → Option PEnv := fun d env => some (env.set i (some (.im d)))
theorem tgx_name {i : Nat} (hN : X.N.Nodup) (hi : X.N[i]? = some x := by rfl) (hb : bo.contains i = false := by rfl) (hx : Loc X.env.scope x := by first | exact Or.inl rfl | exact Or.inr rfl) (hf : X.fn x = true ∨ X.env.scope.names.lookup x = some .local := by first | exact .inl rfl | exact .inr rfl | assumption) : TGX X bo (.Name x pos) [i] (tgName i) := by
  refine ⟨_, pg_name hN hi hx hf, fun c fp F env σ H v d env' Q hc R hd hs q => ?_⟩
  have hi0 : ∀ q ∈ c.br, q.1 ≠ i := okc_ne hc hb
  cases hs
  exact q _ _ (R.put hi0 hd) (sets_one i _ _)
def tgNil : List D → PEnv → Option PEnv
  | [], env => some env
  | _, _ => none
def tgCons (s : D → PEnv → Option PEnv) (r : List D → PEnv → Option PEnv) : List D → PEnv → Option PEnv
  | d :: ds, env => (s d env).bind (r ds)
  | [], _ => none
theorem tgsx_nil : TGsX X bo [] [] tgNil := by
  refine ⟨_, pgs_nil, fun c fp F env σ H vs ds env' Q hc R hd hs q => ?_⟩
  cases ds with
  | cons d ds => cases hs
  | nil =>
    cases hs
    simp only [Dens] at hd
    exact ⟨hd, q _ _ R fun _ _ => rfl⟩
theorem tgsx_cons {es : List Expr} {js js' : List Nat} {s : D → PEnv → Option PEnv} {r : List D → PEnv → Option PEnv} (h1 : TGX X bo e js s) (h2 : TGsX X bo es js' r) (hs : (assignEach (e :: es) X.env).map (·.2) = assign e X.env :: (assignEach es X.env).map (·.2) := by rfl) : TGsX X bo (e :: es) (js ++ js') (tgCons s r) := by
  obtain ⟨t, a1, a2⟩ := h1
  obtain ⟨u, b1, b2⟩ := h2
  refine ⟨_, pgs_cons a1 b1 hs, fun c fp F env σ H vs ds env' Q hc R hd hs q => ?_⟩
  cases ds with
  | nil => cases hs
  | cons d ds =>
    simp only [Dens] at hd
    obtain ⟨v, vr, e1, hd1, hd2⟩ := hd
    cases e2 : s d env with
    | none => simp only [tgCons, e2] at hs; cases hs
    | some env1 =>
      simp only [tgCons, e2, Option.bind_some] at hs
      exact ⟨v, vr, e1, a2 c fp F env σ H v d env1 _ hc R hd1 e2 fun fp1 σ1 R1 k1 => b2 c fp1 F env1 σ1 H vr ds env' Q hc R1 hd2 hs fun fp2 σ2 R2 k2 => q fp2 σ2 R2 fun ws hw =>
        (k2 ws fun j hj => hw j (List.mem_append_right _ hj)).trans (k1 ws fun j hj => hw j (List.mem_append_left _ hj))⟩
theorem PG.or {tg : Expr} {t t' : TG} (h : PG X tg t) (h' : PG X tg t') : PG X tg (fun v σ H Q => t v σ H Q ∨ t' v σ H Q) :=
  ⟨fun pins s σ H v u Q I r q => q.elim (h.run pins s σ H v u Q I r) (h'.run pins s σ H v u Q I r)⟩
def tgTup (n : Nat) (r : List D → PEnv → Option PEnv) : D → PEnv → Option PEnv
  | .tuple ds, env => if ds.length = n then r ds env else none
  | _, _ => none
theorem dens_len {K : PySem.W.Frag} {F : Hp} : ∀ {ds : List D} {xs : List V}, Dens K F ds xs → xs.length = ds.length
  | [], xs, h => by simp only [Dens] at h; subst h; rfl
  | d :: ds, xs, h => by
    simp only [Dens] at h
    obtain ⟨v, r, rfl, _, h2⟩ := h
    simp [dens_len h2]
theorem tgx_tup {es : List Expr} {k n : Nat} {r : List D → PEnv → Option PEnv} {js : List Nat} (hc : X.calm = true) (h : TGsX X bo es js r) (hn : (assignEach es X.env).length = n := by rfl) (hst : (assignEach es X.env).findIdx? (·.1) = none := by rfl) : TGX X bo (.Tuple es k pos) js (tgTup n r) := by
  obtain ⟨t, a1, a2⟩ := h
  refine ⟨_, pg_tup hc a1 hn hst, fun c fp F env σ H v d env' Q hc R hd hs q => ?_⟩
  cases d with
  | tuple ds =>
    simp only [tgTup] at hs
    split at hs
    · rename_i hl
      simp only [Den] at hd
      obtain ⟨a, xs, e1, h1, h2⟩ := hd
      exact ⟨a, xs, e1, ex_t R.fh h1, by rw [dens_len h2]; exact hl, a2 c fp F env σ H xs ds env' Q hc R h2 hs q⟩
    · cases hs
  | _ => cases hs
theorem frz_okS {K : PySem.W.Frag} {c : Ct} {fp : Nat → List Addr} {F : Hp} {env : PEnv} {σ : L2.St} {H : Hp} {D : Ends} (R : Rel K c fp F env σ H) {o : Opd} {v : V} (h : OpdOk K c fp F σ H o v) {k : Pu.D → PM Out} (g : GoesS K c W F (bnd (frz o) k env) D) :
    ∃ d fp' F' env', Rel K c fp' F' env' σ H ∧ Ex F F' ∧ Den K F' d v ∧ GoesS K c W F (k d env') D := by
  cases o with
  | val d => exact ⟨d, fp, F, env, R, Ex.refl F, h, g⟩
  | tmp ds =>
    obtain ⟨F1, R1, e1, d1⟩ := R.freezeTmp h
    exact ⟨.list ds, fp, F1, env, R1, e1, d1, g⟩
  | slot i =>
    have h' : σ[i]? = some (some v) := h
    cases e : env[i]? with
    | none => simp only [bnd, frz, e] at g; exact g.elim
    | some x =>
      cases x with
      | none => simp only [bnd, frz, e] at g; exact g.elim
      | some s =>
        obtain ⟨w, h1, h2⟩ := R.sl i s e
        rw [h'] at h1
        cases h1
        cases s with
        | im d => simp only [bnd, frz, e] at g; exact ⟨d, fp, F, env, R, Ex.refl F, h2, g⟩
        | ls ds =>
          simp only [bnd, frz, e] at g
          obtain ⟨F1, R1, e1, d1⟩ := R.freeze e h'
          exact ⟨.list ds, _, F1, _, R1, e1, d1, g⟩
        | ab t => simp only [bnd, frz, e] at g; exact g.elim
  | tab t =>
    cases ed : tabD t with
    | none => simp only [bnd, frz, ed, lift, oops] at g; exact g.elim
    | some d =>
      simp only [bnd, frz, ed, lift, ret] at g
      obtain ⟨F1, R1, e1, d1⟩ := R.freezeTab h ed
      exact ⟨d, fp, F1, env, R1, e1, d1, g⟩
def sAsg (s : D → PEnv → Option PEnv) (f : PM Opd) : PM Out := bnd (kept f) fun d env => match s d env with
  | some env' => .ok .next env'
  | none => .bad
/-- target = value, the value kept -/
theorem psx_asg {tg : Expr} {js : List Nat} {s : D → PEnv → Option PEnv} {f : PM Opd} (h : PX X bo W e f) (hg : TGX X bo tg js s) (hs : swapsWithSole [tg] e pos.line X.env = pure false := by rfl) (hw : swappedStores [tg] e X.env = pure none := by rfl)
    (h1 : (assignEach [tg] X.env).map (·.2) = [assign tg X.env] := by rfl) : PSX X bo W (.Assign [tg] e pos) (sAsg s f) := by
  obtain ⟨t, a1, a2⟩ := h
  obtain ⟨u, b1, b2⟩ := hg
  refine ⟨_, ps_asg a1 b1 hs hw h1, fun c fp F env σ H D hc R g => ?_⟩
  have g' : GoesS X.K c W F (bnd f (fun o => bnd (frz o) fun d env => match s d env with
    | some env' => .ok .next env'
    | none => .bad) env) D := by
    have : sAsg s f = bnd f (fun o => bnd (frz o) fun d env => match s d env with
      | some env' => .ok .next env'
      | none => .bad) := bnd_assoc _ _ _
    rw [← this]
    exact g
  refine a2 c fp F env σ H _ hc R ((GoesS.bnd (σ := σ) g').mono (Ex.refl F) fun fp1 F1 env1 H1 o e1 R1 g1 v hv => ?_)
  obtain ⟨d, fp2, F2, env2, R2, e2, hd, g2⟩ := frz_okS R1 hv g1
  cases e3 : s d env2 with
  | none => simp only [e3] at g2; exact g2.elim
  | some env3 =>
    simp only [e3] at g2
    exact b2 c fp2 F2 env2 σ H1 v d env3 _ hc R2 hd e3 fun fp3 σ3 R3 _ => g2 fp3 F2 σ3 H1 R3 e2
end
end Pu

namespace Pu
open PySem PySem.Spec PyProof.Rows L2
/-! ### the readings as one term -/
def semE (K : PySem.W.Frag) (bo : List Nat) (W : WX) (f : PM Opd) : TE := fun σ H Q => ∃ c fp F env, OkC c bo ∧ Rel K c fp F env σ H ∧ Goes K c W σ F (f env) (fun fp' F' env' H' o => ∀ v, OpdOk K c fp' F' σ H' o v → Q v H')
def semT (K : PySem.W.Frag) (bo : List Nat) (W : WX) (f : PM Bool) : TT := fun σ H Q => ∃ c fp F env, OkC c bo ∧ Rel K c fp F env σ H ∧ Goes K c W σ F (f env) (fun fp' F' env' H' o => Q o H')
def semG (K : PySem.W.Frag) (bo : List Nat) (js : List Nat) (s : D → PEnv → Option PEnv) : TG := fun v σ H Q => ∃ c fp F env d env', OkC c bo ∧ Rel K c fp F env σ H ∧ Den K F d v ∧ s d env = some env' ∧ ∀ fp' σ', Rel K c fp' F env' σ' H → Sets js σ σ' → Q σ' H
def semS (K : PySem.W.Frag) (bo : List Nat) (W : WX) (g : PM Out) : TS := fun D σ H => ∃ c fp F env, OkC c bo ∧ Rel K c fp F env σ H ∧ GoesS K c W F (g env) D
section
variable {X : Cx} {bo : List Nat} {W : WX} {e a b : Expr} {es : List Expr} {st : Stmt} {sts : List Stmt} {pos p : Pos} {x : Str}
theorem px_sem {f : PM Opd} (h : PX X bo W e f) : PE X e (semE X.K bo W f) := by
  obtain ⟨t, h1, h2⟩ := h
  exact ⟨fun pins s σ H Q I ⟨c, fp, F, env, hc, R, g⟩ => h1.run pins s σ H Q I (h2 c fp F env σ H Q hc R g)⟩
theorem ptx_sem {f : PM Bool} (h : PTX X bo W e f) : PT X e (semT X.K bo W f) := by
  obtain ⟨t, h1, h2⟩ := h
  exact ⟨fun pins s σ H Q I ⟨c, fp, F, env, hc, R, g⟩ => h1.run pins s σ H Q I (h2 c fp F env σ H Q hc R g)⟩
theorem tgx_sem {js : List Nat} {s : D → PEnv → Option PEnv} (h : TGX X bo e js s) : PG X e (semG X.K bo js s) := by
  obtain ⟨t, h1, h2⟩ := h
  exact ⟨fun pins s' σ H v u Q I r ⟨c, fp, F, env, d, env', hc, R, hd, hs, q⟩ => h1.run pins s' σ H v u Q I r (h2 c fp F env σ H v d env' Q hc R hd hs q)⟩
theorem pssx_sem {g : PM Out} (h : PSsX X bo W sts g) : PSs X sts (semS X.K bo W g) := by
  obtain ⟨t, h1, h2⟩ := h
  exact ⟨fun pins s σ H D I ⟨c, fp, F, env, hc, R, g⟩ => h1.run pins s σ H D I (h2 c fp F env σ H D hc R g)⟩
/-! ### lists that a name holds, changed -/
def lsAt (i : Nat) : PM (List D) := fun env => match env[i]? with
  | some (some (.ls ds)) => .ok ds env
  | _ => .bad
theorem lsAt_ok {K : PySem.W.Frag} {c : Ct} {fp : Nat → List Addr} {F F0 : Hp} {env : PEnv} {σ : L2.St} {H : Hp} {i : Nat} {β : Type} {k : List D → PM β} {G : (Nat → List Addr) → Hp → PEnv → Hp → β → Prop} (R : Rel K c fp F env σ H) (g : Goes K c W σ F0 (bnd (lsAt i) k env) G) :
    ∃ ds a xs, env[i]? = some (some (.ls ds)) ∧ σ[i]? = some (some (.ref a)) ∧ fp i = [a] ∧ H a = some (.lst xs) ∧ Dens K F ds xs ∧ Goes K c W σ F0 (k ds env) G := by
  cases e : env[i]? with
  | none => simp only [bnd, lsAt, e] at g; exact g.elim
  | some s =>
    cases s with
    | none => simp only [bnd, lsAt, e] at g; exact g.elim
    | some s =>
      cases s with
      | im d => simp only [bnd, lsAt, e] at g; exact g.elim
      | ab t => simp only [bnd, lsAt, e] at g; exact g.elim
      | ls ds =>
        simp only [bnd, lsAt, e] at g
        obtain ⟨v, h1, a, xs, h2, h3, h4, h5⟩ := R.sl i _ e
        subst h2
        exact ⟨ds, a, xs, rfl, h1, h3, h4, h5, g⟩
theorem Rel.setLs {K : PySem.W.Frag} {c : Ct} {fp : Nat → List Addr} {F : Hp} {env : PEnv} {σ : L2.St} {H : Hp} {i : Nat} {ds ds' : List D} {a : Addr} {ys : List V} (R : Rel K c fp F env σ H) (h1 : env[i]? = some (some (.ls ds))) (h2 : σ[i]? = some (some (.ref a))) (h3 : fp i = [a]) (h4 : Dens K F ds' ys) :
    Rel K c fp F (env.set i (some (.ls ds'))) σ (upd H a (.lst ys)) := by
  have ha := (R.ow i a (by rw [h3]; simp)).1
  have keep : ∀ q u, q ∉ fp i → H q = some u → upd H a (.lst ys) q = some u := fun q u hq z => by
    rw [upd_ne (fun e => hq (by rw [h3, e]; simp))]
    exact z
  refine R.mutate h1 h2 (Ex.refl F) (fun q u z => ?_) keep (fun q z => ?_) (fun q z => .inl z) ⟨a, ys, rfl, h3, upd_same, h4⟩ (fun ⟨t, z⟩ => nomatch z) (fun _ => ⟨_, rfl⟩)
  · rw [upd_ne (ne_of_none z ha)]
    exact R.fh q u z
  · by_cases e : q = a
    · rw [e, upd_same]; simp
    · rw [upd_ne e]; exact z
theorem dens_app {K : PySem.W.Frag} {F : Hp} : ∀ {ds ds' : List D} {xs ys : List V}, Dens K F ds xs → Dens K F ds' ys → Dens K F (ds ++ ds') (xs ++ ys)
  | [], _, _, _, h, h' => by simp only [Dens] at h; subst h; exact h'
  | d :: ds, ds', xs, ys, h, h' => by
    simp only [Dens] at h
    obtain ⟨v, r, rfl, h1, h2⟩ := h
    show Dens K F (d :: (ds ++ ds')) _
    simp only [Dens]
    exact ⟨v, r ++ ys, rfl, h1, dens_app h2 h'⟩
theorem dens_one {K : PySem.W.Frag} {F : Hp} {d : D} {v : V} (h : Den K F d v) : Dens K F [d] [v] := by
  simp only [Dens]
  exact ⟨v, [], rfl, h, rfl⟩
def bigLine : Nat := 10000000
theorem big_line : bigLine < sizeLine := by rw [sizeLine_eq]; decide
/-- x.append(e) -/
def eApp (i : Nat) (f : PM Opd) : PM Opd := bnd (lsAt i) fun _ => bnd (kept f) fun d => bnd (lsAt i) fun ds => if ds.length < bigLine then bnd (putS i (.ls (ds ++ [d]))) fun _ => ret (.val .none) else oops
theorem kept_bnd {β : Type} (f : PM Opd) (k : D → PM β) : bnd (kept f) k = bnd f fun o => bnd (frz o) k := bnd_assoc _ _ _
theorem px_app {i : Nat} {pv : Pos} {apos cpos : Pos} {f : PM Opd} (h : PX X bo W e f) (hN : X.N[i]? = some x := by rfl) (hv : Vis X.env.scope x := by first | exact Or.inl rfl | exact Or.inr (Or.inl rfl) | exact Or.inr (Or.inr rfl)) (hd : (x == ("__debug__" : Str)) = false := by decide)
    (hcd : (x == ("__classdict__" : Str)) = false := by decide)
    (hfew : ((backTo cpos (starEach [e] X.env)).all (fun x => !x.1) && (backToKw cpos (keywordEach [] X.env)).all (fun x => x.1.isSome)
      && decide ([e].length + ([] : List Keyword).length + (if ([] : List Keyword).isEmpty then 0 else 1) < 30)) = true := by rfl)
    (hline : (apos.endLine == cpos.line) = true := by rfl) (hs : starEach [e] X.env = (false, eval e X.env) :: starEach [] X.env := by rfl) (hplain : (backTo cpos (starEach [] X.env)).any (·.1) = false := by rfl) :
    PX X bo W (.Call (.Attribute (.Name x pv) "append" apos) [e] [] cpos) (eApp i f) := by
  obtain ⟨t, h1, h2⟩ := h
  refine ⟨_, pe_bm PySem.F.plainAttrs_list PySem.F.slot_list_append PySem.F.type_list_append mt_append (pe_var hN hv hd hcd) (pa_cons h1 pa_nil hs) rfl hfew hline hs hplain, fun c fp F env σ H Q hc R g => ?_⟩
  obtain ⟨ds, a, xs, k1, k2, k3, k4, k5, g1⟩ := lsAt_ok R g
  refine ⟨.ref a, k2, .inl ⟨rfl, xs, .inl (.inl k4)⟩, ?_⟩
  rw [kept_bnd] at g1
  refine h2 c fp F env σ H _ hc R ((Goes.bnd g1).mono (Ex.refl F) fun fp1 F1 env1 H1 o e1 R1 g2 v hv => ?_)
  obtain ⟨d, fp2, F2, env2, R2, e2, hd', g3⟩ := frz_ok R1 hv g2
  obtain ⟨ds2, a2, xs2, q1, q2, q3, q4, q5, g4⟩ := lsAt_ok R2 g3
  rw [k2] at q2
  cases q2
  split at g4
  · rename_i hl
    refine ⟨a, xs2, v, rfl, rfl, q4, ?_, ?_⟩
    · rw [dens_len q5]; exact Nat.lt_trans hl big_line
    · exact g4 fp2 F2 _ (R2.setLs q1 k2 q3 (dens_app q5 (dens_one hd'))) e2 .non (by show Den _ _ _ _; simp only [Den])
  · exact g4.elim
/-- x.extend([..]) -/
def eExt (i : Nat) (f : PM Opd) : PM Opd := bnd (lsAt i) fun _ => bnd (kept f) fun d => bnd (lsAt i) fun ds => match d with
  | .list ds' => if ds.length + ds'.length < bigLine then bnd (putS i (.ls (ds ++ ds'))) fun _ => ret (.val .none) else oops
  | _ => oops
theorem px_ext {i : Nat} {pv : Pos} {apos cpos : Pos} {f : PM Opd} (h : PX X bo W e f) (hN : X.N[i]? = some x := by rfl) (hv : Vis X.env.scope x := by first | exact Or.inl rfl | exact Or.inr (Or.inl rfl) | exact Or.inr (Or.inr rfl)) (hd : (x == ("__debug__" : Str)) = false := by decide)
    (hcd : (x == ("__classdict__" : Str)) = false := by decide)
    (hfew : ((backTo cpos (starEach [e] X.env)).all (fun x => !x.1) && (backToKw cpos (keywordEach [] X.env)).all (fun x => x.1.isSome)
      && decide ([e].length + ([] : List Keyword).length + (if ([] : List Keyword).isEmpty then 0 else 1) < 30)) = true := by rfl)
    (hline : (apos.endLine == cpos.line) = true := by rfl) (hs : starEach [e] X.env = (false, eval e X.env) :: starEach [] X.env := by rfl) (hplain : (backTo cpos (starEach [] X.env)).any (·.1) = false := by rfl) :
    PX X bo W (.Call (.Attribute (.Name x pv) "extend" apos) [e] [] cpos) (eExt i f) := by
  obtain ⟨t, h1, h2⟩ := h
  refine ⟨_, pe_bm PySem.F.plainAttrs_list PySem.F.slot_list_extend PySem.F.type_list_extend mt_extend (pe_var hN hv hd hcd) (pa_cons h1 pa_nil hs) rfl hfew hline hs hplain, fun c fp F env σ H Q hc R g => ?_⟩
  obtain ⟨ds, a, xs, k1, k2, k3, k4, k5, g1⟩ := lsAt_ok R g
  refine ⟨.ref a, k2, .inl ⟨rfl, xs, .inl (.inl k4)⟩, ?_⟩
  rw [kept_bnd] at g1
  refine h2 c fp F env σ H _ hc R ((Goes.bnd g1).mono (Ex.refl F) fun fp1 F1 env1 H1 o e1 R1 g2 v hv => ?_)
  obtain ⟨d, fp2, F2, env2, R2, e2, hd', g3⟩ := frz_ok R1 hv g2
  obtain ⟨ds2, a2, xs2, q1, q2, q3, q4, q5, g4⟩ := lsAt_ok R2 g3
  rw [k2] at q2
  cases q2
  cases d with
  | list ds' =>
    simp only at g4
    split at g4
    · rename_i hl
      simp only [Den] at hd'
      obtain ⟨b, zs, rfl, z1, z2⟩ := hd'
      refine ⟨a, b, xs2, zs, rfl, rfl, q4, R2.fh _ _ z1, ?_, ?_⟩
      · rw [dens_len q5, dens_len z2]; exact Nat.le_of_lt (Nat.lt_trans hl big_line)
      · exact g4 fp2 F2 _ (R2.setLs q1 k2 q3 (dens_app q5 z2)) e2 .non (by show Den _ _ _ _; simp only [Den])
    · exact g4.elim
  | _ => exact g4.elim
/-- x[i] = e at a list that a name holds -/
def sPutAt (i : Nat) (fe fi : PM Opd) : PM Out := bnd (kept fe) fun d => bnd (lsAt i) fun _ => bnd (opn fi) fun o => bnd (rsv o) fun k => bnd (lsAt i) fun ds => match k with
  | .int z => match ixN ds.length z with
    | some j => bnd (putS i (.ls (ds.set j d))) fun _ => ret .next
    | none => oops
  | _ => oops
theorem dens_set {K : PySem.W.Frag} {F : Hp} {d : D} {v : V} (h : Den K F d v) : ∀ {ds : List D} {xs : List V} (j : Nat), Dens K F ds xs → Dens K F (ds.set j d) (xs.set j v)
  | [], xs, j, h' => by simp only [Dens] at h'; subst h'; simp [Dens]
  | d' :: ds, xs, 0, h' => by
    simp only [Dens] at h'
    obtain ⟨v', r, rfl, h1, h2⟩ := h'
    show Dens K F (d :: ds) (v :: r)
    simp only [Dens]
    exact ⟨v, r, rfl, h, h2⟩
  | d' :: ds, xs, j + 1, h' => by
    simp only [Dens] at h'
    obtain ⟨v', r, rfl, h1, h2⟩ := h'
    show Dens K F (d' :: ds.set j d) (v' :: r.set j v)
    simp only [Dens]
    exact ⟨v', _, rfl, h1, dens_set h j h2⟩
end
end Pu

namespace Pu
open PySem PySem.Spec PyProof.Rows L2
/-! ### what is walked -/
def Steady (K : PySem.W.Frag) (c : Ct) (F' : Hp) (ds : List D) (Gp : Hp → Prop) (Y : Nat → Hp → V → Hp → Prop) : Prop :=
  (∀ F H, Ex F' F → Ex F H → Gp H) ∧
  (∀ i fp F env σ H x H', i < ds.length → Rel K c fp F env σ H → Ex F' F → Y i H x H' → ∃ F'' d, ds[i]? = some d ∧ Rel K c fp F'' env σ H' ∧ Ex F F'' ∧ Den K F'' d x ∧ Ex H H')
def PIX (X : Cx) (bo : List Nat) (W : WX) (tg e : Expr) (f : PM (List D)) : Prop :=
  ∃ wi, PI X tg e wi ∧ ∀ c fp F env σ H (R : It → Hp → Prop), OkC c bo → Rel X.K c fp F env σ H →
    Goes X.K c W σ F (f env) (fun fp' F' env' H' ds => ∀ J Gp Y, Walk J ds.length Gp Y → (∀ c, Steady X.K c F' ds Gp Y) → R J H') → wi σ H R
section
variable {X : Cx} {bo : List Nat} {W : WX} {tg e a b : Expr} {es : List Expr} {st : Stmt} {sts : List Stmt} {pos p : Pos} {x : Str}
theorem PI.or {wi wi' : TI} (h : PI X tg e wi) (h' : PI X tg e wi') : PI X tg e (fun σ H R => wi σ H R ∨ wi' σ H R) :=
  ⟨fun pins s σ H R I q => q.elim (h.run pins s σ H R I) (h'.run pins s σ H R I)⟩
theorem dens_get {K : PySem.W.Frag} {F : Hp} : ∀ {ds : List D} {xs : List V} {i : Nat} {v : V}, Dens K F ds xs → xs[i]? = some v → ∃ d, ds[i]? = some d ∧ Den K F d v
  | [], xs, i, v, h, e => by simp only [Dens] at h; subst h; simp at e
  | d :: ds, xs, 0, v, h, e => by
    simp only [Dens] at h
    obtain ⟨w, r, rfl, h1, h2⟩ := h
    simp at e
    subst e
    exact ⟨d, rfl, h1⟩
  | d :: ds, xs, i + 1, v, h, e => by
    simp only [Dens] at h
    obtain ⟨w, r, rfl, h1, h2⟩ := h
    simp at e
    obtain ⟨d', e', h'⟩ := dens_get h2 e
    exact ⟨d', by simpa using e', h'⟩
theorem dens_get' {K : PySem.W.Frag} {F : Hp} {ds : List D} {xs : List V} {i : Nat} {d : D} (h : Dens K F ds xs) (e : ds[i]? = some d) : ∃ v, xs[i]? = some v ∧ Den K F d v := by
  have hl := dens_len h
  obtain ⟨hi, _⟩ := List.getElem?_eq_some_iff.mp e
  have hx : xs[i]? = some (xs[i]'(by omega)) := List.getElem?_eq_getElem (by omega)
  obtain ⟨d', e', h'⟩ := dens_get h hx
  rw [e] at e'
  cases e'
  exact ⟨_, hx, h'⟩
def itemsOf : D → Option (List D)
  | .list ds => some ds
  | .tuple ds => some ds
  | _ => none
def eIter (f : PM Opd) : PM (List D) := bnd (kept f) fun d => lift (itemsOf d)
def iSeq (K : PySem.W.Frag) (tl : TE) : TI := fun σ H R => tl σ H fun x H1 => ∃ a, x = .ref a ∧ ((∃ xs, SqL K H1 a xs ∧ R (Itl K a) H1) ∨ (∃ xs, SqT K H1 a xs ∧ R (Itt K a) H1))
theorem pi_seq {l : Expr} {tl : TE} (hl : PE X l tl) : PI X tg l (iSeq X.K tl) := by
  constructor
  intro pins s0 σ H R I h
  refine thn (hl.run pins s0 σ H _ I h) ?_
  rintro v s1 ⟨x, H1, I1, r1, a, rfl, q⟩
  cases r1
  have fresh : ∀ b ∈ [s1.heap.objs.size], FpOk X pins H1 b := by
    intro b hb
    simp only [List.mem_cons, List.not_mem_nil, or_false] at hb
    rw [hb]
    exact I1.fpOk (Nat.le_refl _) (I1.hok.fresh (Nat.le_refl _))
  rcases q with ⟨xs, hq, q⟩ | ⟨xs, hq, q⟩
  · obtain ⟨its, rv, pl, _⟩ := I1.list hq
    exact wpAny_pyIter_list pl.isList ⟨s1.heap.objs.size, [s1.heap.objs.size], _, _, H1, rfl, I1.kept (t' := s1.toks) (fun b o z => Heap.get?_push_of_some _ z), turn_list a _, ⟨_, Heap.get?_push_size _ rfl, rfl, rfl⟩, fresh, q⟩
  · obtain ⟨its, rv, tp, _⟩ := I1.tuple hq
    exact wpAny_pyIter_tuple (show s1.heap.IsTuple a its.toArray from tp) ⟨s1.heap.objs.size, [s1.heap.objs.size], _, _, H1, rfl, I1.kept (t' := s1.toks) (fun b o z => Heap.get?_push_of_some _ z), turn_tuple a _, ⟨_, Heap.get?_push_size _ rfl, rfl, rfl⟩, fresh, q⟩
theorem eIter_bnd (f : PM Opd) : eIter f = bnd f fun o => bnd (frz o) fun d => lift (itemsOf d) := kept_bnd _ _
/-- a list or a tuple -/
theorem pix_seq {f : PM Opd} (h : PX X bo W e f) : PIX X bo W tg e (eIter f) := by
  obtain ⟨t, h1, h2⟩ := h
  refine ⟨_, pi_seq h1, fun c fp F env σ H R hc Rl g => ?_⟩
  rw [eIter_bnd] at g
  refine h2 c fp F env σ H _ hc Rl ((Goes.bnd g).mono (Ex.refl F) fun fp1 F1 env1 H1 o e1 R1 g1 v hv => ?_)
  obtain ⟨d, fp2, F2, env2, R2, e2, hd, g2⟩ := frz_ok R1 hv g1
  obtain ⟨ds, hds, g3⟩ := g2.lift
  cases d with
  | list ds' =>
    have hds' := Option.some.inj hds
    subst hds'
    simp only [Den] at hd
    obtain ⟨a, xs, rfl, k1, k2⟩ := hd
    have wk : Walk (Itl X.K a) ds'.length (fun H => SqL X.K H a xs) (YAt xs) := by rw [← dens_len k2]; exact walk_list
    refine ⟨a, rfl, .inl ⟨xs, .inl (.inl (R2.fh _ _ k1)), g3 fp2 F2 H1 R2 e2 _ _ _ wk fun c' => ⟨fun F3 H3 e3 e4 => .inl (.inl (e4 _ _ (e3 _ _ k1))), fun i fp F3 env σ H x H' hi R3 e3 y => ?_⟩⟩⟩
    obtain ⟨rfl, hy⟩ := y
    obtain ⟨d', hd', den⟩ := dens_get k2 hy
    exact ⟨F3, d', hd', R3, Ex.refl _, den_mono e3 _ _ den, Ex.refl _⟩
  | tuple ds' =>
    have hds' := Option.some.inj hds
    subst hds'
    simp only [Den] at hd
    obtain ⟨a, xs, rfl, k1, k2⟩ := hd
    have wk : Walk (Itt X.K a) ds'.length (fun H => SqT X.K H a xs) (YAt xs) := by rw [← dens_len k2]; exact walk_tup
    refine ⟨a, rfl, .inr ⟨xs, ex_t R2.fh k1, g3 fp2 F2 H1 R2 e2 _ _ _ wk fun c' => ⟨fun F3 H3 e3 e4 => ex_t e4 (ex_t e3 k1), fun i fp F3 env σ H x H' hi R3 e3 y => ?_⟩⟩⟩
    obtain ⟨rfl, hy⟩ := y
    obtain ⟨d', hd', den⟩ := dens_get k2 hy
    exact ⟨F3, d', hd', R3, Ex.refl _, den_mono e3 _ _ den, Ex.refl _⟩
  | _ => cases hds
/-- range(a), range(a, b) -/
def rangeD (lo : Int) (n : Nat) : List D := (List.range n).map fun i => .int (lo + (i : Nat))
theorem walk_rangeD {K : PySem.W.Frag} {c : Ct} {F' : Hp} {lo : Int} {n : Nat} : Steady K c F' (rangeD lo n) (fun _ => True) (YFn fun i => .int (lo + (i : Nat))) :=
  ⟨fun _ _ _ _ => trivial, fun i fp F env σ H x H' hi R e y => by
    obtain ⟨rfl, rfl⟩ := y
    have hi' : i < n := by simpa [rangeD] using hi
    exact ⟨F, .int (lo + i), by simp [rangeD, hi'], R, Ex.refl _, by simp only [Den], Ex.refl _⟩⟩
def inLine (i : Int) : Bool := decide (i.natAbs < 4611686018427387904)
theorem inLine_ok {i : Int} (h : inLine i = true) : -(2 ^ 62) ≤ i ∧ i < 2 ^ 62 := by
  have h' : i.natAbs < 4611686018427387904 := of_decide_eq_true h
  omega
def int1 : List D → Option Int
  | [.int i] => if inLine i = true then some i else none
  | _ => none
def int2 : List D → Option (Int × Int)
  | [.int i, .int j] => if inLine i = true ∧ inLine j = true then some (i, j) else none
  | _ => none
def eRng1 (fs : PM (List D)) : PM (List D) := bnd fs fun ds => bnd (lift (int1 ds)) fun j => ret (rangeD 0 j.toNat)
def eRng2 (fs : PM (List D)) : PM (List D) := bnd fs fun ds => bnd (lift (int2 ds)) fun j => ret (rangeD j.1 (j.2 - j.1).toNat)
theorem pix_range1 {fs : PM (List D)} (hg : Gl X "range") (hm : X.mg "range" = none) (ha : PAF X bo W [a] fs) (hs : starEach [a] X.env = [(false, eval a X.env)] := by rfl) : PIX X bo W tg (.Call (.Name "range" p) [a] [] pos) (eRng1 fs) := by
  obtain ⟨t, h1, h2⟩ := ha
  refine ⟨_, pi_range1 hg hm h1 hs, fun c fp F env σ H R hc Rl g => ?_⟩
  refine h2 c fp F env σ H _ hc Rl ((Goes.bnd g).mono (Ex.refl F) fun fp1 F1 env1 H1 ds e1 R1 g1 vs hl hd => ?_)
  obtain ⟨j, hj, g2⟩ := goes_lift_bnd g1
  unfold int1 at hj
  split at hj
  · rename_i i
    split at hj
    · rename_i hb
      have hj' := Option.some.inj hj
      subst hj'
      simp only [Dens, Den] at hd
      obtain ⟨v, r, rfl, rfl, rfl⟩ := hd
      have hn : (rangeD 0 i.toNat).length = i.toNat := by simp [rangeD]
      exact ⟨i, rfl, (inLine_ok hb).1, (inLine_ok hb).2, g2 fp1 F1 H1 R1 (Ex.refl F1) _ _ _ (by rw [hn]; exact walk_range) fun c' => walk_rangeD⟩
    · cases hj
  · cases hj
theorem pix_range2 {fs : PM (List D)} (hg : Gl X "range") (hm : X.mg "range" = none) (ha : PAF X bo W [a, b] fs) (hs : starEach [a, b] X.env = [(false, eval a X.env), (false, eval b X.env)] := by rfl) (hs2 : starEach [b] X.env = [(false, eval b X.env)] := by rfl) : PIX X bo W tg (.Call (.Name "range" p) [a, b] [] pos) (eRng2 fs) := by
  obtain ⟨t, h1, h2⟩ := ha
  refine ⟨_, pi_range2 hg hm h1 hs hs2, fun c fp F env σ H R hc Rl g => ?_⟩
  refine h2 c fp F env σ H _ hc Rl ((Goes.bnd g).mono (Ex.refl F) fun fp1 F1 env1 H1 ds e1 R1 g1 vs hl hd => ?_)
  obtain ⟨j, hj, g2⟩ := goes_lift_bnd g1
  unfold int2 at hj
  split at hj
  · rename_i i k
    split at hj
    · rename_i hb
      cases hj
      simp only [Dens, Den] at hd
      obtain ⟨v, r, rfl, rfl, v2, r2, rfl, rfl, rfl⟩ := hd
      have hn : (rangeD i (k - i).toNat).length = (k - i).toNat := by simp [rangeD]
      exact ⟨i, k, rfl, ⟨(inLine_ok hb.1).1, (inLine_ok hb.1).2, (inLine_ok hb.2).1, (inLine_ok hb.2).2⟩, g2 fp1 F1 H1 R1 (Ex.refl F1) _ _ _ (by rw [hn]; exact walk_range) fun c' => walk_rangeD⟩
    · cases hj
  · cases hj
/-! ### for -/
def goFor (s : D → PEnv → Option PEnv) (body : PM Out) : List D → PM Out
  | [] => fun env => .ok .next env
  | d :: ds => fun env => match s d env with
    | none => .bad
    | some env1 => match body env1 with
      | .ok .next e => goFor s body ds e
      | .ok .cont e => goFor s body ds e
      | .ok .brk e => .ok .next e
      | .ok (.ret o) e => .ok (.ret o) e
      | .exc x e => .exc x e
      | .bad => .bad
def sFor (it : PM (List D)) (s : D → PEnv → Option PEnv) (body : PM Out) : PM Out := bnd it (goFor s body)
theorem psx_for {js : List Nat} {body : List Stmt} {it : PM (List D)} {s : D → PEnv → Option PEnv} {g : PM Out} (hp : PassesOwn (model X.prog X.w) X.A X.env X.xe) (hcalm : X.calm = true) (hi : PIX X bo W tg e it) (hg : TGX X bo tg js s) (hb : PSsX X bo W body g)
    (hs : ∀ x, foldedSetIterable e X.env x = pure x := by intro _; rfl) : PSX X bo W (.For tg e body [] pos) (sFor it s g) := by
  obtain ⟨wi, i1, i2⟩ := hi
  obtain ⟨tg', g1, g2⟩ := hg
  obtain ⟨tb, b1, b2⟩ := hb
  refine ⟨_, ps_for hp hcalm i1 g1 b1 hs, fun c fp F env σ H D hc R gg => ?_⟩
  refine i2 c fp F env σ H _ hc R ((GoesS.bnd (σ := σ) gg).mono (Ex.refl F) fun fp1 F1 env1 H1 ds e1 R1 q1 J Gp Y wk st => ?_)
  obtain ⟨st1, st2⟩ := st c
  refine for_it wk (fun i σ H => ∃ fp F env, Rel X.K c fp F env σ H ∧ Ex F1 F ∧ GoesS X.K c W F (goFor s g (ds.drop i) env) D) ⟨fp1, F1, env1, R1, Ex.refl _, q1⟩ (fun i σ H _ ⟨fp, F, env, R, e, _⟩ => st1 F H e R.fh) (fun i x σ2 H2 H3 hi ⟨fp2, F2, env2, R2, e2, q2⟩ y => ?_) (fun σ2 H2 ⟨fp2, F2, env2, R2, e2, q2⟩ => ?_)
  · obtain ⟨F3, d, hd, R3, e3, den, _⟩ := st2 i fp2 F2 env2 σ2 H2 x H3 hi R2 e2 y
    have hdr : ds.drop i = d :: ds.drop (i + 1) := by
      have hlt : i < ds.length := hi
      rw [List.drop_eq_getElem_cons hlt]
      rw [List.getElem?_eq_getElem hlt] at hd
      cases hd
      rfl
    rw [hdr] at q2
    cases es : s d env2 with
    | none => simp only [goFor, es] at q2; exact q2.elim
    | some env3 =>
      simp only [goFor, es] at q2
      refine g2 c fp2 F3 env2 σ2 H3 x d env3 _ hc R3 den es fun fp4 σ4 R4 _ => ?_
      refine b2 c fp4 F3 env3 σ4 H3 _ hc R4 ?_
      cases eb : g env3 with
      | bad => rw [eb] at q2; exact q2.elim
      | exc x e => rw [eb] at q2; exact GoesS.mono q2 e3
      | ok o e =>
        rw [eb] at q2
        intro fp5 F5 σ5 H5 R5 e5
        cases o with
        | next => exact ⟨fp5, F5, e, R5, (e2.trans e3).trans e5, GoesS.mono q2 (e3.trans e5)⟩
        | cont => exact ⟨fp5, F5, e, R5, (e2.trans e3).trans e5, GoesS.mono q2 (e3.trans e5)⟩
        | brk => exact q2 fp5 F5 σ5 H5 R5 (e3.trans e5)
        | ret o => exact q2 fp5 F5 σ5 H5 R5 (e3.trans e5)
  · rw [List.drop_length] at q2
    exact q2 fp2 F2 σ2 H2 R2 (Ex.refl _)
/-! ### while -/
def goWhile (c : PM Bool) (body : PM Out) : Nat → PM Out
  | 0 => fun _ => .bad
  | n + 1 => bnd c fun k => if k = true then (fun env => match body env with
      | .ok .next e => goWhile c body n e
      | .ok .cont e => goWhile c body n e
      | .ok .brk e => .ok .next e
      | .ok (.ret o) e => .ok (.ret o) e
      | .exc x e => .exc x e
      | .bad => .bad) else ret .next
theorem psx_while (n : Nat) {cc : Expr} {body : List Stmt} {f : PM Bool} {g : PM Out} (hp : PassesOwn (model X.prog X.w) X.A X.env X.xe) (hcc : PTX X bo W cc f) (hb : PSsX X bo W body g) : PSX X bo W (.While cc body [] pos) (goWhile f g n) := by
  obtain ⟨tc, c1, c2⟩ := hcc
  obtain ⟨tb, b1, b2⟩ := hb
  refine ⟨_, ps_while hp c1 b1, fun c fp F env σ H D hc R gg => ?_⟩
  refine ⟨fun m σ H => ∃ fp F env, Rel X.K c fp F env σ H ∧ GoesS X.K c W F (goWhile f g m env) D, ⟨n, fp, F, env, R, gg⟩, ?_⟩
  rintro m σ1 H1 ⟨fp1, F1, env1, R1, g1⟩
  cases m with
  | zero => exact g1.elim
  | succ m =>
    refine c2 c fp1 F1 env1 σ1 H1 _ hc R1 ((GoesS.bnd (σ := σ1) g1).mono (Ex.refl F1) fun fp2 F2 env2 H2 k e2 R2 g2 => ?_)
    cases k with
    | false =>
      simp only [Bool.false_eq_true, if_false] at g2 ⊢
      exact g2 fp2 F2 σ1 H2 R2 (Ex.refl _)
    | true =>
      simp only [if_true] at g2 ⊢
      refine ⟨fun σ H => ∃ fp F env, Rel X.K c fp F env σ H ∧ GoesS X.K c W F (goWhile f g m env) D, fun σ' H' w => ⟨m, Nat.lt_succ_self m, w⟩, ?_⟩
      refine b2 c fp2 F2 env2 σ1 H2 _ hc R2 ?_
      cases eb : g env2 with
      | bad => rw [eb] at g2; exact g2.elim
      | exc x e => rw [eb] at g2; exact g2
      | ok o e =>
        rw [eb] at g2
        intro fp5 F5 σ5 H5 R5 e5
        cases o with
        | next => exact ⟨fp5, F5, e, R5, GoesS.mono g2 e5⟩
        | cont => exact ⟨fp5, F5, e, R5, GoesS.mono g2 e5⟩
        | brk => exact g2 fp5 F5 σ5 H5 R5 e5
        | ret o => exact g2 fp5 F5 σ5 H5 R5 e5
end
end Pu

namespace Pu
open PySem PySem.Spec PyProof.Rows L2
def wipeE (env : PEnv) : List Nat → PEnv
  | [] => env
  | v :: vs => (wipeE env vs).set v none
def imOnly : Option (Option SV) → Option SV
  | some (some (.im d)) => some (.im d)
  | _ => none
def rst (env0 : PEnv) (env : PEnv) : List Nat → PEnv
  | [] => env
  | v :: vs => (rst env0 env vs).set v (imOnly env0[v]?)
theorem get_wipeE (env : PEnv) : ∀ (vs : List Nat) (j : Nat), (wipeE env vs)[j]? = if j ∈ vs then (if j < env.length then some none else none) else env[j]?
  | [], j => by simp [wipeE]
  | v :: vs, j => by
    unfold wipeE
    by_cases e : v = j
    · subst e
      rw [List.getElem?_set_self', get_wipeE env vs v]
      by_cases hl : v < env.length
      · by_cases hm : v ∈ vs
        · simp [hm, hl]
        · simp [hm, hl, List.getElem?_eq_getElem hl]
      · by_cases hm : v ∈ vs
        · simp [hm, hl]
        · simp [hm, hl, List.getElem?_eq_none (Nat.le_of_not_lt hl)]
    · rw [List.getElem?_set_ne e, get_wipeE env vs j]
      have : (j ∈ v :: vs) ↔ j ∈ vs := by simp [Ne.symm e]
      simp only [this]
theorem get_wipe (τ : L2.St) : ∀ (vs : List Nat) (j : Nat), (wipe τ vs)[j]? = if j ∈ vs then (if j < τ.length then some none else none) else τ[j]?
  | [], j => by simp [wipe]
  | v :: vs, j => by
    unfold wipe
    by_cases e : v = j
    · subst e
      rw [List.getElem?_set_self', get_wipe τ vs v]
      by_cases hl : v < τ.length
      · by_cases hm : v ∈ vs
        · simp [hm, hl]
        · simp [hm, hl, List.getElem?_eq_getElem hl]
      · by_cases hm : v ∈ vs
        · simp [hm, hl]
        · simp [hm, hl, List.getElem?_eq_none (Nat.le_of_not_lt hl)]
    · rw [List.getElem?_set_ne e, get_wipe τ vs j]
      have : (j ∈ v :: vs) ↔ j ∈ vs := by simp [Ne.symm e]
      simp only [this]
theorem get_rst (env0 env : PEnv) : ∀ (vs : List Nat) (j : Nat), (rst env0 env vs)[j]? = if j ∈ vs then (if j < env.length then some (imOnly env0[j]?) else none) else env[j]?
  | [], j => by simp [rst]
  | v :: vs, j => by
    unfold rst
    by_cases e : v = j
    · subst e
      rw [List.getElem?_set_self', get_rst env0 env vs v]
      by_cases hl : v < env.length
      · by_cases hm : v ∈ vs
        · simp [hm, hl]
        · simp [hm, hl, List.getElem?_eq_getElem hl]
      · by_cases hm : v ∈ vs
        · simp [hm, hl]
        · simp [hm, hl, List.getElem?_eq_none (Nat.le_of_not_lt hl)]
    · rw [List.getElem?_set_ne e, get_rst env0 env vs j]
      have : (j ∈ v :: vs) ↔ j ∈ vs := by simp [Ne.symm e]
      simp only [this]
theorem len_wipeE (env : PEnv) : ∀ vs : List Nat, (wipeE env vs).length = env.length
  | [] => rfl
  | v :: vs => by unfold wipeE; rw [List.length_set, len_wipeE env vs]
theorem len_rst (env0 env : PEnv) : ∀ vs : List Nat, (rst env0 env vs).length = env.length
  | [] => rfl
  | v :: vs => by unfold rst; rw [List.length_set, len_rst env0 env vs]
theorem wipe_wipe (σ : L2.St) (vs : List Nat) : wipe (wipe σ vs) vs = wipe σ vs := by
  apply List.ext_getElem?
  intro j
  rw [get_wipe, get_wipe]
  by_cases hj : j ∈ vs
  · simp [hj, wipe_length]
  · simp [hj]
section
variable {K : PySem.W.Frag} {c : Ct} {fp : Nat → List Addr} {F F' : Hp} {env env' : PEnv} {σ : L2.St} {H H' : Hp}
theorem Rel.patch (R : Rel K c fp F env σ H) {env2 : PEnv} {σ2 : L2.St} (vs : List Nat) (h0 : ∀ q ∈ c.br, q.1 ∉ vs) (hl : env2.length = σ2.length) (off : ∀ i, i ∉ vs → env2[i]? = env[i]? ∧ σ2[i]? = σ[i]?)
    (on : ∀ i, i ∈ vs → ∀ o, env2[i]? = some (some o) → ∃ d v, o = .im d ∧ σ2[i]? = some (some v) ∧ Den K F d v) : Rel K c (fun i => if i ∈ vs then [] else fp i) F env2 σ2 H where
  f0 := R.f0
  sy := R.sy
  fh := R.fh
  kp := R.kp
  al := R.al
  nw := R.nw
  ln := hl
  sl := fun i o h => by
    by_cases hi : i ∈ vs
    · obtain ⟨d, v, rfl, h1, h2⟩ := on i hi o h
      exact ⟨v, h1, h2⟩
    · rw [(off i hi).1] at h
      rw [(off i hi).2, if_neg hi]
      exact R.sl i o h
  ow := fun i a h => by
    by_cases hi : i ∈ vs
    · rw [if_pos hi] at h; cases h
    · rw [if_neg hi] at h; exact R.ow i a h
  lf := fun i ds a h1 h2 => by
    by_cases hi : i ∈ vs
    · rw [if_pos hi] at h2; cases h2
    · rw [if_neg hi] at h2
      rw [(off i hi).1] at h1
      exact R.lf i ds a h1 h2
  ds := fun i j a h1 h2 => by
    by_cases hi : i ∈ vs
    · rw [if_pos hi] at h1; cases h1
    · by_cases hj : j ∈ vs
      · rw [if_pos hj] at h2; cases h2
      · rw [if_neg hi] at h1
        rw [if_neg hj] at h2
        exact R.ds i j a h1 h2
  bb := fun p hp => by
    have hn : p.1 ∉ vs := h0 p hp
    obtain ⟨h1, h2, h3⟩ := R.bb p hp
    exact ⟨by rw [(off p.1 hn).2]; exact h1, by rw [if_neg hn]; exact h2, by rw [(off p.1 hn).1]; exact h3⟩
theorem Rel.wiped (R : Rel K c fp F env σ H) (vs : List Nat) (h0 : ∀ q ∈ c.br, q.1 ∉ vs) : Rel K c (fun i => if i ∈ vs then [] else fp i) F (wipeE env vs) (wipe σ vs) H := by
  refine R.patch vs h0 (by rw [len_wipeE, wipe_length]; exact R.ln) (fun i hi => ?_) (fun i hi o h => ?_)
  · rw [get_wipeE, get_wipe, if_neg hi, if_neg hi]
    exact ⟨rfl, rfl⟩
  · rw [get_wipeE, if_pos hi] at h
    split at h <;> cases h
theorem Rel.restored {fp0 : Nat → List Addr} {env0 : PEnv} {F0 H0 : Hp} (R0 : Rel K c fp0 F0 env0 σ H0) (e : Ex F0 F) (vs : List Nat) (h0 : ∀ q ∈ c.br, q.1 ∉ vs) (R : Rel K c fp F env (wipe σ vs) H) : Rel K c (fun i => if i ∈ vs then [] else fp i) F (rst env0 env vs) σ H := by
  refine R.patch vs h0 (by rw [len_rst, R.ln, wipe_length]) (fun i hi => ?_) (fun i hi o h => ?_)
  · rw [get_rst, get_wipe, if_neg hi, if_neg hi]
    exact ⟨rfl, rfl⟩
  · rw [get_rst, if_pos hi] at h
    split at h
    · have h' := Option.some.inj h
      cases e0 : env0[i]? with
      | none => rw [e0] at h'; cases h'
      | some x =>
        cases x with
        | none => rw [e0] at h'; cases h'
        | some s =>
          cases s with
          | im d =>
            rw [e0] at h'
            cases h'
            obtain ⟨v, h1, h2⟩ := R0.sl i _ e0
            exact ⟨d, v, rfl, h1, den_mono e _ _ h2⟩
          | ls ds => rw [e0] at h'; cases h'
          | ab t => rw [e0] at h'; cases h'
    · cases h
end
/-- an object that is neither frozen nor owned is changed -/
theorem Rel.over {K : PySem.W.Frag} {c : Ct} {fp : Nat → List Addr} {F : Hp} {env : PEnv} {σ : L2.St} {H : Hp} {q : Addr} {o u : HO} (R : Rel K c fp F env σ H) (h1 : H q = some o) (h2 : F q = none) (h3 : ∀ i, q ∉ fp i) (n2c : c.H0 q = none) : Rel K c fp F env σ (upd H q u) where
  f0 := R.f0
  sy := R.sy
  fh := fun a x z => by rw [upd_ne (ne_of_none z h2)]; exact R.fh a x z
  kp := fun a x z1 z2 => by rw [upd_ne (ne_of_none z1 n2c)]; exact R.kp a x z1 z2
  al := fun a z => by
    by_cases e : a = q
    · rw [e, upd_same]; simp
    · rw [upd_ne e]; exact R.al a z
  nw := R.nw
  ln := R.ln
  sl := fun i x z => by
    obtain ⟨v, z1, z2⟩ := R.sl i x z
    exact ⟨v, z1, sl_keep (Ex.refl F) (fun a y ha hy => by
      have ne : a ≠ q := fun e => by subst e; exact h3 i ha
      rw [upd_ne ne]; exact hy) z2⟩
  ow := fun i a z => by
    obtain ⟨z1, z2, z3⟩ := R.ow i a z
    refine ⟨z1, ?_, z3⟩
    have ne : a ≠ q := fun e => by subst e; exact h3 i z
    rw [upd_ne ne]
    exact z2
  lf := R.lf
  ds := R.ds
  bb := R.bb
def W0 : WX := fun _ _ _ _ => False
def goLc (vs : List Nat) (s : D → PEnv → Option PEnv) (t : PM Bool) (f : PM Opd) : List D → List D → PM (List D)
  | [], acc => fun env => .ok acc env
  | d :: ds, acc => fun env => match s d env with
    | none => .bad
    | some env1 => match t env1 with
      | .ok true env2 => match kept f env2 with
        | .ok y env3 => if acc.length < bigLine then goLc vs s t f ds (acc ++ [y]) (wipeE env3 vs) else .bad
        | _ => .bad
      | .ok false env2 => goLc vs s t f ds acc (wipeE env2 vs)
      | _ => .bad
def eLc (it : PM (List D)) (vs : List Nat) (s : D → PEnv → Option PEnv) (t : PM Bool) (f : PM Opd) : PM Opd := bnd it fun ds env => match goLc vs s t f ds [] (wipeE env vs) with
  | .ok acc env' => .ok (.tmp acc) (rst env env' vs)
  | _ => .bad
def GL (r : Res (List D)) (Fin : List D → PEnv → Prop) : Prop := match r with
  | .ok acc env' => Fin acc env'
  | _ => False
def PTsX (X : Cx) (bo : List Nat) (W : WX) (ifs : List Expr) (f : PM Bool) : Prop :=
  ∃ t, PTs X ifs t ∧ ∀ c fp F env σ H (Q : Bool → Hp → Prop), OkC c bo → Rel X.K c fp F env σ H →
    Goes X.K c W σ F (f env) (fun fp' F' env' H' b => Q b H') → t σ H Q
section
variable {X : Cx} {bo : List Nat} {W : WX} {tg elt iter e : Expr} {ifs : List Expr} {pos : Pos}
theorem ptsx_nil : PTsX X bo W [] (ret true) := ⟨_, pts_nil, fun c fp F env σ H Q hc R g => g fp F H R (Ex.refl F)⟩
theorem ptsx_one {f : PM Bool} (h : PTX X bo W e f) : PTsX X bo W [e] f := by
  obtain ⟨t, h1, h2⟩ := h
  exact ⟨_, pts_one h1, h2⟩
theorem ptsx_sem {f : PM Bool} (h : PTsX X bo W ifs f) : PTs X ifs (semT X.K bo W f) := by
  obtain ⟨t, h1, h2⟩ := h
  exact ⟨fun pins s σ H Q I ⟨c, fp, F, env, hc, R, g⟩ => h1.run pins s σ H Q I (h2 c fp F env σ H Q hc R g)⟩
theorem rd_lc {K : PySem.W.Frag} {c : Ct} {σ : L2.St} {F1 H1 : Hp} {fp1 : Nat → List Addr} {env1 : PEnv} {js vs : List Nat} {s : D → PEnv → Option PEnv} {t : PM Bool} {f : PM Opd} {ds : List D} {J : It} {Gp : Hp → Prop} {Y : Nat → Hp → V → Hp → Prop} {Q : VK}
    (hc : OkC c bo) (hb0 : ∀ b ∈ bo, b ∉ vs) (hjs : ∀ j ∈ js, j ∈ vs) (R1 : Rel K c fp1 F1 env1 σ H1) (wk : Walk J ds.length Gp Y) (st : ∀ c, Steady K c F1 ds Gp Y)
    (q : GL (goLc vs s t f ds [] (wipeE env1 vs)) fun acc env' => ∀ fp' F' H' v, Rel K c fp' F' (rst env1 env' vs) σ H' → Ex F1 F' → OpdOk K c fp' F' σ H' (.tmp acc) v → Q v H') (Dd : Addr) (hD : H1 Dd = none) :
    ∃ W : Nat → Nat → Hp → Prop, (∃ m, W 0 m (upd H1 Dd (.lst []))) ∧ ∀ i m H, W i m H →
      (J.stop i H ∧ Q (.ref Dd) H) ∨ (J.go i H ∧ ∃ Nx : Hp → Prop, (∀ H', Nx H' → ∃ m', m' < m ∧ W (i + 1) m' H') ∧ ∀ x H', J.yld i H x H' → semG K bo js s x (wipe σ vs) H' fun σ2 H2 => wipe σ2 vs = wipe σ vs ∧ semT K bo W0 t σ2 H2 fun b H3 =>
        if b = true then semE K bo W0 f σ2 H3 fun y H4 => ∃ acc, H4 Dd = some (.lst acc) ∧ acc.length < sizeLine ∧ Nx (upd H4 Dd (.lst (acc ++ [y]))) else Nx H3) := by
  have h0 : ∀ q ∈ c.br, q.1 ∉ vs := fun q hq => hb0 _ (hc q hq)
  obtain ⟨n1, n2, n3⟩ := R1.free hD
  refine lc_it wk (fun i H => ∃ fp F env acc xs, Rel K c fp F env (wipe σ vs) H ∧ Ex F1 F ∧ H Dd = some (.lst xs) ∧ F Dd = none ∧ (∀ i, Dd ∉ fp i) ∧ Dens K F acc xs ∧
    GL (goLc vs s t f (ds.drop i) acc env) fun acc env' => ∀ fp' F' H' v, Rel K c fp' F' (rst env1 env' vs) σ H' → Ex F1 F' → OpdOk K c fp' F' σ H' (.tmp acc) v → Q v H')
    ⟨_, F1, _, [], [], (R1.newH hD).wiped vs h0, Ex.refl _, upd_same, n1, fun i hi => ?_, rfl, q⟩ (fun i H _ ⟨fp, F, env, acc, xs, R, e, _⟩ => (st c).1 F H e R.fh) (fun i x H2 H3 hi ⟨fp, F, env, acc, xs, R, e, d1, d2, d3, d4, g⟩ y => ?_) (fun H2 ⟨fp, F, env, acc, xs, R, e, d1, d2, d3, d4, g⟩ => ?_)
  · split at hi
    · cases hi
    · exact n3 i hi
  · -- a turn
    obtain ⟨F3, d, hd, R3, e3, den, eh⟩ := (st (c.sub fp F H2)).2 i fp F env (wipe σ vs) H2 x H3 hi R.into e y
    have hdr : ds.drop i = d :: ds.drop (i + 1) := by
      have hlt : i < ds.length := hi
      rw [List.drop_eq_getElem_cons hlt]
      rw [List.getElem?_eq_getElem hlt] at hd
      cases hd
      rfl
    rw [hdr] at g
    cases es : s d env with
    | none => simp only [goLc, es] at g; exact g.elim
    | some env2 =>
      simp only [goLc, es] at g
      have hc' : OkC (c.sub fp F H2) bo := hc
      refine ⟨c.sub fp F H2, fp, F3, env, d, env2, hc', R3, den, es, fun fp4 σ4 R4 k4 => ⟨(k4 vs hjs).trans (wipe_wipe σ vs), ?_⟩⟩
      refine ⟨c.sub fp F H2, fp4, F3, env2, hc', R4, ?_⟩
      cases et : t env2 with
      | bad => simp only [et] at g; exact g.elim
      | exc x' e' => simp only [et] at g; exact g.elim
      | ok b env3 =>
        simp only [et] at g
        intro fp5 F5 H5 R5 e5
        cases b with
        | false =>
          simp only [Bool.false_eq_true, if_false] at g ⊢
          obtain ⟨p1, p2, p3⟩ := R5.aside d1 d2 d3
          have R6 := (R.outof R5).wiped vs h0
          rw [k4 vs hjs, wipe_wipe] at R6
          refine ⟨_, F5, _, acc, xs, R6, (e.trans e3).trans e5, p1, p2, fun i hi => ?_, dens_mono (e3.trans e5) _ _ d4, g⟩
          split at hi
          · cases hi
          · exact p3 i hi
        | true =>
          simp only [if_true] at g ⊢
          refine ⟨c.sub fp F H2, fp5, F5, env3, hc', R5, ?_⟩
          cases ef : f env3 with
          | bad => simp only [kept, bnd, ef] at g; exact g.elim
          | exc x' e' => simp only [kept, bnd, ef] at g; exact g.elim
          | ok o env4 =>
            intro fp6 F6 H6 R6 e6 v hv
            obtain ⟨p1, p2, p3⟩ := R6.aside d1 d2 d3
            refine ⟨xs, p1, ?_, ?_⟩
            · cases ek : kept f env3 with
              | ok y e' =>
                simp only [ek] at g
                split at g
                · rename_i hl
                  rw [dens_len d4]
                  exact Nat.lt_trans hl big_line
                · exact g.elim
              | exc _ _ => simp only [ek] at g; exact g.elim
              | bad => simp only [ek] at g; exact g.elim
            · have gk : Goes K (c.sub fp F H2) W0 σ4 F6 (bnd (frz o) (fun y => fun e' => if acc.length < bigLine then .ok (y, e') e' else .bad) env4) (fun fp' F' env' H' r =>
                GL (goLc vs s t f (ds.drop (i + 1)) (acc ++ [r.1]) (wipeE r.2 vs)) fun acc env' => ∀ fp' F' H' v, Rel K c fp' F' (rst env1 env' vs) σ H' → Ex F1 F' → OpdOk K c fp' F' σ H' (.tmp acc) v → Q v H') := by
                unfold kept bnd at g
                rw [ef] at g
                unfold bnd
                cases ez : frz o env4 with
                | bad => simp only [ez] at g; exact g.elim
                | exc _ _ => simp only [ez] at g; exact g.elim
                | ok y e' =>
                  simp only [ez] at g ⊢
                  split at g
                  · rename_i hl
                    rw [if_pos hl]
                    exact fun _ _ _ _ _ => g
                  · exact g.elim
              obtain ⟨y, fp7, F7, env7, R7, e7, den7, g7⟩ := frz_ok R6 hv gk
              obtain ⟨q1, q2, q3⟩ := R7.aside d1 d2 d3
              split at g7
              · have g8 := g7 fp7 F7 H6 R7 e7
                -- the list has grown
                have Rz := (R.outof R7).wiped vs h0
                rw [k4 vs hjs, wipe_wipe] at Rz
                have ef7 : Ex F F7 := (e3.trans (e5.trans e6)).trans e7
                have ne1 : ∀ q u, F7 q = some u → q ≠ Dd := fun q u z => ne_of_none z q2
                refine ⟨_, F7, _, acc ++ [y], xs ++ [v], Rel.over Rz q1 q2 (fun i hi => ?_) (n2c := ?_), e.trans ef7, upd_same, q2, fun i hi => ?_, dens_app (dens_mono ef7 _ _ d4) (dens_one den7), g8⟩
                · split at hi
                  · cases hi
                  · exact q3 i hi
                · exact n2
                · split at hi
                  · cases hi
                  · exact q3 i hi
              · exact g7.elim
  · -- the end
    rw [List.drop_length] at g
    have R2 := Rel.restored R1 e vs h0 R
    refine g _ F H2 _ R2 e ⟨Dd, xs, rfl, d1, d2, n2, fun i hi => ?_, d4⟩
    have hi : Dd ∈ (if i ∈ vs then [] else fp i) := hi
    split at hi
    · cases hi
    · exact d3 i hi
theorem px_lc {scope : Scope} {own : List (Str × Nat)} {js : List Nat} {it : PM (List D)} {s : D → PEnv → Option PEnv} {t : PM Bool} {f : PM Opd} (hcalm : X.calm = true) (hN : X.N.Nodup) (hi : PIX X bo W tg iter it) (ok : BlkOk X.N X.env.scope scope own)
    (hg : ∀ (s₀ : Shared) (H : Hp) (C : Addr) (cl : List (Str × Addr)) (fp : List Addr), TGX (X.blk s₀ H scope (compEnvC scope cl C X.env) fp) bo tg js s) (ht : ∀ (s₀ : Shared) (H : Hp) (C : Addr) (cl : List (Str × Addr)) (fp : List Addr), PTsX (X.blk s₀ H scope (compEnvC scope cl C X.env) fp) bo W0 ifs t)
    (he : ∀ (s₀ : Shared) (H : Hp) (C : Addr) (cl : List (Str × Addr)) (fp : List Addr), PX (X.blk s₀ H scope (compEnvC scope cl C X.env) fp) bo W0 elt f) (hb0 : ∀ b ∈ bo, b ∉ own.map (·.2)) (hjs : ∀ j ∈ js, j ∈ own.map (·.2))
    (hs : ∀ x, foldedSetIterable iter X.env x = pure x := by intro _; rfl) : PX X bo W (.ListComp elt [⟨tg, iter, ifs, 0⟩] scope pos) (eLc it (own.map (·.2)) s t f) := by
  obtain ⟨wi, i1, i2⟩ := hi
  refine ⟨_, pe_lc (g := semG X.K bo js s) (tt := semT X.K bo W0 t) (te := semE X.K bo W0 f) hcalm hN i1 ok (fun s₀ H C cl fp => tgx_sem (hg s₀ H C cl fp)) (fun s₀ H C cl fp => ptsx_sem (ht s₀ H C cl fp)) (fun s₀ H C cl fp => px_sem (he s₀ H C cl fp)) hs, fun c fp F env σ H Q hc R g => ?_⟩
  refine i2 c fp F env σ H _ hc R ((Goes.bnd g).mono (Ex.refl F) fun fp1 F1 env1 H1 ds e1 R1 g1 J Gp Y wk st Dd hD => ?_)
  refine rd_lc hc hb0 hjs R1 wk st ?_ Dd hD
  cases er : goLc (own.map (·.2)) s t f ds [] (wipeE env1 (own.map (·.2))) with
  | bad => simp only [er] at g1; exact g1.elim
  | exc x e => simp only [er] at g1; exact g1.elim
  | ok acc env' =>
    simp only [er] at g1
    exact fun fp' F' H' v R' e' hv => g1 fp' F' H' R' e' v hv
/-- name = [..] on one line -/
theorem psx_setLc {scope : Scope} {own : List (Str × Nat)} {js : List Nat} {it : PM (List D)} {s : D → PEnv → Option PEnv} {t : PM Bool} {f : PM Opd} {i : Nat} {y : Str} {py spos : Pos} (hcalm : X.calm = true) (hN : X.N.Nodup) (hi : PIX X bo W tg iter it) (ok : BlkOk X.N X.env.scope scope own)
    (hg : ∀ (s₀ : Shared) (H : Hp) (C : Addr) (cl : List (Str × Addr)) (fp : List Addr), TGX (X.blk s₀ H scope (compEnvC scope cl C X.env) fp) bo tg js s) (ht : ∀ (s₀ : Shared) (H : Hp) (C : Addr) (cl : List (Str × Addr)) (fp : List Addr), PTsX (X.blk s₀ H scope (compEnvC scope cl C X.env) fp) bo W0 ifs t)
    (he : ∀ (s₀ : Shared) (H : Hp) (C : Addr) (cl : List (Str × Addr)) (fp : List Addr), PX (X.blk s₀ H scope (compEnvC scope cl C X.env) fp) bo W0 elt f) (hb0 : ∀ b ∈ bo, b ∉ own.map (·.2)) (hjs : ∀ j ∈ js, j ∈ own.map (·.2))
    (hy : X.N[i]? = some y) (hyl : X.env.scope.names.lookup y = some .local) (hb : bo.contains i = false)
    (hsw : swapsWith (.ListComp elt [⟨tg, iter, ifs, 0⟩] scope pos) (some (.Name y py)) spos.line X.env = pure true)
    (hs : ∀ x, foldedSetIterable iter X.env x = pure x := by intro _; rfl) : PSX X bo W (.Assign [.Name y py] (.ListComp elt [⟨tg, iter, ifs, 0⟩] scope pos) spos) (sSet i (eLc it (own.map (·.2)) s t f)) := by
  obtain ⟨wi, i1, i2⟩ := hi
  refine ⟨_, ps_setLc (g := semG X.K bo js s) (tt := semT X.K bo W0 t) (te := semE X.K bo W0 f) hcalm hN hy hyl hsw i1 ok (fun s₀ H C cl fp => tgx_sem (hg s₀ H C cl fp)) (fun s₀ H C cl fp => ptsx_sem (ht s₀ H C cl fp)) (fun s₀ H C cl fp => px_sem (he s₀ H C cl fp)) hs, fun c fp F env σ H D hc R g => ?_⟩
  have hi0 : ∀ q ∈ c.br, q.1 ≠ i := okc_ne hc hb
  have g0 := GoesS.bnd (σ := σ) g
  refine i2 c fp F env σ H _ hc R ((Goes.bnd g0).mono (Ex.refl F) fun fp1 F1 env1 H1 ds e1 R1 g1 J Gp Y wk st Dd hD => ?_)
  refine rd_lc (Q := fun x H1 => gName i x σ H1 D.nx) hc hb0 hjs R1 wk st ?_ Dd hD
  cases er : goLc (own.map (·.2)) s t f ds [] (wipeE env1 (own.map (·.2))) with
  | bad => simp only [er] at g1; exact g1.elim
  | exc x e => simp only [er] at g1; exact g1.elim
  | ok acc env' =>
    simp only [er] at g1
    intro fp' F' H' v R' e' hv
    have g2 := g1 fp' F' H' R' e'
    obtain ⟨fp2, F2, env2, R2, e2, g3⟩ := asg_ok hi0 R' hv g2
    exact g3 fp2 F2 _ H' R2 (Ex.refl F2)
end
end Pu

namespace Pu
open PySem PySem.Spec PyProof.Rows L2
/-! ### what a def promises, where no repr is under way -/
structure FnG (P : Program) (w : World) (K : PySem.W.Frag) (mg : Str → Option Value) (base : Heap) (CX : CXT) (k : Nat) (f : Addr) (fd : FuncData) (ps : List Str) (sp : Sp) : Prop where
  len : ∀ vs H Q E, sp vs H Q E → vs.length = ps.length
  run : ∀ (A : Around) (outer : List Env) (s : Shared) (H : Hp) (args : Args) (us : List Value) (vs : List V) (Q : VK) (E : XK), Room k A → A.guards = some [] → Env0 P w K mg base A outer s H → BindsTo s fd args (ps.zip us) → Vals vs us →
    sp vs H Q E → codeAny (model P w) A (.call (.ref f) args) (CR CX outer P w H s Q E) s
section
variable {P : Program} {w : World} {K : PySem.W.Frag} {mg : Str → Option Value} {base : Heap} {CX : CXT} {j k : Nat} {f : Addr} {fd : FuncData} {ps N : List Str} {sp : Sp}
theorem FnG.mono (F : FnG P w K mg base CX j f fd ps sp) (h : j ≤ k) : FnG P w K mg base CX k f fd ps sp :=
  ⟨F.len, fun A outer s H args us vs Q E hr hg => F.run A outer s H args us vs Q E (hr.mono h) hg⟩
theorem FnOk.toG (F : FnOk P w K mg base CX k f fd ps sp) : FnG P w K mg base CX k f fd ps sp :=
  ⟨F.len, fun A outer s H args us vs Q E hr _ => F.run A outer s H args us vs Q E hr⟩
theorem guards_deeper {A : Around} {env : Env} : (A.deeper env).guards = A.guards := rfl
/-- a def by its body -/
theorem fng_of {x qual : Str} {st : Stmt} (F : Fun K x qual st f fd) (S : FnScope N ps (defScope st)) (len : ∀ vs H Q E, sp vs H Q E → vs.length = ps.length)
    (hbody : ∀ (cdv : Value) (A : Around) (outer : List Env) (s : Shared) (H : Hp) (vs : List V) (Q : VK) (E : XK), Room k (A.deeper (envOfC qual (defScope st) s.heap.objs.size f cdv)) → A.guards = some [] → sp vs H Q E →
      ∃ t, PSs (cxOf CX P w K mg base N qual (defScope st) f cdv A outer s H E) (defBody st) t ∧ t { nx := fun _ H' => Q .non H', rt := Q } (L2.start N vs) H) : FnG P w K mg base CX (k + 1) f fd ps sp := by
  obtain ⟨oc, od, kV, doc, pm, an, cdv, ct, osl, rfl, lk, hcd⟩ := F.ex
  refine ⟨len, ?_⟩
  intro A outer s H args us vs Q E hr hgu e0 hb r hsp
  have stays : ∀ b o, base.get? b = some o → s.heap.get? b = some o := fun b o z => (e0.bs b o z).1
  have hK : K.In s.heap := e0.mod.kin.keeps stays
  have hlim : s.heap.NoLimit := e0.mod.nolimit.keeps stays
  refine codeAny_call_function hr.depth (hK _ _ lk) rfl S.co S.gen rfl (PySem.W.codeRec_of hK hcd) (hb _ _ _ _ ?_)
  refine wpAny_newFunctionEnv_cells S.kind ?_ ?_
  · rintro ⟨n, v⟩ hy
    rcases S.par n (List.of_mem_zip hy).1 with q | q
    · exact Or.inl q
    · exact Or.inr ⟨q, PySem.W.cellsFrom_some _ _ _ (Or.inl q)⟩
  · rintro env he s1 x
    subst he
    obtain ⟨t, ht, hq⟩ := hbody cdv A outer s H vs Q E (hr.deeper _) hgu hsp
    have I := inv_start (CX := CX) (E := E) (qual := qual) (f := f) (cd := cdv) S hr.hd e0 (len _ _ _ _ hsp) r x
    refine ⟨hlim.keeps x.toInCall.keep, codeAny_func (wpAny_mono (ht.run [] s1 (L2.start N vs) H _ I hq) ?_ fun _ _ z => z)⟩
    intro fl s' hs
    cases fl with
    | ret u =>
      obtain ⟨v, σ', H', J, rv, q⟩ := hs
      exact ⟨v, H', J.os, J.bare, J.base, J.hok, rv, q⟩
    | next =>
      obtain ⟨σ', H', J, q⟩ := hs
      exact ⟨.non, H', J.os, J.bare, J.base, J.hok, rfl, q⟩
    | brk =>
      obtain ⟨_, _, _, z⟩ := hs
      exact z.elim
    | cont =>
      obtain ⟨_, _, _, z⟩ := hs
      exact z.elim
end
/-! ### promises over data -/
inductive FR where
  | ok (r : Opd)
  | exc (x : Exn)
  | bad
def RetOk (K : PySem.W.Frag) (F' H0 H' : Hp) : Opd → V → Prop
  | .val d, v => Den K F' d v
  | .tmp ds, v => ∃ p xs, v = .ref p ∧ H' p = some (.lst xs) ∧ F' p = none ∧ H0 p = none ∧ Dens K F' ds xs
  | .tab t, v => ∃ fT, AbAt K F' H' t v fT ∧ ∀ a ∈ fT, F' a = none ∧ H0 a = none
  | .slot _, _ => False
def Grown (F H F' H' : Hp) : Prop := Ex F F' ∧ Ex F' H' ∧ ∀ q, F' q ≠ none → F q ≠ none ∨ H q = none
/-- a def of data -/
def SpA (K : PySem.W.Frag) (n : Nat) (S : List D → FR) : Sp := fun vs H Q E => ∃ F ds, Ex F H ∧ SyF F ∧ vs.length = n ∧ Dens K F ds vs ∧ match S ds with
  | .ok r => ∀ F' H' v, Grown F H F' H' → Ex H H' → RetOk K F' H H' r v → Q v H'
  | .exc x => ∀ F' H' d, Grown F H F' H' → Ex H H' → ExnOk K F' H' x d → E x.cls d H'
  | .bad => False
/-- a def whose first argument is handed in to be changed, the others data -/
def SpB (K : PySem.W.Frag) (n : Nat) (S : Ab → List D → FR × Ab) : Sp := fun vs H Q E => ∃ F t a bw vs' ds, vs = .ref a :: vs' ∧ vs'.length = n ∧ Ex F H ∧ SyF F ∧ AbAt K F H t (.ref a) bw ∧ (∀ q ∈ bw, F q = none) ∧ Dens K F ds vs' ∧ match S t ds with
  | (.ok r, t') => ∀ F' H' v, Grown F H F' H' → (∀ q o, H q = some o → q ∉ bw → H' q = some o) → (∀ q ∈ bw, F' q = none) → AbAt K F' H' t' (.ref a) bw → RetOk K F' H H' r v → Q v H'
  | (.exc x, t') => ∀ F' H' d, Grown F H F' H' → (∀ q o, H q = some o → q ∉ bw → H' q = some o) → (∀ q ∈ bw, F' q = none) → AbAt K F' H' t' (.ref a) bw → ExnOk K F' H' x d → E x.cls d H'
  | (.bad, _) => False
/-! ### calls -/
section
variable {X : Cx} {bo : List Nat} {W : WX} {e : Expr} {es : List Expr} {pos p : Pos} {x : Str} {CX : CXT} {k n : Nat} {f : Addr} {fd : FuncData} {ps : List Str} {sp : Sp}
theorem run_g {pins : List (Addr × Obj)} {σ : L2.St} {H : Hp} {s : Shared} {Q : VK} {us : List Value} {kw : List (Str × Value)} {vs : List V} {E : XK} {zs : List Value} (F : FnG X.prog X.w X.K X.mg X.base CX k f fd ps sp) (hr : Room k X.A) (hgu : X.A.guards = some []) (hb : BindsTo s fd ⟨us, kw⟩ (ps.zip zs)) (hx : PassesAt CX X σ E)
    (I : Inv X pins σ H s) (r : Vals vs zs) (h : sp vs H Q E) : wpAny (model X.prog X.w) X.A (call (.ref f) us kw) (EP X pins σ Q) X.xe s := by
  refine wpAny_call (codeAny_mono (F.run X.A X.stack s H ⟨us, kw⟩ zs vs Q E hr hgu I.env0 hb r h) ?_)
  intro r s' hq
  cases r with
  | error e => exact hx pins H s e s' I hq
  | ok fl =>
    cases fl with
    | ret u => exact I.after hq
    | next => exact hq.elim
    | brk => exact hq.elim
    | cont => exact hq.elim
theorem pe_g (F : FnG X.prog X.w X.K X.mg X.base CX k f fd ps sp) (hr : Room k X.A) (hgu : X.A.guards = some []) (hg : Gl X x) (hm : X.mg x = some (.ref f)) (hk : PySem.W.keepIn X.K (.ref f) = true) (hb : Binds X.K fd ps []) (hx : ∀ σ, PassesAt CX X σ (WE W σ)) {t : TA}
    (ha : PA X (e :: es) t) (hdb : (x == ("__debug__" : Str)) = false := by decide) (he : starEach (e :: es) X.env = (false, eval e X.env) :: starEach es X.env := by rfl) (hpl : (backTo pos (starEach es X.env)).any (·.1) = false := by rfl) :
    PE X (.Call (.Name x p) (e :: es) [] pos) (tCallS sp (WE W) t) := by
  constructor
  intro pins s σ H Q I h
  refine wpAny_Call_Name_kw (ld_glob I hg hm ?_ hdb)
  refine PySem.W.callWith_K (h₀ := X.base) I.ok.mod.kin hk (thn (ha.run pos pins s σ H _ I h) ?_) he hpl
  rintro us s1 ⟨vs, H1, I1, r, q⟩
  refine ⟨I1.kIn, ?_⟩
  have hl : us.length = ps.length := by rw [← r.length]; exact F.len _ _ _ _ q
  have b := hb s1 us I1.kIn (by simpa using hl)
  rw [List.append_nil] at b
  exact run_g F hr hgu b (hx σ) I1 r q
def frOf : FR → PM Opd
  | .ok r => ret r
  | .exc x => fun env => .exc x env
  | .bad => oops
def eCallA (S : List D → FR) (fs : PM (List D)) : PM Opd := bnd fs fun ds => frOf (S ds)
theorem ret_opd {K : PySem.W.Frag} {c : Ct} {fp : Nat → List Addr} {F F' H H' : Hp} {env : PEnv} {σ : L2.St} {o : Opd} {v : V} (R : Rel K c fp F env σ H) (h : RetOk K F' H H' o v) : OpdOk K c fp F' σ H' o v := by
  cases o with
  | val d => exact h
  | slot i => exact h.elim
  | tmp ds =>
    obtain ⟨p, xs, h1, h2, h3, h4, h5⟩ := h
    obtain ⟨_, n2, n3⟩ := R.free h4
    exact ⟨p, xs, h1, h2, h3, n2, n3, h5⟩
  | tab t =>
    obtain ⟨fT, h1, h2⟩ := h
    refine ⟨fT, h1, fun a ha => ?_⟩
    obtain ⟨z1, z2⟩ := h2 a ha
    obtain ⟨_, n2, n3⟩ := R.free z2
    exact ⟨z1, n2, n3⟩
theorem rd_callA {S : List D → FR} {c : Ct} {fp : Nat → List Addr} {F H : Hp} {env : PEnv} {σ : L2.St} {ds : List D} {vs : List V} {Q : VK} (R : Rel X.K c fp F env σ H) (hl : vs.length = n) (hd : Dens X.K F ds vs)
    (g : Goes X.K c W σ F (frOf (S ds) env) (fun fp' F' env' H' o => ∀ v, OpdOk X.K c fp' F' σ H' o v → Q v H')) : SpA X.K n S vs H Q (WE W σ) := by
  refine ⟨F, ds, R.fh, R.sy, hl, hd, ?_⟩
  have grow : ∀ {F' H' : Hp}, Grown F H F' H' → Ex H H' → Rel X.K c fp F' env σ H' := fun {F' H'} ⟨e1, e2, e3⟩ e4 => R.grow e1 e2 e4 fun q hq => (e3 q hq).imp id fun z => ⟨(R.free z).2.1, (R.free z).2.2⟩
  cases es : S ds with
  | bad => rw [es] at g; exact g.elim
  | ok r =>
    rw [es] at g
    intro F' H' v gr e4 hr
    exact g fp F' H' (grow gr e4) gr.1 v (ret_opd R hr)
  | exc x =>
    rw [es] at g
    intro F' H' d gr e4 hx
    exact g fp F' H' d (grow gr e4) gr.1 hx
theorem px_callA {S : List D → FR} {fs : PM (List D)} (F : FnG X.prog X.w X.K X.mg X.base CX k f fd ps (SpA X.K n S)) (hr : Room k X.A) (hgu : X.A.guards = some []) (hm : X.mg x = some (.ref f)) (hk : PySem.W.keepIn X.K (.ref f) = true) (hb : Binds X.K fd ps []) (hx : ∀ σ, PassesAt CX X σ (WE W σ))
    (ha : PAF X bo W (e :: es) fs) (hg : Gl X x := by rfl) (hn : (e :: es).length = n := by rfl) (hdb : (x == ("__debug__" : Str)) = false := by decide) (he : starEach (e :: es) X.env = (false, eval e X.env) :: starEach es X.env := by rfl) (hpl : (backTo pos (starEach es X.env)).any (·.1) = false := by rfl) :
    PX X bo W (.Call (.Name x p) (e :: es) [] pos) (eCallA S fs) := by
  obtain ⟨t, h1, h2⟩ := ha
  refine ⟨_, pe_g F hr hgu hg hm hk hb hx h1 hdb he hpl, fun c fp F0 env σ H Q hc R g => ?_⟩
  exact h2 c fp F0 env σ H _ hc R ((Goes.bnd g).mono (Ex.refl F0) fun fp1 F1 env1 H1 ds e1 R1 g1 vs hl hd => rd_callA R1 (hl.trans hn) hd g1)
def abAtE (i : Nat) : PM Ab := fun env => match env[i]? with
  | some (some (.ab t)) => .ok t env
  | _ => .bad
def frB (i : Nat) : FR × Ab → PM Opd
  | (.ok r, t) => bnd (putS i (.ab t)) fun _ => ret r
  | (.exc x, t) => bnd (putS i (.ab t)) fun _ env => .exc x env
  | (.bad, _) => oops
def eCallB (i : Nat) (S : Ab → List D → FR × Ab) (fs : PM (List D)) : PM Opd := bnd (abAtE i) fun _ => bnd fs fun ds => bnd (abAtE i) fun t => frB i (S t ds)
theorem abAt_ok {K : PySem.W.Frag} {c : Ct} {fp : Nat → List Addr} {F F0 : Hp} {env : PEnv} {σ : L2.St} {H : Hp} {i : Nat} {β : Type} {kk : Ab → PM β} {G : (Nat → List Addr) → Hp → PEnv → Hp → β → Prop} (R : Rel K c fp F env σ H) (g : Goes K c W σ F0 (bnd (abAtE i) kk env) G) :
    ∃ t v, env[i]? = some (some (.ab t)) ∧ σ[i]? = some (some v) ∧ AbAt K F H t v (fp i) ∧ Goes K c W σ F0 (kk t env) G := by
  cases e : env[i]? with
  | none => simp only [bnd, abAtE, e] at g; exact g.elim
  | some s =>
    cases s with
    | none => simp only [bnd, abAtE, e] at g; exact g.elim
    | some s =>
      cases s with
      | im d => simp only [bnd, abAtE, e] at g; exact g.elim
      | ls t => simp only [bnd, abAtE, e] at g; exact g.elim
      | ab t =>
        simp only [bnd, abAtE, e] at g
        obtain ⟨v, h1, h2⟩ := R.sl i _ e
        exact ⟨t, v, rfl, h1, h2, g⟩
theorem abAt_ref {K : PySem.W.Frag} {F H : Hp} {t : Ab} {v : V} {fp : List Addr} (h : AbAt K F H t v fp) : ∃ a, v = .ref a := by
  cases t with
  | deck k1 k2 far st =>
    obtain ⟨a, b, h1, _⟩ := h
    exact ⟨a, h1⟩
  | sc ns =>
    obtain ⟨a, h1, _⟩ := h
    exact ⟨a, h1⟩
  | dc es =>
    obtain ⟨a, _, _, h1, _⟩ := h
    exact ⟨a, h1⟩
  | ll cs =>
    obtain ⟨a, _, _, h1, _⟩ := h
    exact ⟨a, h1⟩
  | fl ds =>
    obtain ⟨a, _, h1, _⟩ := h
    exact ⟨a, h1⟩
theorem px_callB {S : Ab → List D → FR × Ab} {fs : PM (List D)} {i : Nat} {x0 : Str} {p0 : Pos} (F : FnG X.prog X.w X.K X.mg X.base CX k f fd ps (SpB X.K n S)) (hr : Room k X.A) (hgu : X.A.guards = some []) (hm : X.mg x = some (.ref f)) (hk : PySem.W.keepIn X.K (.ref f) = true) (hb : Binds X.K fd ps []) (hx : ∀ σ, PassesAt CX X σ (WE W σ))
    (ha : PAF X bo W es fs) (hN : X.N[i]? = some x0 := by rfl) (hv : Vis X.env.scope x0 := by first | exact Or.inl rfl | exact Or.inr (Or.inl rfl) | exact Or.inr (Or.inr rfl)) (hg : Gl X x := by rfl) (hn : es.length = n := by rfl) (hdb : (x == ("__debug__" : Str)) = false := by decide)
    (hd0 : (x0 == ("__debug__" : Str)) = false := by decide) (hcd0 : (x0 == ("__classdict__" : Str)) = false := by decide)
    (he : starEach (.Name x0 p0 :: es) X.env = (false, eval (.Name x0 p0) X.env) :: starEach es X.env := by rfl) (hpl : (backTo pos (starEach es X.env)).any (·.1) = false := by rfl) :
    PX X bo W (.Call (.Name x p) (.Name x0 p0 :: es) [] pos) (eCallB i S fs) := by
  obtain ⟨t, h1, h2⟩ := ha
  refine ⟨_, pe_g F hr hgu hg hm hk hb hx (pa_cons (pe_var hN hv hd0 hcd0) h1 he) hdb he hpl, fun c fp F0 env σ H Q hc R g => ?_⟩
  obtain ⟨t0, v0, k1, k2, k3, g1⟩ := abAt_ok R g
  obtain ⟨a, rfl⟩ := abAt_ref k3
  refine ⟨.ref a, k2, ?_⟩
  refine h2 c fp F0 env σ H _ hc R ((Goes.bnd g1).mono (Ex.refl F0) fun fp1 F1 env1 H1 ds e1 R1 g2 vs hl hd => ?_)
  obtain ⟨t1, v1, q1, q2, q3, g3⟩ := abAt_ok R1 g2
  rw [k2] at q2
  cases q2
  refine ⟨F1, t1, a, fp1 i, vs, ds, rfl, hl.trans hn, R1.fh, R1.sy, q3, fun q hq => (R1.ow i q hq).1, hd, ?_⟩
  have mutd : ∀ {F' H' : Hp} {t' : Ab}, Grown F1 H1 F' H' → (∀ q o, H1 q = some o → q ∉ fp1 i → H' q = some o) → (∀ q ∈ fp1 i, F' q = none) → AbAt X.K F' H' t' (.ref a) (fp1 i) → Rel X.K c fp1 F' (env1.set i (some (.ab t'))) σ H' := by
    intro F' H' t' ⟨e2, e3, e4⟩ kk nn ab
    refine R1.mutate q1 k2 e2 e3 (fun q u hq z => kk q u z hq) (fun q hq => ?_) (fun q hq => ?_) ab (fun _ => ⟨t', rfl⟩) (fun ⟨l, z⟩ => nomatch z)
    · by_cases hm' : q ∈ fp1 i
      · exact abAt_in ab q hm'
      · cases z : H1 q with
        | none => exact absurd z hq
        | some o => rw [kk q o z hm']; simp
    · exact (e4 q hq).imp id fun z => ⟨(R1.free z).2.1, (R1.free z).2.2⟩
  cases eS : S t1 ds with
  | mk r t' =>
    rw [eS] at g3
    cases r with
    | bad => exact g3.elim
    | ok r =>
      intro F' H' v gr kk nn ab hr'
      refine g3 fp1 F' H' (mutd gr kk nn ab) gr.1 v (ret_opd R1 hr')
    | exc x =>
      intro F' H' d gr kk nn ab hx'
      exact g3 fp1 F' H' d (mutd gr kk nn ab) gr.1 hx'
/-! ### from a body to the promise -/
def envOf (N : Nat) (l : List SV) : PEnv := l.map some ++ List.replicate (N - l.length) none
def finR (bo : List Nat) (o : Opd) (env : PEnv) : FR := match o with
  | .val d => .ok (.val d)
  | .tmp ds => .ok (.tmp ds)
  | .tab t => .ok (.tab t)
  | .slot i => match env[i]? with
    | some (some (.im d)) => .ok (.val d)
    | some (some (.ls ds)) => .ok (.tmp ds)
    | some (some (.ab t)) => if bo.contains i = true then .bad else .ok (.tab t)
    | _ => .bad
def runA (N : Nat) (body : PM Out) (args : List D) : FR := match body (envOf N (args.map .im)) with
  | .ok .next _ => .ok (.val .none)
  | .ok (.ret o) env => finR [] o env
  | .exc x _ => .exc x
  | _ => .bad
def ab0 (env : PEnv) (r : FR) (t : Ab) : FR × Ab := match env[0]? with
  | some (some (SV.ab t')) => (r, t')
  | _ => (.bad, t)
def runB (N : Nat) (body : PM Out) (t : Ab) (args : List D) : FR × Ab := match body (envOf N (.ab t :: args.map .im)) with
  | .ok .next env => ab0 env (.ok (.val .none)) t
  | .ok (.ret o) env => ab0 env (finR [0] o env) t
  | .exc x env => ab0 env (.exc x) t
  | _ => (.bad, t)
theorem start_get {N : List Str} {vs : List V} {i : Nat} (h : i < vs.length) : (L2.start N vs)[i]? = some vs[i]? := by
  unfold L2.start
  rw [List.getElem?_append_left (by simpa using h), List.getElem?_map, List.getElem?_eq_getElem h]
  rfl
theorem start_len {N : List Str} {vs : List V} (h : vs.length ≤ N.length) : (L2.start N vs).length = N.length := by
  unfold L2.start
  simp only [List.length_append, List.length_map, List.length_replicate]
  omega
theorem envOf_len {N : Nat} {l : List SV} (h : l.length ≤ N) : (envOf N l).length = N := by
  unfold envOf
  simp only [List.length_append, List.length_map, List.length_replicate]
  omega
theorem envOf_get {N : Nat} {l : List SV} {i : Nat} {o : SV} (h : (envOf N l)[i]? = some (some o)) : l[i]? = some o := by
  unfold envOf at h
  by_cases hi : i < l.length
  · rw [List.getElem?_append_left (by simpa using hi), List.getElem?_map] at h
    rw [List.getElem?_eq_getElem hi] at h ⊢
    simpa using h
  · rw [List.getElem?_append_right (by simpa using hi), List.getElem?_replicate] at h
    split at h <;> cases h
def ctA (F H : Hp) : Ct := ⟨H, F, fun _ => False, fun _ => False, []⟩
theorem rel_startA {K : PySem.W.Frag} {N : List Str} {F H : Hp} {ds : List D} {vs : List V} (e : Ex F H) (sy : SyF F) (hd : Dens K F ds vs) (hl : vs.length ≤ N.length) : Rel K (ctA F H) (fun _ => []) F (envOf N.length (ds.map .im)) (L2.start N vs) H where
  f0 := Ex.refl F
  sy := sy
  fh := e
  kp := fun q o h _ => h
  al := fun q h => h
  nw := fun q h => .inl h
  ln := by rw [start_len hl, envOf_len (by rw [List.length_map, ← dens_len hd]; exact hl)]
  sl := fun i o h => by
    have h' := envOf_get h
    rw [List.getElem?_map] at h'
    cases e1 : ds[i]? with
    | none => rw [e1] at h'; cases h'
    | some d =>
      rw [e1] at h'
      cases h'
      obtain ⟨v, h1, h2⟩ := dens_get' hd e1
      have hi : i < vs.length := (List.getElem?_eq_some_iff.mp h1).1
      exact ⟨v, by rw [start_get hi, h1], h2⟩
  ow := fun i a h => by cases h
  lf := fun i _ a _ h => by cases h
  ds := fun i j a h _ => by cases h
  bb := fun p h => by cases h
theorem fin_ret {K : PySem.W.Frag} {c : Ct} {fp : Nat → List Addr} {F : Hp} {env : PEnv} {σ : L2.St} {H : Hp} {bo : List Nat} {o : Opd} {v : V} (R : Rel K c fp F env σ H) (hfz : ∀ a, ¬ c.fz a) (hmu : ∀ a, c.mu a → ∃ k, bo.contains k = true ∧ a ∈ fp k) (h : OpdOk K c fp F σ H o v) (hb : finR bo o env ≠ .bad) :
    ∃ r, finR bo o env = .ok r ∧ RetOk K F c.H0 H r v := by
  cases o with
  | val d => exact ⟨_, rfl, h⟩
  | tmp ds =>
    obtain ⟨p, xs, h1, h2, h3, h4, h5, h6⟩ := h
    exact ⟨_, rfl, p, xs, h1, h2, h3, h4, h6⟩
  | tab t =>
    obtain ⟨fT, h1, h2⟩ := h
    exact ⟨_, rfl, fT, h1, fun a ha => ⟨(h2 a ha).1, (h2 a ha).2.1⟩⟩
  | slot i =>
    have h' : σ[i]? = some (some v) := h
    cases e : env[i]? with
    | none => simp only [finR, e] at hb; exact absurd rfl hb
    | some s =>
      cases s with
      | none => simp only [finR, e] at hb; exact absurd rfl hb
      | some s =>
        obtain ⟨w, h1, h2⟩ := R.sl i s e
        rw [h'] at h1
        cases h1
        cases s with
        | im d => exact ⟨.val d, by simp only [finR, e], h2⟩
        | ls ds =>
          obtain ⟨a, xs, q1, q2, q3, q4⟩ := h2
          have ha : a ∈ fp i := by rw [q2]; simp
          refine ⟨.tmp ds, by simp only [finR, e], a, xs, q1, q3, (R.ow i a ha).1, ?_, q4⟩
          rcases R.lf i ds a e ha with z | z
          · exact z
          · exact absurd z (hfz a)
        | ab t =>
          simp only [finR, e] at hb ⊢
          by_cases hi : bo.contains i = true
          · rw [if_pos hi] at hb; exact absurd rfl hb
          · rw [if_neg hi]
            refine ⟨_, rfl, fp i, h2, fun a ha => ⟨(R.ow i a ha).1, ?_⟩⟩
            rcases (R.ow i a ha).2.2 with z | z
            · obtain ⟨k, z1, z2⟩ := hmu a z
              have : i = k := R.ds i k a ha z2
              rw [this] at hi
              exact absurd z1 hi
            · exact z
theorem spA_body {K : PySem.W.Frag} {N : List Str} {F H : Hp} {ds : List D} {vs : List V} {g : PM Out} {Q : VK} {E : XK} (e : Ex F H) (hd : Dens K F ds vs) (hl : vs.length ≤ N.length)
    (h : match runA N.length g ds with
      | .ok r => ∀ F' H' v, Grown F H F' H' → Ex H H' → RetOk K F' H H' r v → Q v H'
      | .exc x => ∀ F' H' d, Grown F H F' H' → Ex H H' → ExnOk K F' H' x d → E x.cls d H'
      | .bad => False) : GoesS K (ctA F H) (fun cls d _ H => E cls d H) F (g (envOf N.length (ds.map .im))) { nx := fun _ H' => Q .non H', rt := Q } := by
  have gr : ∀ {fp' : Nat → List Addr} {F' H' : Hp} {env' : PEnv} {σ' : L2.St}, Rel K (ctA F H) fp' F' env' σ' H' → Grown F H F' H' ∧ Ex H H' := fun {fp' F' H' env' σ'} R =>
    ⟨⟨R.f0, R.fh, fun q hq => (R.nw q hq).imp id fun z => z.elim id fun y => y.elim⟩, fun q o z => R.kp q o z fun y => y⟩
  unfold runA at h
  cases eg : g (envOf N.length (ds.map .im)) with
  | bad => rw [eg] at h; exact h.elim
  | exc x env' =>
    rw [eg] at h
    exact fun fp' F' σ' H' d R e1 hx => h F' H' d (gr R).1 (gr R).2 hx
  | ok out env' =>
    rw [eg] at h
    intro fp' F' σ' H' R e1
    cases out with
    | next => exact h F' H' .non (gr R).1 (gr R).2 (by show Den _ _ _ _; simp only [Den])
    | brk => exact h.elim
    | cont => exact h.elim
    | ret o =>
      intro v hv
      have hb : finR [] o env' ≠ .bad := fun z => by simp only [z] at h
      obtain ⟨r, hr1, hr2⟩ := fin_ret (bo := []) R (fun _ z => z) (fun _ z => z.elim) hv hb
      simp only [hr1] at h
      exact h F' H' v (gr R).1 (gr R).2 hr2
end
end Pu

namespace Pu
open PySem PySem.Spec PyProof.Rows L2
section
variable {K : PySem.W.Frag} {F H H' : Hp}
theorem den_int {i : Int} : Den K F (.int i) (.int i) := by simp only [Den]
theorem den_str {i : Str} : Den K F (.str i) (.str i) := by simp only [Den]
theorem den_non : Den K F .none .non := by simp only [Den]
theorem bd_int {i : Int} {v : V} (h : BDen K F H (.int i) v) : v = .int i := by simpa only [BDen, Den] using h
theorem bd_bl {i : Bool} {v : V} (h : BDen K F H (.bool i) v) : v = .bl i := by simpa only [BDen, Den] using h
theorem bd_str {i : Str} {v : V} (h : BDen K F H (.str i) v) : v = .str i := by simpa only [BDen, Den] using h
theorem bd_non {v : V} (h : BDen K F H .none v) : v = .non := by simpa only [BDen, Den] using h
theorem bd_list {ds : List D} {v : V} (h : BDen K F H (.list ds) v) : ∃ a xs, v = .ref a ∧ H a = some (.lst xs) ∧ Dens K F ds xs := h
theorem bd_tup {ds : List D} {v : V} (h : BDen K F H (.tuple ds) v) : ∃ a xs, v = .ref a ∧ SqT K F a xs ∧ Dens K F ds xs := by simpa only [BDen, Den] using h
theorem bd_dict {ds : List (D × D)} {v : V} (h : BDen K F H (.dict ds) v) : ∃ a xs, v = .ref a ∧ H a = some (.dK xs) ∧ DenKV K F ds xs := h
theorem dens_nil {xs : List V} (h : Dens K F [] xs) : xs = [] := by simpa only [Dens] using h
theorem dens_drop : ∀ {ds : List D} {xs : List V} (n : Nat), Dens K F ds xs → Dens K F (ds.drop n) (xs.drop n)
  | ds, xs, 0, h => h
  | [], xs, n + 1, h => by rw [dens_nil h]; simp [Dens]
  | d :: ds, xs, n + 1, h => by
    simp only [Dens] at h
    obtain ⟨v, r, rfl, _, h2⟩ := h
    exact dens_drop n h2
theorem dens_take : ∀ {ds : List D} {xs : List V} (n : Nat), Dens K F ds xs → Dens K F (ds.take n) (xs.take n)
  | ds, xs, 0, h => by simp [Dens]
  | [], xs, n + 1, h => by rw [dens_nil h]; simp [Dens]
  | d :: ds, xs, n + 1, h => by
    simp only [Dens] at h
    obtain ⟨v, r, rfl, h1, h2⟩ := h
    show Dens K F (d :: ds.take n) (v :: r.take n)
    simp only [Dens]
    exact ⟨v, _, rfl, h1, dens_take n h2⟩
def cutD (ds : List D) (lo hi : Option Int) : List D := (ds.drop (HT.sIx ds.length 0 lo)).take (HT.sIx ds.length ds.length hi - HT.sIx ds.length 0 lo)
theorem dens_cut {ds : List D} {xs : List V} {lo hi : Option Int} (h : Dens K F ds xs) : Dens K F (cutD ds lo hi) (cutV xs lo hi) := by
  unfold cutD cutV
  rw [dens_len h]
  exact dens_take _ (dens_drop _ h)
theorem dens_at {ds : List D} {xs : List V} {i : Int} {d : D} (h : Dens K F ds xs) (e : atI ds i = some d) : ∃ v, atI xs i = some v ∧ Den K F d v := by
  unfold atI at e ⊢
  rw [dens_len h]
  cases q : ixN ds.length i with
  | none => rw [q] at e; cases e
  | some j =>
    rw [q] at e
    exact dens_get' h e
theorem dens_rep {ds : List D} {xs : List V} (h : Dens K F ds xs) : ∀ n : Nat, Dens K F (List.replicate n ds).flatten (List.replicate n xs).flatten
  | 0 => by simp [Dens]
  | n + 1 => by
    rw [List.replicate_succ, List.replicate_succ, List.flatten_cons, List.flatten_cons]
    exact dens_app h (dens_rep h n)
theorem dens_ne {ds : List D} {xs : List V} (h : Dens K F ds xs) : xs = [] ↔ ds = [] := by
  have := dens_len h
  constructor
  · intro e; rw [e] at this; exact List.eq_nil_of_length_eq_zero this.symm
  · intro e; rw [e] at this; exact List.eq_nil_of_length_eq_zero this
end
/-! ### + - * % // ** -/
def gAdd : D → D → Option Opd
  | .int i, .int j => some (.val (.int (i + j)))
  | .str x, .str y => if x.length + y.length ≤ bigLine then some (.val (.str (x ++ y))) else none
  | .list xs, .list ys => if xs.length + ys.length ≤ bigLine then some (.tmp (xs ++ ys)) else none
  | .tuple xs, .tuple ys => if xs.length + ys.length ≤ bigLine then some (.val (.tuple (xs ++ ys))) else none
  | _, _ => none
theorem big_le {n : Nat} (h : n ≤ bigLine) : n ≤ sizeLine := Nat.le_trans h (Nat.le_of_lt big_line)
section
variable {X : Cx}
theorem o2_add : Op2 X (binaryOp .Add) gAdd := by
  refine ⟨_, OpR.or (OpR.or op_add op_add_str) (OpR.or op_cat op_catA), fun F H x y dx dy o Q e hx hy hg q => ?_⟩
  cases dx with
  | int i =>
    cases dy with
    | int j =>
      cases hg
      exact .inl (.inl ⟨i, j, bd_int hx, bd_int hy, q _ _ (.same den_int)⟩)
    | _ => cases hg
  | str z =>
    cases dy with
    | str u =>
      simp only [gAdd] at hg
      split at hg
      · cases hg
        exact .inl (.inr ⟨z, u, bd_str hx, bd_str hy, big_le (by assumption), q _ _ (.same den_str)⟩)
      · cases hg
    | _ => cases hg
  | list xs =>
    cases dy with
    | list ys =>
      simp only [gAdd] at hg
      split at hg
      · rename_i hl
        cases hg
        obtain ⟨a, us, rfl, h1, h2⟩ := bd_list hx
        obtain ⟨b, ws, rfl, h3, h4⟩ := bd_list hy
        exact .inr (.inl ⟨a, b, us, ws, rfl, rfl, h1, h3, by rw [dens_len h2, dens_len h4]; exact big_le hl, fun p hp => q _ _ (.lst hp (dens_app h2 h4))⟩)
      · cases hg
    | _ => cases hg
  | tuple xs =>
    cases dy with
    | tuple ys =>
      simp only [gAdd] at hg
      split at hg
      · rename_i hl
        cases hg
        obtain ⟨a, us, rfl, h1, h2⟩ := bd_tup hx
        obtain ⟨b, ws, rfl, h3, h4⟩ := bd_tup hy
        refine .inr (.inr ⟨a, b, us, ws, rfl, rfl, ex_t e h1, ex_t e h3, by rw [dens_len h2, dens_len h4]; exact big_le hl, fun z => ?_, fun z1 z2 => ?_, fun z1 z2 p hp => q _ _ (.tup hp (dens_app h2 h4))⟩)
        · have := (dens_ne h2).mp z
          subst this
          refine q _ _ (.same ?_)
          simp only [Den]
          exact ⟨b, ws, rfl, h3, h4⟩
        · have := (dens_ne h4).mp z2
          subst this
          rw [List.append_nil] at q
          refine q _ _ (.same ?_)
          simp only [Den]
          exact ⟨a, us, rfl, h1, h2⟩
      · cases hg
    | _ => cases hg
  | _ => cases hg
def gInt (C : Int → Int → Bool) (f : Int → Int → Int) : D → D → Option Opd
  | .int i, .int j => if C i j = true then some (.val (.int (f i j))) else none
  | _, _ => none
theorem o2_int {op : Value → Value → Sem Value} {C : Int → Int → Bool} {C' : Int → Int → Prop} {f : Int → Int → Int} (h : OpR X op (rI C' fun i j => .int (f i j))) (hc : ∀ i j, C i j = true → C' i j) : Op2 X op (gInt C f) := by
  refine ⟨_, h, fun F H x y dx dy o Q e hx hy hg q => ?_⟩
  cases dx with
  | int i =>
    cases dy with
    | int j =>
      simp only [gInt] at hg
      split at hg
      · rename_i hl
        cases hg
        exact ⟨i, j, bd_int hx, bd_int hy, hc _ _ hl, q _ _ (.same den_int)⟩
      · cases hg
    | _ => cases hg
  | _ => cases hg
def gInt0 (f : Int → Int → Int) : D → D → Option Opd
  | .int i, .int j => some (.val (.int (f i j)))
  | _, _ => none
theorem o2_int0 {op : Value → Value → Sem Value} {f : Int → Int → Int} (h : OpR X op (rI0 fun i j => .int (f i j))) : Op2 X op (gInt0 f) := by
  refine ⟨_, h, fun F H x y dx dy o Q e hx hy hg q => ?_⟩
  cases dx with
  | int i =>
    cases dy with
    | int j =>
      cases hg
      exact ⟨i, j, bd_int hx, bd_int hy, q _ _ (.same den_int)⟩
    | _ => cases hg
  | _ => cases hg
abbrev gSub : D → D → Option Opd := gInt0 fun i j => i - j
theorem o2_sub : Op2 X (binaryOp .Sub) gSub := o2_int0 op_sub
abbrev gMod : D → D → Option Opd := gInt (fun _ j => decide (0 < j)) fun i j => i % j
theorem o2_mod : Op2 X (binaryOp .Mod) gMod := o2_int op_mod fun i j h => (show 0 < j from of_decide_eq_true h)
abbrev gDiv : D → D → Option Opd := gInt (fun _ j => decide (0 < j ∧ j < 1073741824)) fun i j => i / j
theorem o2_div : Op2 X (binaryOp .FloorDiv) gDiv := o2_int op_fdiv fun i j h => (show 0 < j ∧ j < 1073741824 from of_decide_eq_true h)
abbrev gPow : D → D → Option Opd := gInt (fun i j => decide (0 ≤ j ∧ j ≤ 1000000 ∧ i.natAbs < 2 ^ 64)) fun i j => i ^ j.toNat
theorem o2_pow : Op2 X (binaryOp .Pow) gPow := o2_int op_pow fun i j h => (show 0 ≤ j ∧ j ≤ 1000000 ∧ i.natAbs < 2 ^ 64 from of_decide_eq_true h)
def gMul : D → D → Option Opd
  | .int i, .int j => if (-(2 ^ 64) < i ∧ i < 2 ^ 64) ∨ (-(2 ^ 64) < j ∧ j < 2 ^ 64) then some (.val (.int (i * j))) else none
  | .list xs, .int k => if -(2 ^ 63) ≤ k ∧ k < 2 ^ 63 ∧ xs.length * k.toNat ≤ bigLine then some (.tmp (List.replicate k.toNat xs).flatten) else none
  | .tuple xs, .int k => if xs ≠ [] ∧ 2 ≤ k ∧ k ≤ 1000 ∧ xs.length ≤ 1000 then some (.val (.tuple (List.replicate k.toNat xs).flatten)) else none
  | _, _ => none
theorem o2_mul : Op2 X (binaryOp .Mult) gMul := by
  refine ⟨_, OpR.or op_mul (OpR.or op_rep op_repT), fun F H x y dx dy o Q e hx hy hg q => ?_⟩
  cases dy with
  | int j =>
    cases dx with
    | int i =>
      simp only [gMul] at hg
      split at hg
      · rename_i hl
        cases hg
        exact .inl ⟨i, j, bd_int hx, bd_int hy, hl, q _ _ (.same den_int)⟩
      · cases hg
    | list xs =>
      simp only [gMul] at hg
      split at hg
      · rename_i hl
        cases hg
        obtain ⟨a, us, rfl, h1, h2⟩ := bd_list hx
        exact .inr (.inl ⟨a, j, us, rfl, bd_int hy, h1, hl.1, hl.2.1, by rw [dens_len h2]; exact big_le hl.2.2, fun p hp => q _ _ (.lst hp (dens_rep h2 _))⟩)
      · cases hg
    | tuple xs =>
      simp only [gMul] at hg
      split at hg
      · rename_i hl
        cases hg
        obtain ⟨a, us, rfl, h1, h2⟩ := bd_tup hx
        exact .inr (.inr ⟨a, j, us, rfl, bd_int hy, ex_t e h1, fun z => hl.1 ((dens_ne h2).mp z), hl.2.1, hl.2.2.1, by rw [dens_len h2]; exact hl.2.2.2, fun p hp => q _ _ (.tup hp (dens_rep h2 _))⟩)
      · cases hg
    | _ => cases hg
  | _ => cases dx <;> cases hg
/-! ### comparisons -/
def gCmp (f : Int → Int → Bool) : D → D → Option Opd
  | .int i, .int j => some (.val (.bool (f i j)))
  | _, _ => none
theorem o2_cmp {op : Value → Value → Sem Value} {f : Int → Int → Bool} (h : OpR X op (rI0 fun i j => .bl (f i j))) : Op2 X op (gCmp f) := by
  refine ⟨_, h, fun F H x y dx dy o Q e hx hy hg q => ?_⟩
  cases dx with
  | int i =>
    cases dy with
    | int j =>
      cases hg
      exact ⟨i, j, bd_int hx, bd_int hy, q _ _ (.same den_bl)⟩
    | _ => cases hg
  | _ => cases hg
def intsOf : List D → Option (List Int)
  | [] => some []
  | .int i :: ds => (intsOf ds).map (i :: ·)
  | _ => none
theorem dens_ints {K : PySem.W.Frag} {F : Hp} : ∀ {ds : List D} {xs : List V} {ns : List Int}, Dens K F ds xs → intsOf ds = some ns → xs = ns.map V.int
  | [], xs, ns, h, e => by cases e; exact dens_nil h
  | d :: ds, xs, ns, h, e => by
    cases d with
    | int i =>
      simp only [Dens, Den] at h
      obtain ⟨v, r, rfl, rfl, h2⟩ := h
      cases e1 : intsOf ds with
      | none => simp only [intsOf, e1] at e; cases e
      | some ms =>
        simp only [intsOf, e1] at e
        cases e
        rw [dens_ints h2 e1]
        rfl
    | _ => cases e
/-- < and <= of ints, and of tuples of ints -/
def leInts (ns ms : List Int) : Bool := Ob.lexAt (fun j => decide (ns.getD j 0 = ms.getD j 0)) (fun j => decide (ns.getD j 0 ≤ ms.getD j 0)) (decide (ns.length ≤ ms.length)) 0 (min ns.length ms.length)
def gLt : D → D → Option Opd
  | .int i, .int j => some (.val (.bool (decide (i < j))))
  | .tuple xs, .tuple ys => (intsOf xs).bind fun ns => (intsOf ys).map fun ms => .val (.bool (HT.lexLt ns ms))
  | _, _ => none
def gLe : D → D → Option Opd
  | .int i, .int j => some (.val (.bool (decide (i ≤ j))))
  | .tuple xs, .tuple ys => (intsOf xs).bind fun ns => (intsOf ys).map fun ms => .val (.bool (leInts ns ms))
  | _, _ => none
theorem o2_lt (hu : X.A.units < cLine) : Op2 X (compareOp .Lt) gLt := by
  refine ⟨_, OpR.or op_lt (op_ltT hu), fun F H x y dx dy o Q e hx hy hg q => ?_⟩
  cases dx with
  | int i =>
    cases dy with
    | int j => cases hg; exact .inl ⟨i, j, bd_int hx, bd_int hy, q _ _ (.same den_bl)⟩
    | _ => cases hg
  | tuple xs =>
    cases dy with
    | tuple ys =>
      cases e1 : intsOf xs with
      | none => simp only [gLt, e1] at hg; cases hg
      | some ns =>
        cases e2 : intsOf ys with
        | none => simp only [gLt, e1, e2] at hg; cases hg
        | some ms =>
          simp only [gLt, e1, e2] at hg
          cases hg
          obtain ⟨a, us, rfl, h1, h2⟩ := bd_tup hx
          obtain ⟨b, ws, rfl, h3, h4⟩ := bd_tup hy
          rw [dens_ints h2 e1] at h1
          rw [dens_ints h4 e2] at h3
          exact .inr ⟨a, b, ns, ms, rfl, rfl, ex_t e h1, ex_t e h3, q _ _ (.same den_bl)⟩
    | _ => cases hg
  | _ => cases hg
theorem o2_le (hu : X.A.units < cLine) : Op2 X (compareOp .LtE) gLe := by
  refine ⟨_, OpR.or op_le (op_leT hu), fun F H x y dx dy o Q e hx hy hg q => ?_⟩
  cases dx with
  | int i =>
    cases dy with
    | int j => cases hg; exact .inl ⟨i, j, bd_int hx, bd_int hy, q _ _ (.same den_bl)⟩
    | _ => cases hg
  | tuple xs =>
    cases dy with
    | tuple ys =>
      cases e1 : intsOf xs with
      | none => simp only [gLe, e1] at hg; cases hg
      | some ns =>
        cases e2 : intsOf ys with
        | none => simp only [gLe, e1, e2] at hg; cases hg
        | some ms =>
          simp only [gLe, e1, e2] at hg
          cases hg
          obtain ⟨a, us, rfl, h1, h2⟩ := bd_tup hx
          obtain ⟨b, ws, rfl, h3, h4⟩ := bd_tup hy
          rw [dens_ints h2 e1] at h1
          rw [dens_ints h4 e2] at h3
          exact .inr ⟨a, b, ns, ms, rfl, rfl, ex_t e h1, ex_t e h3, q _ _ (.same den_bl)⟩
    | _ => cases hg
  | _ => cases hg
abbrev gGt : D → D → Option Opd := gCmp fun i j => decide (j < i)
abbrev gGe : D → D → Option Opd := gCmp fun i j => decide (j ≤ i)
theorem o2_gt : Op2 X (compareOp .Gt) gGt := o2_cmp op_gt
theorem o2_ge : Op2 X (compareOp .GtE) gGe := o2_cmp op_ge
/-! == of data without dicts -/
mutual
theorem den_dp {K : PySem.W.Frag} {F : Hp} : ∀ (d : D) (v : V), d.canLay0 = true → Den K F d v → Dp K F v d
  | .none, _, _, h => by simp only [Den] at h; subst h; exact .non
  | .bool _, _, _, h => by simp only [Den] at h; subst h; exact .bl _
  | .int _, _, _, h => by simp only [Den] at h; subst h; exact .int _
  | .str _, _, _, h => by simp only [Den] at h; subst h; exact .str _
  | .list ds, _, c, h => by
    simp only [Den] at h
    obtain ⟨a, xs, rfl, h1, h2⟩ := h
    exact .lst (.inl (.inl h1)) (dens_dp ds xs (by simpa [PyData.canLay0] using c) h2)
  | .tuple ds, _, c, h => by
    simp only [Den] at h
    obtain ⟨a, xs, rfl, h1, h2⟩ := h
    exact .tup h1 (dens_dp ds xs (by simpa [PyData.canLay0] using c) h2)
  | .dict _, _, c, _ => by simp [PyData.canLay0] at c
theorem dens_dp {K : PySem.W.Frag} {F : Hp} : ∀ (ds : List D) (vs : List V), PyData.canLayAll0 ds = true → Dens K F ds vs → DpAll K F vs ds
  | [], _, _, h => by simp only [Dens] at h; subst h; exact .nil
  | d :: ds, _, c, h => by
    simp only [Dens] at h
    obtain ⟨v, r, rfl, h1, h2⟩ := h
    have c' : d.canLay0 = true ∧ PyData.canLayAll0 ds = true := by simpa [PyData.canLayAll0] using c
    exact .cons (den_dp d v c'.1 h1) (dens_dp ds r c'.2 h2)
end
mutual
theorem dp_mono {K : PySem.W.Frag} {F F' : Hp} (e : Ex F F') : ∀ (d : D) (v : V), Dp K F v d → Dp K F' v d
  | .none, _, h => by cases h; exact .non
  | .bool _, _, h => by cases h; exact .bl _
  | .int _, _, h => by cases h; exact .int _
  | .str _, _, h => by cases h; exact .str _
  | .list ds, _, h => by
    cases h with
    | lst h1 h2 => exact .lst (ex_l e h1) (dpAll_mono e ds _ h2)
  | .tuple ds, _, h => by
    cases h with
    | tup h1 h2 => exact .tup (ex_t e h1) (dpAll_mono e ds _ h2)
  | .dict _, _, h => by cases h
theorem dpAll_mono {K : PySem.W.Frag} {F F' : Hp} (e : Ex F F') : ∀ (ds : List D) (vs : List V), DpAll K F vs ds → DpAll K F' vs ds
  | [], _, h => by cases h; exact .nil
  | d :: ds, _, h => by
    cases h with
    | cons h1 h2 => exact .cons (dp_mono e d _ h1) (dpAll_mono e ds _ h2)
end
theorem bden_dp {F H : Hp} {K : PySem.W.Frag} (e : Ex F H) {d : D} {v : V} (c : d.canLay0 = true) (h : BDen K F H d v) : Dp K H v d := by
  cases d with
  | list ds =>
    obtain ⟨a, xs, rfl, h1, h2⟩ := bd_list h
    exact .lst (.inl (.inl h1)) (dpAll_mono e _ _ (dens_dp ds xs (by simpa [PyData.canLay0] using c) h2))
  | dict es => simp [PyData.canLay0] at c
  | _ => exact dp_mono e _ _ (den_dp _ v c h)
def strPair : D → D → Option (Str × Str)
  | .str a, .str b => some (a, b)
  | _, _ => none
theorem strPair_some {x y : D} {p : Str × Str} (h : strPair x y = some p) : x = .str p.1 ∧ y = .str p.2 := by
  unfold strPair at h
  split at h
  · cases h; exact ⟨rfl, rfl⟩
  · cases h
def gEq (neg : Bool) (x y : D) : Option Opd := match strPair x y with
  | some p => some (.val (.bool (if neg = true then !decide (p.1 = p.2) else decide (p.1 = p.2))))
  | none => if SeqAt.shaped x = true ∧ SeqAt.shaped y = true then some (.val (.bool (if neg = true then !PyData.eqv x y else PyData.eqv x y))) else none
theorem o2_eq (hu : X.A.units + 64 < cLine) : Op2 X (compareOp .Eq) (gEq false) := by
  refine ⟨_, OpR.or op_eq (op_eqD hu), fun F H x y dx dy o Q e hx hy hg q => ?_⟩
  unfold gEq at hg
  cases hp : strPair dx dy with
  | some p =>
    obtain ⟨rfl, rfl⟩ := strPair_some hp
    rw [hp] at hg
    cases hg
    rw [bd_str hx, bd_str hy]
    refine .inl ⟨rfl, ?_⟩
    have : decide (V.str p.1 = V.str p.2) = decide (p.1 = p.2) := decide_eq_decide.mpr ⟨fun h => V.str.inj h, fun h => by rw [h]⟩
    rw [this]
    exact q _ _ (.same den_bl)
  | none =>
    rw [hp] at hg
    have hg' : (if SeqAt.shaped dx = true ∧ SeqAt.shaped dy = true then some (Opd.val (.bool (if false = true then !PyData.eqv dx dy else PyData.eqv dx dy))) else none) = some o := hg
    split at hg'
    · rename_i hs
      cases hg'
      exact .inr ⟨dx, dy, bden_dp e (SeqAt.canLay_of_shaped hs.1) hx, bden_dp e (SeqAt.canLay_of_shaped hs.2) hy, hs.1, hs.2, q _ _ (.same den_bl)⟩
    · cases hg'
theorem o2_ne (hu : X.A.units + 64 < cLine) : Op2 X (compareOp .NotEq) (gEq true) := by
  refine ⟨_, OpR.or op_ne (op_neD hu), fun F H x y dx dy o Q e hx hy hg q => ?_⟩
  unfold gEq at hg
  cases hp : strPair dx dy with
  | some p =>
    obtain ⟨rfl, rfl⟩ := strPair_some hp
    rw [hp] at hg
    cases hg
    rw [bd_str hx, bd_str hy]
    refine .inl ⟨rfl, ?_⟩
    have : decide (V.str p.1 = V.str p.2) = decide (p.1 = p.2) := decide_eq_decide.mpr ⟨fun h => V.str.inj h, fun h => by rw [h]⟩
    rw [this]
    exact q _ _ (.same den_bl)
  | none =>
    rw [hp] at hg
    have hg' : (if SeqAt.shaped dx = true ∧ SeqAt.shaped dy = true then some (Opd.val (.bool (if true = true then !PyData.eqv dx dy else PyData.eqv dx dy))) else none) = some o := hg
    split at hg'
    · rename_i hs
      cases hg'
      exact .inr ⟨dx, dy, bden_dp e (SeqAt.canLay_of_shaped hs.1) hx, bden_dp e (SeqAt.canLay_of_shaped hs.2) hy, hs.1, hs.2, q _ _ (.same den_bl)⟩
    · cases hg'

/-- is None -/
def isNon : D → Bool
  | .none => true
  | _ => false
def gIsN (neg : Bool) (x : D) : D → Option Opd
  | .none => some (.val (.bool (if neg = true then !isNon x else isNon x)))
  | _ => none
theorem bden_non {F H : Hp} {d : D} {v : V} (h : BDen X.K F H d v) : decide (v = .non) = isNon d := by
  cases d with
  | none => rw [bd_non h]; rfl
  | bool b => rw [bd_bl h]; rfl
  | int i => rw [bd_int h]; rfl
  | str s => rw [bd_str h]; rfl
  | list ds => obtain ⟨a, xs, rfl, _⟩ := bd_list h; rfl
  | tuple ds => obtain ⟨a, xs, rfl, _⟩ := bd_tup h; rfl
  | dict ds => obtain ⟨a, xs, rfl, _⟩ := bd_dict h; rfl
theorem o2_isN : Op2 X (compareOp .Is) (gIsN false) := by
  refine ⟨_, op_isN, fun F H x y dx dy o Q e hx hy hg q => ?_⟩
  cases dy with
  | none =>
    refine ⟨bd_non hy, ?_⟩
    rw [bden_non hx]
    cases hg
    exact q _ _ (.same den_bl)
  | _ => cases hg
theorem o2_notN : Op2 X (compareOp .IsNot) (gIsN true) := by
  refine ⟨_, op_notN, fun F H x y dx dy o Q e hx hy hg q => ?_⟩
  cases dy with
  | none =>
    refine ⟨bd_non hy, ?_⟩
    rw [bden_non hx]
    cases hg
    exact q _ _ (.same den_bl)
  | _ => cases hg
/-! ### subscripts, slices -/
def gIx : D → D → Option Opd
  | .list ds, .int i => (atI ds i).map .val
  | .tuple ds, .int i => (atI ds i).map .val
  | .str z, .int i => if z.length ≤ bigLine then (atI z.cps.toList i).map fun c => .val (.str ⟨#[c]⟩) else none
  | _, _ => none
theorem i2_ix : Ix2 X gIx := by
  refine ⟨_, IxR.or (IxR.or ix_list ix_tup) ix_str, fun F H x y dx dy o Q e hx hy hg q => ?_⟩
  cases dy with
  | int i =>
    cases dx with
    | list ds =>
      obtain ⟨a, xs, rfl, h1, h2⟩ := bd_list hx
      cases ea : atI ds i with
      | none => simp only [gIx, ea] at hg; cases hg
      | some d =>
        simp only [gIx, ea] at hg
        cases hg
        obtain ⟨v, hv, hd⟩ := dens_at h2 ea
        exact .inl (.inl ⟨a, xs, i, v, rfl, bd_int hy, .inl (.inl h1), hv, q _ _ (.same hd)⟩)
    | tuple ds =>
      obtain ⟨a, xs, rfl, h1, h2⟩ := bd_tup hx
      cases ea : atI ds i with
      | none => simp only [gIx, ea] at hg; cases hg
      | some d =>
        simp only [gIx, ea] at hg
        cases hg
        obtain ⟨v, hv, hd⟩ := dens_at h2 ea
        exact .inl (.inr ⟨a, xs, i, v, rfl, bd_int hy, ex_t e h1, hv, q _ _ (.same hd)⟩)
    | str z =>
      simp only [gIx] at hg
      split at hg
      · rename_i hl
        cases ea : atI z.cps.toList i with
        | none => rw [ea] at hg; cases hg
        | some c =>
          rw [ea] at hg
          cases hg
          exact .inr ⟨z, i, c, bd_str hx, bd_int hy, big_le hl, ea, q _ _ (.same den_str)⟩
      · cases hg
    | _ => cases hg
  | _ => cases dx <;> cases hg
def gSl : D → Option Int → Option Int → Option Opd
  | .list ds, lo, hi => some (.tmp (cutD ds lo hi))
  | .tuple ds, lo, hi => some (.val (.tuple (cutD ds lo hi)))
  | .str z, lo, hi => if z.length ≤ bigLine then some (.val (.str (cutS z lo hi))) else none
  | _, _, _ => none
theorem s2_sl : Sl2 X gSl := by
  refine ⟨_, SlR.or (SlR.or sl_list sl_tupA) sl_str, fun F H x dx lo hi o Q e hx hg q => ?_⟩
  cases dx with
  | list ds =>
    obtain ⟨a, xs, rfl, h1, h2⟩ := bd_list hx
    cases hg
    exact .inl (.inl ⟨a, xs, rfl, .inl (.inl h1), fun p hp => q _ _ (.lst hp (dens_cut h2))⟩)
  | tuple ds =>
    obtain ⟨a, xs, rfl, h1, h2⟩ := bd_tup hx
    cases hg
    refine .inl (.inr ⟨a, xs, rfl, ex_t e h1, fun z => ?_, fun z p hp => q _ _ (.tup hp (dens_cut h2))⟩)
    have ec : cutV xs lo hi = xs := by
      unfold cutV
      rw [z.1, z.2, List.drop_zero, Nat.sub_zero, List.take_length]
    have hc := dens_cut (lo := lo) (hi := hi) h2
    rw [ec] at hc
    refine q _ _ (.same ?_)
    simp only [Den]
    exact ⟨a, xs, rfl, h1, hc⟩
  | str z =>
    simp only [gSl] at hg
    split at hg
    · rename_i hl
      cases hg
      exact .inr ⟨z, bd_str hx, big_le hl, q _ _ (.same den_str)⟩
    · cases hg
  | _ => cases hg
/-! ### built-ins -/
def gLen : List D → Option Opd
  | [.list ds] => some (.val (.int ds.length))
  | [.tuple ds] => some (.val (.int ds.length))
  | [.str z] => if z.length ≤ bigLine then some (.val (.int z.length)) else none
  | _ => none
theorem bi_len : Bi X (.builtin "len") gLen := by
  refine ⟨_, call_len, fun F H xs ds o Q e sy hx hg q => ?_⟩
  cases ds with
  | nil => cases hg
  | cons d ds =>
    obtain ⟨v, r, rfl, h1, h2⟩ := hx
    cases ds with
    | cons _ _ => cases d <;> cases hg
    | nil =>
      cases h2
      cases d with
      | list ds =>
        obtain ⟨a, xs, rfl, h1, h2⟩ := bd_list h1
        cases hg
        exact ⟨.ref a, ds.length, rfl, .inl ⟨xs, .inl (.inl h1), (dens_len h2).symm⟩, q _ _ (.same den_int)⟩
      | tuple ds =>
        obtain ⟨a, xs, rfl, h1, h2⟩ := bd_tup h1
        cases hg
        exact ⟨.ref a, ds.length, rfl, .inr ⟨xs, ex_t e h1, (dens_len h2).symm⟩, q _ _ (.same den_int)⟩
      | str z =>
        simp only [gLen] at hg
        split at hg
        · rename_i hl
          cases hg
          exact ⟨.str z, z.length, by rw [bd_str h1], ⟨big_le hl, rfl⟩, q _ _ (.same den_int)⟩
        · cases hg
      | _ => cases hg
def gAbs : List D → Option Opd
  | [.int i] => some (.val (.int (if i < 0 then -i else i)))
  | _ => none
theorem bdens1 {K : PySem.W.Frag} {F H : Hp} {d : D} {xs : List V} (h : BDens K F H [d] xs) : ∃ v, xs = [v] ∧ BDen K F H d v := by
  obtain ⟨v, r, rfl, h1, h2⟩ := h
  cases h2
  exact ⟨v, rfl, h1⟩
theorem bi_abs : Bi X (.builtin "abs") gAbs := by
  refine ⟨_, call_abs, fun F H xs ds o Q e sy hx hg q => ?_⟩
  unfold gAbs at hg
  split at hg
  · cases hg
    obtain ⟨v, rfl, h1⟩ := bdens1 hx
    exact ⟨_, by rw [bd_int h1], q _ _ (.same den_int)⟩
  · cases hg
def gInt1 : List D → Option Opd
  | [.int i] => some (.val (.int i))
  | [.bool b] => some (.val (.int (if b then 1 else 0)))
  | _ => none
theorem bi_int : Bi X (.type "int") gInt1 := by
  refine ⟨_, call_int1, fun F H xs ds o Q e sy hx hg q => ?_⟩
  unfold gInt1 at hg
  split at hg
  · cases hg
    obtain ⟨v, rfl, h1⟩ := bdens1 hx
    exact .inl ⟨_, by rw [bd_int h1], q _ _ (.same den_int)⟩
  · cases hg
    obtain ⟨v, rfl, h1⟩ := bdens1 hx
    exact .inr ⟨_, by rw [bd_bl h1], q _ _ (.same den_int)⟩
  · cases hg
def gTuple : List D → Option Opd
  | [.list ds] => some (.val (.tuple ds))
  | [.tuple ds] => some (.val (.tuple ds))
  | _ => none
theorem bi_tuple : Bi X (.type "tuple") gTuple := by
  refine ⟨_, call_tuple_of, fun F H xs ds o Q e sy hx hg q => ?_⟩
  unfold gTuple at hg
  split at hg
  · cases hg
    obtain ⟨v, rfl, h1⟩ := bdens1 hx
    obtain ⟨a, xs, rfl, h1, h2⟩ := bd_list h1
    exact ⟨a, xs, rfl, .inl ⟨.inl (.inl h1), fun p hp => q _ _ (.tup hp h2)⟩⟩
  · cases hg
    obtain ⟨v, rfl, h1⟩ := bdens1 hx
    obtain ⟨a, xs, rfl, h1', h2⟩ := bd_tup h1
    exact ⟨a, xs, rfl, .inr ⟨ex_t e h1', q _ _ (.same h1)⟩⟩
  · cases hg
def gList : List D → Option Opd
  | [.list ds] => some (.tmp ds)
  | [.tuple ds] => some (.tmp ds)
  | _ => none
theorem bi_list : Bi X (.type "list") gList := by
  refine ⟨_, call_list_of, fun F H xs ds o Q e sy hx hg q => ?_⟩
  unfold gList at hg
  split at hg
  · cases hg
    obtain ⟨v, rfl, h1⟩ := bdens1 hx
    obtain ⟨a, xs, rfl, h1, h2⟩ := bd_list h1
    exact ⟨a, xs, rfl, .inl (.inl (.inl h1)), fun p hp => q _ _ (.lst hp h2)⟩
  · cases hg
    obtain ⟨v, rfl, h1⟩ := bdens1 hx
    obtain ⟨a, xs, rfl, h1', h2⟩ := bd_tup h1
    exact ⟨a, xs, rfl, .inr (ex_t e h1'), fun p hp => q _ _ (.lst hp h2)⟩
  · cases hg
end
end Pu

namespace Pu
open PySem PySem.Spec PyProof.Rows L2
/-! ### repr -/
theorem isTup_reads {h : Heap} {a : Addr} {its : Array Value} (p : IsTup h a its) : ∃ o n, h.get? a = some o ∧ o.cls = .type "tuple" ∧ o.data = .seq its n := by
  obtain ⟨o, e, c, n, d⟩ := p
  exact ⟨o, n, e, c, d⟩
section
variable {X : Cx} {pins : List (Addr × Obj)} {σ : L2.St} {H F : Hp} {s : Shared}
mutual
theorem den_reads (I : Inv X pins σ H s) (e : Ex F H) (sy : SyF F) : ∀ (d : D) (v : V) (u : Value), Den X.K F d v → RelV v u → ∃ as, Reads s.heap u d as ∧ sysModules ∉ as
  | .none, _, _, h, r => by
    simp only [Den] at h
    subst h
    cases r
    exact ⟨_, Reads.none, by simp⟩
  | .bool b, _, _, h, r => by
    simp only [Den] at h
    subst h
    cases r
    exact ⟨_, Reads.bool b, by simp⟩
  | .int i, _, _, h, r => by
    simp only [Den] at h
    subst h
    obtain ⟨t, rfl⟩ := r
    exact ⟨_, Reads.int i t, by simp⟩
  | .str x, _, _, h, r => by
    simp only [Den] at h
    subst h
    obtain ⟨t, rfl⟩ := r
    exact ⟨_, Reads.str x t, by simp⟩
  | .list ds, _, _, h, r => by
    simp only [Den] at h
    obtain ⟨a, xs, rfl, h1, h2⟩ := h
    cases r
    obtain ⟨its, rv, ⟨o, n, ho, hc, _, hd⟩, _⟩ := I.list (.inl (.inl (e _ _ h1)))
    obtain ⟨as, hr, hn⟩ := dens_reads I e sy ds _ its h2 rv
    refine ⟨_, Reads.list ho hc hd hr, fun hm => ?_⟩
    rcases List.mem_cons.mp hm with hm | hm
    · exact sy.ne h1 hm
    · exact hn hm
  | .tuple ds, _, _, h, r => by
    simp only [Den] at h
    obtain ⟨a, xs, rfl, h1, h2⟩ := h
    cases r
    obtain ⟨its, rv, tp, _⟩ := I.tuple (ex_t e h1)
    obtain ⟨o, n, ho, hc, hd⟩ := isTup_reads tp
    obtain ⟨as, hr, hn⟩ := dens_reads I e sy ds _ its h2 rv
    exact ⟨_, Reads.tuple ho hc hd hr, hn⟩
  | .dict es, _, _, h, r => by
    simp only [Den] at h
    obtain ⟨a, kvs, rfl, h1, h2⟩ := h
    cases r
    obtain ⟨_, hs, vs, kv, o, ens, ep, ho, hx, hd, _, hp, _⟩ := (show ObjOk X.prog X.w H s.heap a (.dK kvs) from I.hok a _ (e _ _ h1))
    obtain ⟨as, bs, r1, r2, hn⟩ := denkv_reads I e sy es kvs vs ens.toList h2 kv hp
    obtain ⟨n1, n2⟩ := hn
    refine ⟨_, Reads.dict ho hx.1 hd r1 r2, ?_⟩
    intro hm
    simp only [List.cons_append, List.mem_cons, List.mem_append] at hm
    rcases hm with hm | hm | hm
    · rw [← hm] at hs
      simp at hs
    · exact n1 hm
    · exact n2 hm
theorem dens_reads (I : Inv X pins σ H s) (e : Ex F H) (sy : SyF F) : ∀ (ds : List D) (vs : List V) (us : List Value), Dens X.K F ds vs → Vals vs us → ∃ as, ReadsAll s.heap us ds as ∧ sysModules ∉ as
  | [], _, _, h, r => by
    simp only [Dens] at h
    subst h
    cases r
    exact ⟨_, ReadsAll.nil, by simp⟩
  | d :: ds, _, _, h, r => by
    simp only [Dens] at h
    obtain ⟨v, vr, rfl, h1, h2⟩ := h
    cases r with
    | cons r1 r2 =>
      obtain ⟨as, q1, n1⟩ := den_reads I e sy d v _ h1 r1
      obtain ⟨bs, q2, n2⟩ := dens_reads I e sy ds vr _ h2 r2
      refine ⟨_, ReadsAll.cons q1 q2, ?_⟩
      intro hm
      rcases List.mem_append.mp hm with hm | hm
      · exact n1 hm
      · exact n2 hm
theorem denkv_reads (I : Inv X pins σ H s) (e : Ex F H) (sy : SyF F) : ∀ (es : List (D × D)) (kvs : List (Key × V)) (vs : List (Key × Value)) (ens : List DictEntry), DenKV X.K F es kvs → KV kvs vs → Pairs (mixKind X.prog X.w) ens vs →
    ∃ as bs, ReadsAll s.heap (ens.map (·.key)) (es.map (·.1)) as ∧ ReadsAll s.heap (ens.map (·.val)) (es.map (·.2)) bs ∧ sysModules ∉ as ∧ sysModules ∉ bs
  | [], _, _, _, h, r, p => by
    simp only [DenKV] at h
    subst h
    cases r
    cases p
    exact ⟨_, _, ReadsAll.nil, ReadsAll.nil, by simp, by simp⟩
  | (k, d) :: es, _, _, _, h, r, p => by
    simp only [DenKV] at h
    obtain ⟨k', v, vr, rfl, hk, h1, h2⟩ := h
    cases r with
    | cons r1 r2 =>
      rename_i kv vs'
      obtain ⟨rk, rv⟩ := r1
      cases p with
      | cons p1 p2 p3 =>
        rename_i en ens'
        obtain ⟨as, q1, n1⟩ := den_reads I e sy d v _ h1 rv
        obtain ⟨as2, bs2, q2, q3, n2⟩ := denkv_reads I e sy es vr vs' _ h2 r2 p3
        have hkey : ∃ u, en.key = u ∧ Reads s.heap u k [] := by
          have rk' : k' = kv.1 := rk
          have p1' : keyIs kv.1 en.key = true := p1
          rw [← rk'] at p1'
          rcases keyIs_shape p1' with ⟨i, t, e1, e2⟩ | ⟨x, t, e1, e2⟩
          · subst e1; rw [hk]; exact ⟨_, e2, Reads.int i t⟩
          · subst e1; rw [hk]; exact ⟨_, e2, Reads.str x t⟩
        obtain ⟨u, hu, hr⟩ := hkey
        refine ⟨[] ++ as2, as ++ bs2, ?_, ?_, ?_⟩
        · simp only [List.map_cons]
          rw [hu]
          exact ReadsAll.cons hr q2
        · simp only [List.map_cons]
          rw [p2]
          exact ReadsAll.cons q1 q3
        · obtain ⟨z1, z2⟩ := n2
          refine ⟨by simpa using z1, fun hm => ?_⟩
          rcases List.mem_append.mp hm with hm | hm
          · exact n1 hm
          · exact z2 hm
end
theorem bden_reads (I : Inv X pins σ H s) (e : Ex F H) (sy : SyF F) {d : D} {v : V} {u : Value} (h : BDen X.K F H d v) (r : RelV v u) : ∃ as, Reads s.heap u d as ∧ sysModules ∉ as := by
  cases d with
  | list ds =>
    obtain ⟨a, xs, rfl, h1, h2⟩ := bd_list h
    cases r
    obtain ⟨its, rv, ⟨o, n, ho, hc, _, hd⟩, _⟩ := I.list (.inl (.inl h1))
    obtain ⟨as, hr, hn⟩ := dens_reads I e sy ds _ its h2 rv
    refine ⟨_, Reads.list ho hc hd hr, fun hm => ?_⟩
    rcases List.mem_cons.mp hm with hm | hm
    · exact (sy.mono e).ne h1 hm
    · exact hn hm
  | dict es =>
    obtain ⟨a, kvs, rfl, h1, h2⟩ := bd_dict h
    have h' : Den X.K H (.dict es) (.ref a) := by
      simp only [Den]
      exact ⟨a, kvs, rfl, h1, denkv_mono e _ _ h2⟩
    exact den_reads I (Ex.refl H) (sy.mono e) _ _ _ h' r
  | _ => exact den_reads I e sy _ _ _ h r
end
/-- repr of data that may be shown -/
def canShow (d : D) : Bool := d.showable && decide (d.shown.length ≤ bigLine) && decide (d.depth ≤ 50)
def gRepr : List D → Option Opd
  | [d] => if canShow d = true then some (.val (.str d.shown)) else none
  | _ => none
section
variable {X : Cx}
def rReprD (X : Cx) : List V → Hp → VK → Prop := fun xs H Q => ∃ F d x, xs = [x] ∧ Ex F H ∧ SyF F ∧ BDen X.K F H d x ∧ canShow d = true ∧ Q (.str d.shown) H
theorem call_reprD (hgu : X.A.guards = some []) (hu : X.A.units + 64 < cLine) : CallR X (.builtin "repr") (rReprD X) := by
  intro pins s σ H xs us Q I r h
  obtain ⟨F, d, x, rfl, e, sy, hb, hc, q⟩ := h
  obtain ⟨u, rfl, rx⟩ := vals1 r
  obtain ⟨as, hr, hn⟩ := bden_reads I e sy hb rx
  simp only [canShow, Bool.and_eq_true, decide_eq_true_eq, Bool.or_eq_true, Bool.not_eq_true'] at hc
  obtain ⟨⟨c1, c3⟩, c4⟩ := hc
  have hsz : d.shown.length ≤ sizeLine := big_le c3
  have hsm : d.hasDict = true → sysModules ∉ as := fun _ => hn
  have big : ∀ a, u = .ref a → wpAny (model X.prog X.w) X.A (call (.builtin "repr") [u]) (EP X pins σ Q) X.xe s := by
    intro a ea
    subst ea
    refine repr_of_reads' hr c1 hsm hgu (by omega) (fun _ _ z => z) (fun h' t tk hk => ?_) hsz
    exact ⟨.str d.shown, H, I.kept hk, ⟨t, rfl⟩, q⟩
  cases d with
  | none =>
    rw [bd_non hb] at rx
    cases rx
    exact PySem.P.repr_of_none ⟨.str _, H, I.tok _, ⟨_, rfl⟩, q⟩
  | bool b =>
    rw [bd_bl hb] at rx
    cases rx
    exact PySem.P.repr_of_bool ⟨.str _, H, I.tok _, ⟨_, rfl⟩, q⟩
  | int i =>
    rw [bd_int hb] at rx
    obtain ⟨t, rfl⟩ := rx
    exact PySem.P.repr_of_int (by simpa [PyData.showable] using c1) ⟨.str _, H, I.tok _, ⟨_, rfl⟩, q⟩
  | str z =>
    rw [bd_str hb] at rx
    obtain ⟨t, rfl⟩ := rx
    exact PySem.P.repr_of_str ⟨.str _, H, I.tok _, ⟨_, rfl⟩, q⟩ (by simpa only [PyData.shown] using hsz)
  | list ds =>
    obtain ⟨a, xs, rfl, _⟩ := bd_list hb
    cases rx
    exact big _ rfl
  | tuple ds =>
    obtain ⟨a, xs, rfl, _⟩ := bd_tup hb
    cases rx
    exact big _ rfl
  | dict ds =>
    obtain ⟨a, xs, rfl, _⟩ := bd_dict hb
    cases rx
    exact big _ rfl
theorem bi_repr (hgu : X.A.guards = some []) (hu : X.A.units + 64 < cLine) : Bi X (.builtin "repr") gRepr := by
  refine ⟨_, call_reprD hgu hu, fun F H xs ds o Q e sy hx hg q => ?_⟩
  unfold gRepr at hg
  split at hg
  · split at hg
    · rename_i d hc
      cases hg
      obtain ⟨v, rfl, h1⟩ := bdens1 hx
      exact ⟨F, _, v, rfl, e, sy, h1, hc, q _ _ (.same den_str)⟩
    · cases hg
  · cases hg
/-! ### isinstance -/
def tyN : D → String
  | .none => "NoneType"
  | .bool _ => "bool"
  | .int _ => "int"
  | .str _ => "str"
  | .list _ => "list"
  | .tuple _ => "tuple"
  | .dict _ => "dict"
def tyLike (T : String) : Prop := T = "int" ∨ T = "bool" ∨ T = "str" ∨ T = "tuple" ∨ T = "list" ∨ T = "dict"
def isiD (T : String) (d : D) : Bool := (kitB (tyN d) T).getD false
theorem kit_some {T : String} (h : tyLike T) (d : D) : kitB (tyN d) T = some (isiD T d) := by
  have e : ∃ b, kitB (tyN d) T = some b := by
    rcases h with rfl | rfl | rfl | rfl | rfl | rfl <;> cases d <;> (simp only [tyN]; exact Option.isSome_iff_exists.mp (by decide +kernel))
  obtain ⟨b, hb⟩ := e
  unfold isiD
  rw [hb]
  rfl
theorem bden_ty {F H : Hp} (e : Ex F H) {d : D} {v : V} (h : BDen X.K F H d v) : TyX X.K H v (.type (tyN d)) := by
  cases d with
  | none => rw [bd_non h]; exact .base .non
  | bool b => rw [bd_bl h]; exact .base (.bl b)
  | int i => rw [bd_int h]; exact .base (.int i)
  | str z => rw [bd_str h]; exact .base (.str z)
  | list ds =>
    obtain ⟨a, xs, rfl, h1, _⟩ := bd_list h
    exact .base (.lst h1)
  | dict ds =>
    obtain ⟨a, xs, rfl, h1, _⟩ := bd_dict h
    exact .base (.dK h1)
  | tuple ds =>
    obtain ⟨a, xs, rfl, h1, _⟩ := bd_tup h
    rcases ex_t e h1 with (h1 | ⟨o, h1⟩) | ⟨o, its, n, h1, h2, _⟩
    · exact .base (.tup h1)
    · exact .fTuple h1
    · exact .kTuple h1 h2
def eIsi (T : String) (f : PM Opd) : PM Opd := bnd (opn f) fun o => bnd (rsv o) fun d => ret (.val (.bool (isiD T d)))
theorem px_isi {bo : List Nat} {W : WX} {e : Expr} {pos p pT : Pos} {T : String} {xT : Str} {f : PM Opd} (h : PX X bo W e f) (hT : tyLike T) (hm : X.mg "isinstance" = none) (hmT : X.mg xT = none) (hvT : bootBuiltins xT = some (.type T)) (hg : Gl X "isinstance" := by rfl) (hgT : Gl X xT := by rfl) (hnT : xT ≠ "__name__" := by decide) (hdT : (xT == ("__debug__" : Str)) = false := by decide)
    (h1 : starEach [.Name xT pT] X.env = (false, eval (.Name xT pT) X.env) :: starEach [] X.env := by rfl)
    (he : starEach [e, .Name xT pT] X.env = (false, eval e X.env) :: starEach [.Name xT pT] X.env := by rfl) (hpl : (backTo pos (starEach [.Name xT pT] X.env)).any (·.1) = false := by rfl) :
    PX X bo W (.Call (.Name "isinstance" p) [e, .Name xT pT] [] pos) (eIsi T f) := by
  obtain ⟨t, k1, k2⟩ := px_opn h
  refine ⟨_, pe_callB call_isi hg hm boot_isinstance (pa_cons k1 (pa_cons (pe_bltn (v := .ty T) hgT hmT hvT rfl hnT hdT) pa_nil h1) he) (by decide) (by decide) he hpl, fun c fp F env σ H Q hc R g => ?_⟩
  refine k2 c fp F env σ H _ hc R ((Goes.bnd g).mono (Ex.refl F) fun fp1 F1 env1 H1 o e1 R1 g1 v hn hv => ?_)
  obtain ⟨d, q1, g2⟩ := rsv_ok R1 hv g1
  exact ⟨v, .ty T, .type (tyN d), .type T, isiD T d, rfl, .ty T, bden_ty R1.fh q1, kit_ty (kit_some hT d), g2 fp1 F1 H1 R1 (Ex.refl F1) _ (den_bl (K := X.K) (F := F1))⟩
end
end Pu

namespace Pu
open PySem PySem.Spec PyProof.Rows L2
/-! ### enumerate of a tuple -/
def EnumObj (at_ : Addr) : Obj := { cls := .type "enumerate", data := .fields #[.none, .bool false, .ref at_, rawInt 0, .none, .none] }
set_option maxHeartbeats 1000000 in
theorem meets_enum1 {v : Value} {o : Obj} {H : Heap → Prop} (B : Begins v o H) :
    Meets (Builtin.«enumerate.__new__» ⟨[.type "enumerate", v], []⟩) (fun _ R s => H s.heap ∧ R (.ok (.ret (.ref (s.heap.push o).objs.size))) { s with heap := (s.heap.push o).push (EnumObj s.heap.objs.size) }) :=
  .of_wp fun prog w A R s h => by
    obtain ⟨hp, g, d, tk, os⟩ := s
    obtain ⟨h1, h⟩ := h
    have hsub := sub_enumerate
    have begin_ : ∀ {A' : Around} {E : Value → Shared → Prop} {Q : Value → Shared → Prop}, Q (.ref hp.objs.size) ⟨hp.push o, g, d, tk, os⟩ → wpAny (model prog w) A' (pyIter v) Q E ⟨hp, g, d, tk, os⟩ :=
      fun q => B.iter prog w _ _ ⟨hp, g, d, tk, os⟩ _ h1 q
    wp_walk using begin_
    refine wpAny_stack_any fun st => wpAny_pure ?_
    split
    · rename_i c _ _ _ _ _
      cases (c == Value.type "enumerate")
      all_goals
        wp_walk using begin_
        exact ⟨_, rfl, h⟩
    · wp_walk using begin_
      exact ⟨_, rfl, h⟩
theorem enum1_begins {prog : Program} {w : World} {A : Around} {E : Value → Shared → Prop} {s : Shared} {v : Value} {o : Obj} {H : Heap → Prop} {Q : Value → Shared → Prop} (B : Begins v o H) (h1 : H s.heap)
    (h : ∀ h', IsEnum h' (s.heap.objs.size + 1) s.heap.objs.size 0 .none → h'.get? s.heap.objs.size = some o → (∀ b u, s.heap.get? b = some u → h'.get? b = some u) → Q (.ref (s.heap.objs.size + 1)) { s with heap := h' }) :
    wpAny (model prog w) A (call (.type "enumerate") [v]) Q E s := by
  refine callType_new F.called_enumerate (by decide) (F.typeCall_enumerate_1 _) (F.newCall_enumerate_1 _) (fun obj => F.args_object_init_2 obj _) F.entry_enumerate_new (meets_enum1 B) ⟨h1, ?_⟩
  have hz : (s.heap.push o).objs.size = s.heap.objs.size + 1 := Heap.size_push ..
  have he : IsEnum ((s.heap.push o).push (EnumObj s.heap.objs.size)) (s.heap.objs.size + 1) s.heap.objs.size 0 .none := by
    have z := Heap.get?_push_size (s.heap.push o) (o := EnumObj s.heap.objs.size) rfl
    rw [hz] at z
    exact z
  show _ ∧ _
  rw [hz]
  exact ⟨⟨_, he, rfl⟩, h _ he (Heap.get?_push_of_some _ (Heap.get?_push_size _ B.free)) fun b u x => Heap.get?_push_of_some _ (Heap.get?_push_of_some _ x)⟩
/-- the tuple at a, each item in a new pair -/
def IteT (K : PySem.W.Frag) (a : Addr) : It where
  go := fun i H => ∃ (xs : List V) (x : V), SqT K H a xs ∧ xs[i]? = some x
  yld := fun i H v H' => ∃ T x, v = .ref T ∧ H T = none ∧ H' = upd H T (.tup [.int (i : Nat), x]) ∧ ∀ xs, SqT K H a xs → xs[i]? = some x
  stop := fun i H => ∃ xs : List V, SqT K H a xs ∧ xs.length = i
theorem turn_enumT {P : Program} {w : World} {K : PySem.W.Frag} {elts : List Expr} {kk : Nat} {tpos : Pos} (a e it : Addr) :
    Turn P w K (.Tuple elts kk tpos) (IteT K a) [e, it] e (fun i h => (∃ old, IsEnum h e it (0 + (i : Int)) old) ∧ h.IsTupleIter it a i ∧ e ≠ it) where
  mem := by simp
  obj := by
    rintro i h ⟨⟨old, he⟩, ⟨o, ho, hc, hd⟩, _⟩ b hb
    have e' : b = e ∨ b = it := by simpa using hb
    rcases e' with rfl | rfl
    · exact ⟨_, he, fun v q => nomatch q⟩
    · exact ⟨o, ho, fun v q => by rw [hd] at q; cases q⟩
  keep := by
    rintro i h h' ⟨⟨old, he⟩, hi, hne⟩ k
    exact ⟨⟨old, k e (by simp) _ he⟩, hi.at fun o q => k it (by simp) o q, hne⟩
  item := by
    rintro X rfl rfl rfl hc i pins s σ H E I hf ⟨⟨old, he⟩, hit, hne⟩ ⟨xs, x, hq, hx⟩
    obtain ⟨its, rv, tp, hz⟩ := I.tuple hq
    obtain ⟨u, hu, ru⟩ := rv.get hx
    have hel : e < s.heap.objs.size := Heap.lt_size he
    have hil : it < s.heap.objs.size := by obtain ⟨_, q, _⟩ := hit; exact Heap.lt_size q
    have hnone : ∀ b ∈ [e, it], H b = none := fun b hb => (hf b hb).1
    have tup_ne : ∀ b ∈ [e, it], a ≠ b := by
      intro b hb z
      have e' : b = e ∨ b = it := by simpa using hb
      obtain ⟨o, ho, hcls, n, hd⟩ := tp
      rcases e' with rfl | rfl
      · rw [z, he] at ho
        cases ho
        have h2 : Value.type "enumerate" = Value.type "tuple" := hcls
        exact absurd h2 (by decide)
      · obtain ⟨o2, ho2, hc2, _⟩ := hit
        rw [z, ho2] at ho
        cases ho
        rw [hc2] at hcls
        exact absurd hcls (by decide)
    have Gd := GoesN.enumFrom (prog := X.prog) (w := X.w) (A := X.A) (elts := elts) (x1 := kk) (pos := tpos) 0 (Draws.tuple (w := X.w) (prog := X.prog) (A := X.A.in1) (I.ok.hd hc) it a (tup_ne it (by simp)) its.toArray) e hne
      (by simp only [List.mem_cons, List.not_mem_nil, or_false, not_or]; exact ⟨hne, fun z => tup_ne e (by simp) z.symm⟩) (by simp)
    have hi : i < its.toArray.size := by
      have := (List.getElem?_eq_some_iff.mp hu).1
      simpa using this
    refine Gd.goes i s (fun v s2 => ∃ x H', Inv X pins σ H' s2 ∧ RelV x v ∧ (IteT X.K a).yld i H x H' ∧ ((∃ old, IsEnum s2.heap e it (0 + ((i + 1 : Nat) : Int)) old) ∧ s2.heap.IsTupleIter it a (i + 1) ∧ e ≠ it) ∧ ∀ b ∈ [e, it], H' b = none) E hi ⟨⟨old, he⟩, hit, tp⟩ ?_
    rintro v h' tk ⟨T, t', x', rfl, hT, hx', hTup⟩ ⟨hen, hit', _⟩ hk _
    have ex : x' = u := by
      have : its.toArray[i]? = some u := by simpa using hu
      rw [this] at hx'
      exact (Option.some.inj hx').symm
    subst ex
    have new : ObjOk X.prog X.w (upd H T (.tup [.int (i : Nat), x])) h' T (.tup [.int (i : Nat), x]) := by
      refine ⟨by show 2 ≤ sizeLine; decide, [.int (0 + (i : Int)) t', x'], .cons ⟨t', by rw [Int.zero_add]⟩ (.cons ru .nil), ?_⟩
      obtain ⟨o, ho, hcl, n, hd⟩ := hTup
      exact ⟨o, ho, hcl, n, hd⟩
    have I1 : Inv X pins σ (upd H T (.tup [.int (i : Nat), x])) { s with heap := h', toks := tk } := I.turnedNew (ch := [e, it]) hk hf hT new
    refine ⟨.ref T, _, I1, rfl, ⟨T, x, rfl, I.hok.fresh hT, rfl, fun ys hy => by rw [I.tuple_inj hy hq]; exact hx⟩, ⟨hen, hit', hne⟩, fun b hb => ?_⟩
    have hlt : b < s.heap.objs.size := by
      have e' : b = e ∨ b = it := by simpa using hb
      rcases e' with rfl | rfl
      · exact hel
      · exact hil
    rw [upd_ne (Nat.ne_of_lt (Nat.lt_of_lt_of_le hlt hT))]
    exact hnone b hb
  done := by
    rintro X rfl rfl rfl hc i pins s σ H E I hf ⟨⟨old, he⟩, hit, hne⟩ ⟨xs, hq, hx⟩
    obtain ⟨its, rv, tp, hz⟩ := I.tuple hq
    have tup_ne : ∀ b ∈ [e, it], a ≠ b := by
      intro b hb z
      have e' : b = e ∨ b = it := by simpa using hb
      obtain ⟨o, ho, hcls, n, hd⟩ := tp
      rcases e' with rfl | rfl
      · rw [z, he] at ho
        cases ho
        have h2 : Value.type "enumerate" = Value.type "tuple" := hcls
        exact absurd h2 (by decide)
      · obtain ⟨o2, ho2, hc2, _⟩ := hit
        rw [z, ho2] at ho
        cases ho
        rw [hc2] at hcls
        exact absurd hcls (by decide)
    have Gd := GoesN.enumFrom (prog := X.prog) (w := X.w) (A := X.A) (elts := elts) (x1 := kk) (pos := tpos) 0 (Draws.tuple (w := X.w) (prog := X.prog) (A := X.A.in1) (I.ok.hd hc) it a (tup_ne it (by simp)) its.toArray) e hne
      (by simp only [List.mem_cons, List.not_mem_nil, or_false, not_or]; exact ⟨hne, fun z => tup_ne e (by simp) z.symm⟩) (by simp)
    have hn : its.toArray.size = i := by
      rw [List.size_toArray, ← rv.length]
      exact hx
    refine Gd.stops s (fun s1 => Inv X pins σ H s1) E (by rw [hn]; exact ⟨⟨old, he⟩, hit, tp⟩) ?_
    intro h' tk hk _
    exact I.turnedL (t' := tk) (ch := [e, it]) hk hf
  self := by
    rintro A i s Q E ⟨⟨_, he⟩, _⟩ h
    exact wpAny_pyIter_enum he h
theorem walk_enumT {K : PySem.W.Frag} {a : Addr} {xs : List V} : Walk (IteT K a) xs.length (fun H => SqT K H a xs) (YPair (fun i => some (.int (i : Nat))) (fun i => xs[i]?)) where
  goes := fun i _ hi q => ⟨xs, xs[i], q, by simp [hi]⟩
  stops := fun _ q => ⟨xs, q, rfl⟩
  yields := fun i H v H' _ q y => by
    obtain ⟨T, x, h1, h2, h3, h4⟩ := y
    exact ⟨T, .int (i : Nat), x, h1, h2, h3, rfl, h4 xs q⟩
section
variable {X : Cx} {bo : List Nat} {W : WX} {e : Expr} {es elts : List Expr} {pos p tpos : Pos} {kk : Nat} {x : Str}
def iEnumA (K : PySem.W.Frag) (ta : TE) : TI := fun σ H R => ta σ H fun v H1 => ∃ a xs, v = .ref a ∧ ((SqL K H1 a xs ∧ R (Ite K a) H1) ∨ (SqT K H1 a xs ∧ R (IteT K a) H1))
theorem pi_enumA {ta : TE} (hg : Gl X "enumerate") (hm : X.mg "enumerate" = none) (ha : PE X e ta) (hs : starEach [e] X.env = [(false, eval e X.env)] := by rfl) (hs2 : starEach [e] X.env = (false, eval e X.env) :: starEach [] X.env := by rfl) :
    PI X (.Tuple elts kk tpos) (.Call (.Name "enumerate" p) [e] [] pos) (iEnumA X.K ta) := by
  constructor
  intro pins s σ H R I h
  refine Call_ (ld_blt I hg hm boot_enumerate (PyProof.Rows.callWith_type1 (thn ((pa_cons ha pa_nil hs2).run pos pins s σ H _ I (show tCons ta tNil σ H (fun vs H1 => ∃ a xs, vs = [.ref a] ∧ ((SqL X.K H1 a xs ∧ R (Ite X.K a) H1) ∨ (SqT X.K H1 a xs ∧ R (IteT X.K a) H1))) from ?_)) ?_) hs rfl))
  · unfold tCons
    unfold iEnumA at h
    have : (fun (x : V) (H1 : Hp) => tNil σ H1 fun xs_1 H2 => ∃ a xs, x :: xs_1 = [.ref a] ∧ ((SqL X.K H2 a xs ∧ R (Ite X.K a) H2) ∨ (SqT X.K H2 a xs ∧ R (IteT X.K a) H2))) = (fun v H1 => ∃ a xs, v = .ref a ∧ ((SqL X.K H1 a xs ∧ R (Ite X.K a) H1) ∨ (SqT X.K H1 a xs ∧ R (IteT X.K a) H1))) := by
      funext v H1
      apply propext
      constructor
      · rintro ⟨a, xs, e1, q⟩
        exact ⟨a, xs, (List.cons.inj e1).1, q⟩
      · rintro ⟨a, xs, rfl, q⟩
        exact ⟨a, xs, rfl, q⟩
    rw [this]
    exact h
  · rintro us s1 ⟨vs, H1, I1, r1, a, xs, rfl, q⟩
    obtain ⟨u, rfl, r⟩ := vals1 r1
    cases r
    have fresh : ∀ b ∈ [s1.heap.objs.size + 1, s1.heap.objs.size], FpOk X pins H1 b := by
      intro b hb
      have hle : s1.heap.objs.size ≤ b := by
        have e' : b = s1.heap.objs.size + 1 ∨ b = s1.heap.objs.size := by simpa using hb
        rcases e' with rfl | rfl
        · exact Nat.le_add_right _ _
        · exact Nat.le_refl _
      exact I1.fpOk hle (I1.hok.fresh hle)
    rcases q with ⟨hq, q⟩ | ⟨hq, q⟩
    · obtain ⟨its, rv, pl, _⟩ := I1.list hq
      refine call_enumerate_list pl.isList fun h' he hit _ hk => wpAny_pyIter_enum he ?_
      exact ⟨s1.heap.objs.size + 1, [s1.heap.objs.size + 1, s1.heap.objs.size], _, _, H1, rfl, I1.kept (t' := s1.toks) hk, turn_enum a _ _, ⟨⟨.none, he⟩, hit, Nat.succ_ne_self _⟩, fresh, q⟩
    · obtain ⟨its, rv, tp, _⟩ := I1.tuple hq
      refine enum1_begins (begins_tuple a its.toArray) tp fun h' he ho hk => wpAny_pyIter_enum he ?_
      exact ⟨s1.heap.objs.size + 1, [s1.heap.objs.size + 1, s1.heap.objs.size], _, _, H1, rfl, I1.kept (t' := s1.toks) hk, turn_enumT a _ _, ⟨⟨.none, by rw [Int.zero_add]; exact he⟩, ⟨_, ho, rfl, rfl⟩, Nat.succ_ne_self _⟩, fresh, q⟩
def enumD (ds : List D) : List D := (ds.zipIdx).map fun p => .tuple [.int (p.2 : Nat), p.1]
theorem enumD_len (ds : List D) : (enumD ds).length = ds.length := by simp [enumD]
theorem enumD_get (ds : List D) (i : Nat) : (enumD ds)[i]? = (ds[i]?).map fun d => .tuple [.int (i : Nat), d] := by
  simp only [enumD, List.getElem?_map, List.getElem?_zipIdx]
  cases ds[i]? <;> simp
theorem steady_enum {K : PySem.W.Frag} {c : Ct} {F' : Hp} {ds : List D} {xs : List V} {Gp : Hp → Prop} (hG : ∀ F H, Ex F' F → Ex F H → Gp H) (hd : Dens K F' ds xs) : Steady K c F' (enumD ds) Gp (YPair (fun i => some (.int (i : Nat))) (fun i => xs[i]?)) := by
  refine ⟨hG, fun i fp F env σ H x H' hi R e y => ?_⟩
  obtain ⟨T, z1, z2, rfl, hT, rfl, h1, h2⟩ := y
  cases h1
  obtain ⟨d, hd1, hd2⟩ := dens_get hd h2
  obtain ⟨n1, n2, n3⟩ := R.free hT
  refine ⟨_, .tuple [.int (i : Nat), d], ?_, R.new hT, Ex.new n1, ?_, Ex.new hT⟩
  · rw [enumD_get, hd1]
    rfl
  · simp only [Den, Dens]
    exact ⟨T, _, rfl, .inl (.inl upd_same), _, _, rfl, rfl, _, _, rfl, den_mono (e.trans (Ex.new n1)) _ _ hd2, rfl⟩
def eEnum (f : PM Opd) : PM (List D) := bnd (eIter f) fun ds => ret (enumD ds)
theorem pix_enum {f : PM Opd} (hm : X.mg "enumerate" = none) (h : PX X bo W e f) (hg : Gl X "enumerate" := by rfl) (hs : starEach [e] X.env = [(false, eval e X.env)] := by rfl) (hs2 : starEach [e] X.env = (false, eval e X.env) :: starEach [] X.env := by rfl) : PIX X bo W (.Tuple elts kk tpos) (.Call (.Name "enumerate" p) [e] [] pos) (eEnum f) := by
  obtain ⟨t, h1, h2⟩ := h
  refine ⟨_, pi_enumA hg hm h1 hs hs2, fun c fp F env σ H R hc Rl g => ?_⟩
  unfold eEnum at g
  rw [eIter_bnd, bnd_assoc] at g
  refine h2 c fp F env σ H _ hc Rl ((Goes.bnd g).mono (Ex.refl F) fun fp1 F1 env1 H1 o e1 R1 g1 v hv => ?_)
  rw [bnd_assoc] at g1
  obtain ⟨d, fp2, F2, env2, R2, e2, hd, g2⟩ := frz_ok R1 hv g1
  obtain ⟨ds, hds, g3⟩ := goes_lift_bnd g2
  cases d with
  | list ds' =>
    have hds' := Option.some.inj hds
    subst hds'
    simp only [Den] at hd
    obtain ⟨a, xs, rfl, k1, k2⟩ := hd
    have wk : Walk (Ite X.K a) (enumD ds').length (fun H => SqL X.K H a xs) (YPair (fun i => some (.int (i : Nat))) (fun i => xs[i]?)) := by rw [enumD_len, ← dens_len k2]; exact walk_enum
    refine ⟨a, xs, rfl, .inl ⟨.inl (.inl (R2.fh _ _ k1)), g3 fp2 F2 H1 R2 e2 _ _ _ wk fun c' => steady_enum (fun F3 H3 e3 e4 => .inl (.inl (e4 _ _ (e3 _ _ k1)))) k2⟩⟩
  | tuple ds' =>
    have hds' := Option.some.inj hds
    subst hds'
    simp only [Den] at hd
    obtain ⟨a, xs, rfl, k1, k2⟩ := hd
    have wk : Walk (IteT X.K a) (enumD ds').length (fun H => SqT X.K H a xs) (YPair (fun i => some (.int (i : Nat))) (fun i => xs[i]?)) := by rw [enumD_len, ← dens_len k2]; exact walk_enumT
    refine ⟨a, xs, rfl, .inr ⟨ex_t R2.fh k1, g3 fp2 F2 H1 R2 e2 _ _ _ wk fun c' => steady_enum (fun F3 H3 e3 e4 => ex_t e4 (ex_t e3 k1)) k2⟩⟩
  | _ => cases hds
end
end Pu

namespace Pu
open PySem PySem.Spec PyProof.Rows L2
section
variable {X : Cx} {bo : List Nat} {W : WX} {e : Expr} {es : List Expr} {pos p : Pos} {x : Str} {CX : CXT} {k n : Nat} {f : Addr} {fd : FuncData} {ps : List Str}
/-! ### {} and {'k': e} -/
theorem px_dnew : PX X bo W (.Dict [] [] pos) (ret (.val (.dict []))) := by
  refine ⟨_, pe_dnewK, fun c fp F env σ H Q hc R g q hq => ?_⟩
  obtain ⟨F2, R2, e2, k2⟩ := R.got (Got.dic (K := X.K) (es := []) (kvs := []) hq (by simp only [DenKV]))
  exact g fp F2 _ R2 e2 _ k2
def noExc {α : Type} (f : PM α) : PM α := fun env => match f env with
  | .ok a e => .ok a e
  | _ => .bad
def eDict1 (z : Str) (f : PM Opd) : PM Opd := bnd (noExc (kept f)) fun d => ret (.val (.dict [(.str z, d)]))
theorem px_disp1 {z : Str} {j : Nat} {pk : Pos} {f : PM Opd} (h : PX X bo W0 e f) : PX X bo W (.Dict [some (.Constant (.str z) j pk)] [e] pos) (eDict1 z f) := by
  obtain ⟨t, h1, h2⟩ := h
  refine ⟨_, pe_disp (pps_cons pe_str h1 pps_nil) rfl rfl (by simp) (by simp), fun c fp F env σ H Q hc R g q hq => ?_⟩
  obtain ⟨n1, n2, n3⟩ := R.free hq
  have R1 := R.newH (o := .dK []) hq
  show t σ (upd H q (.dK [])) _
  refine h2 (c.sub fp F (upd H q (.dK []))) fp F env σ _ _ hc R1.into ?_
  cases ef : f env with
  | bad => simp only [eDict1, bnd, noExc, kept, ef] at g; exact g.elim
  | exc x' e' => simp only [eDict1, bnd, noExc, kept, ef] at g; exact g.elim
  | ok o env1 =>
    intro fp1 F1 H1 R2 e2 v hv
    obtain ⟨p1, p2, p3⟩ := R2.aside upd_same n1 n3
    refine ⟨p1, [(Sum.inr z, v)], rfl, by simp, ?_⟩
    have gk : Goes X.K (c.sub fp F (upd H q (.dK []))) W0 σ F1 (bnd (frz o) (fun d => ret (d, ())) env1) (fun fp' F' env' H' r => ∃ d, r = (d, ()) ∧ eDict1 z f env = .ok (.val (.dict [(.str z, d)])) env') := by
      simp only [eDict1, bnd, noExc, kept, ef] at g ⊢
      cases ez : frz o env1 with
      | bad => simp only [ez] at g; exact g.elim
      | exc _ _ => simp only [ez] at g; exact g.elim
      | ok d e' =>
        simp only [ez] at g ⊢
        exact fun _ _ _ _ _ => ⟨d, rfl, rfl⟩
    obtain ⟨d, fp3, F3, env3, R3, e3, den, g3⟩ := frz_ok R2 hv gk
    obtain ⟨q1, q2, q3⟩ := R3.aside upd_same n1 n3
    obtain ⟨d', hd', he⟩ := g3 fp3 F3 H1 R3 e3
    have hdd : d = d' := by
      have := congrArg Prod.fst hd'
      exact this
    subst hdd
    rw [he] at g
    -- the dict takes its place, and is laid down
    have R4 := (R1.outof R3).over (u := .dK [(Sum.inr z, v)]) q1 q2 q3 n2
    have hk : mergeK [] [(Sum.inr z, v)] = [(Sum.inr z, v)] := rfl
    rw [hk]
    have e5 : Ex F3 (upd F3 q (.dK [(Sum.inr z, v)])) := Ex.new q2
    have R5 : Rel X.K c fp3 (upd F3 q (.dK [(Sum.inr z, v)])) env3 σ (upd H1 q (.dK [(Sum.inr z, v)])) := by
      refine R4.grow e5 (fun a u z => ?_) (Ex.refl _) (fun a z => ?_)
      · by_cases ha : a = q
        · subst ha; rw [upd_same] at z ⊢; exact z
        · rw [upd_ne ha] at z
          exact R4.fh a u z
      · rcases upd_some z with rfl | z
        · exact .inr ⟨n2, q3⟩
        · exact .inl z
    refine g fp3 _ _ R5 ((e2.trans e3).trans e5) _ ?_
    show Den X.K _ (.dict _) _
    simp only [Den, DenKV]
    exact ⟨q, _, rfl, upd_same, Sum.inr z, v, [], rfl, rfl, den_mono e5 _ _ den, rfl⟩
/-! ### f(k = e, ..): all by name -/
def PKF (X : Cx) (bo : List Nat) (W : WX) (kws : List Keyword) (f : PM (List D)) : Prop :=
  ∃ t, PK X kws t ∧ ∀ c fp F env σ H (Q : List V → Hp → Prop), OkC c bo → Rel X.K c fp F env σ H →
    Goes X.K c W σ F (f env) (fun fp' F' env' H' ds => ∀ vs, vs.length = kws.length → Dens X.K F' ds vs → Q vs H') → t σ H Q
theorem pkf_nil : PKF X bo W [] (ret []) := ⟨_, pk_nil, fun c fp F env σ H Q hc R g => g fp F H R (Ex.refl F) [] rfl (by simp only [Dens])⟩
theorem pkf_cons {nm : Option Str} {kpos : Pos} {kws : List Keyword} {f : PM Opd} {fs : PM (List D)} (ha : PX X bo W e f) (hr : PKF X bo W kws fs) : PKF X bo W (⟨nm, e, kpos⟩ :: kws) (bnd (kept f) fun d => bnd fs fun ds => ret (d :: ds)) := by
  obtain ⟨t1, h1, h2⟩ := ha
  obtain ⟨t2, h3, h4⟩ := hr
  refine ⟨_, pk_cons h1 h3, fun c fp F env σ H Q hc R g => ?_⟩
  rw [kept_bnd] at g
  refine h2 c fp F env σ H _ hc R ((Goes.bnd g).mono (Ex.refl F) fun fp1 F1 env1 H1 o e1 R1 g1 v hv => ?_)
  obtain ⟨d, fp2, F2, env2, R2, e2, hd, g2⟩ := frz_ok R1 hv g1
  refine h4 c fp2 F2 env2 σ H1 _ hc R2 ?_
  refine (Goes.bnd g2).mono e2 fun fp3 F3 env3 H3 ds e3 R3 g3 vs hl hds => ?_
  refine g3 fp3 F3 H3 R3 (Ex.refl F3) (v :: vs) (by simp [hl]) ?_
  simp only [Dens]
  exact ⟨v, vs, rfl, den_mono e3 d v hd, hds⟩
/-- the order of the names: where the i-th parameter's value stands among the keywords -/
def permV {α : Type} (is : List Nat) (xs : List α) : List α := is.filterMap fun i => xs[i]?
theorem perm_vals {is : List Nat} {vs : List V} {us : List Value} (r : Vals vs us) (h : ∀ i ∈ is, i < vs.length) : Vals (permV is vs) (permV is us) := by
  induction is with
  | nil => exact .nil
  | cons i is ih =>
    have hi : i < vs.length := h i (by simp)
    obtain ⟨u, hu, ru⟩ := r.get (List.getElem?_eq_getElem hi)
    have e1 : permV (i :: is) vs = vs[i] :: permV is vs := by unfold permV; rw [List.filterMap_cons, List.getElem?_eq_getElem hi]
    have e2 : permV (i :: is) us = u :: permV is us := by unfold permV; rw [List.filterMap_cons, hu]
    rw [e1, e2]
    exact .cons ru (ih fun j hj => h j (List.mem_cons_of_mem _ hj))
theorem perm_dens {K : PySem.W.Frag} {F : Hp} {is : List Nat} {ds : List D} {vs : List V} (r : Dens K F ds vs) (h : ∀ i ∈ is, i < vs.length) : Dens K F (permV is ds) (permV is vs) ∧ (permV is vs).length = is.length := by
  induction is with
  | nil => exact ⟨by simp [permV, Dens], rfl⟩
  | cons i is ih =>
    have hi : i < vs.length := h i (by simp)
    obtain ⟨d, hd, rd⟩ := dens_get r (List.getElem?_eq_getElem hi)
    have e1 : permV (i :: is) vs = vs[i] :: permV is vs := by unfold permV; rw [List.filterMap_cons, List.getElem?_eq_getElem hi]
    have e2 : permV (i :: is) ds = d :: permV is ds := by unfold permV; rw [List.filterMap_cons, hd]
    obtain ⟨z1, z2⟩ := ih fun j hj => h j (List.mem_cons_of_mem _ hj)
    rw [e1, e2]
    simp only [Dens]
    exact ⟨⟨_, _, rfl, rd, z1⟩, by simp [z2]⟩
def KwBinds (fd : FuncData) (ps ks : List Str) (is : List Nat) : Prop := ∀ (s : Shared) (ws : List Value), ws.length = ks.length → BindsTo s fd ⟨[], ks.zip ws⟩ (ps.zip (permV is ws))
def eCallK (is : List Nat) (S : List D → FR) (fs : PM (List D)) : PM Opd := bnd fs fun ds => frOf (S (permV is ds))
theorem px_callK {S : List D → FR} {ks : List Str} {is : List Nat} {kws : List Keyword} {fs : PM (List D)} (F : FnG X.prog X.w X.K X.mg X.base CX k f fd ps (SpA X.K n S)) (hr : Room k X.A) (hgu : X.A.guards = some []) (hm : X.mg x = some (.ref f)) (hk : PySem.W.keepIn X.K (.ref f) = true) (hx : ∀ σ, PassesAt CX X σ (WE W σ))
    (hb : KwBinds fd ps ks is) (ha : PKF X bo W kws fs) (hlen : kws.length = ks.length := by rfl) (his : ∀ i ∈ is, i < ks.length := by decide) (hn : is.length = n := by rfl) (hg : Gl X x := by rfl) (hall : (backToKw pos (keywordEach kws X.env)).all (·.1.isSome) = true := by rfl) (hks : (backToKw pos (keywordEach kws X.env)).filterMap (·.1) = ks := by rfl)
    (hdb : (x == ("__debug__" : Str)) = false := by decide) (hpl : ((backTo pos (starEach [] X.env)).any (·.1) || (backToKw pos (keywordEach kws X.env)).any (·.1.isNone)) = false := by rfl) :
    PX X bo W (.Call (.Name x p) [] kws pos) (eCallK is S fs) := by
  obtain ⟨t, h1, h2⟩ := ha
  refine ⟨fun σ H Q => t σ H fun vs H1 => vs.length = ks.length ∧ SpA X.K n S (permV is vs) H1 Q (WE W σ), ⟨?_⟩, fun c fp F0 env σ H Q hc R g => ?_⟩
  · intro pins s σ H Q I h
    refine wpAny_Call_Name_kw (ld_glob I hg hm ?_ hdb)
    refine PySem.W.callWith_KW0 (h₀ := X.base) I.ok.mod.kin hk hall (thn (h1.run pos pins s σ H _ I h) ?_) hpl
    rintro ws s1 ⟨vs, H1, I1, r, hl, q⟩
    refine ⟨I1.kIn, ?_⟩
    rw [hks]
    exact run_g F hr hgu (hb s1 ws (by rw [← r.length]; exact hl)) (hx σ) I1 (perm_vals r fun i hi => by rw [hl]; exact his i hi) q
  · refine h2 c fp F0 env σ H _ hc R ((Goes.bnd g).mono (Ex.refl F0) fun fp1 F1 env1 H1 ds e1 R1 g1 vs hl hd => ⟨hl.trans hlen, ?_⟩)
    obtain ⟨z1, z2⟩ := perm_dens (is := is) hd fun i hi => by rw [hl.trans hlen]; exact his i hi
    exact rd_callA R1 (z2.trans hn) z1 g1
end
end Pu

namespace Pu
open PySem PySem.Spec PyProof.Rows L2
section
variable {P : Program} {w : World} {K : PySem.W.Frag} {mg : Str → Option Value} {base : Heap} {CX : CXT} {k : Nat} {f : Addr} {fd : FuncData} {ps N : List Str} {x qual : Str} {st : Stmt}
abbrev Ctx0 (P : Program) (w : World) (K : PySem.W.Frag) (mg : Str → Option Value) (base : Heap) (N : List Str) (qual : Str) (st : Stmt) (f : Addr) (cdv : Value) (A : Around) (outer : List Env) (s : Shared) (H : Hp) (E : XK) : Cx :=
  (cxOf CX0 P w K mg base N qual (defScope st) f cdv A outer s H E).nox
/-- the wish of a def that lets out what E tells -/
abbrev WD (E : XK) : WX := fun cls d _ H => E cls d H
theorem pass0A {X : Cx} {W : WX} : ∀ σ, PassesAt CX0 X σ (WE W σ) := fun _ _ _ _ _ _ _ z => z.elim
/-- a def of data that raises nothing -/
theorem fnA_of {n m : Nat} {g : PM Out} (F : Fun K x qual st f fd) (S : FnScope N ps (defScope st)) (hn : ps.length = n) (hm : N.length = m)
    (hder : ∀ (cdv : Value) (A : Around) (outer : List Env) (s : Shared) (H : Hp) (E : XK), Room k (A.deeper (envOfC qual (defScope st) s.heap.objs.size f cdv)) → A.guards = some [] → PSsX (Ctx0 P w K mg base N qual st f cdv A outer s H E) [] (WD E) (defBody st) g) :
    FnG P w K mg base CX0 (k + 1) f fd ps (SpA K n (runA m g)) := by
  subst hn hm
  refine fng_of F S ?_ ?_
  · rintro vs H Q E ⟨F, ds, _, _, h, _⟩
    exact h
  · rintro cdv A outer s H vs Q E hr hgu ⟨F0, ds, e, sy, hl, hd, h⟩
    obtain ⟨t, h1, h2⟩ := hder cdv A outer s H E hr hgu
    refine ⟨t, h1.nox, ?_⟩
    have hN : vs.length ≤ N.length := by
      rw [hl]
      have := congrArg List.length S.pre
      rw [List.length_take] at this
      omega
    exact h2 (ctA F0 H) _ F0 _ _ H _ (fun q hq => by cases hq) (rel_startA e sy hd hN) (spA_body e hd hN h)
def ctB (F H : Hp) (a : Addr) (bw : List Addr) : Ct := ⟨H, F, fun q => q ∈ bw, fun _ => False, [(0, a, bw)]⟩
theorem rel_startB {F H : Hp} {t : Ab} {a : Addr} {bw : List Addr} {ds : List D} {vs : List V} (e : Ex F H) (sy : SyF F) (hab : AbAt K F H t (.ref a) bw) (hF : ∀ q ∈ bw, F q = none) (hd : Dens K F ds vs) (hl : (V.ref a :: vs).length ≤ N.length) :
    Rel K (ctB F H a bw) (fpSet (fun _ => []) 0 bw) F (envOf N.length (.ab t :: ds.map .im)) (L2.start N (.ref a :: vs)) H where
  f0 := Ex.refl F
  sy := sy
  fh := e
  kp := fun q o h _ => h
  al := fun q h => h
  nw := fun q h => .inl h
  ln := by
    have hd' := dens_len hd
    simp only [List.length_cons] at hl
    rw [start_len (by simpa using hl), envOf_len (by simp only [List.length_cons, List.length_map]; omega)]
  sl := fun i o h => by
    have h' := envOf_get h
    cases i with
    | zero =>
      have : o = .ab t := by simpa using h'.symm
      subst this
      exact ⟨.ref a, by rw [start_get (by simp)]; rfl, by rw [fpSet_same]; exact hab⟩
    | succ i =>
      simp only [List.getElem?_cons_succ, List.getElem?_map] at h'
      cases e1 : ds[i]? with
      | none => rw [e1] at h'; cases h'
      | some d =>
        rw [e1] at h'
        cases h'
        obtain ⟨v, h1, h2⟩ := dens_get' hd e1
        have hi : i < vs.length := (List.getElem?_eq_some_iff.mp h1).1
        refine ⟨v, ?_, h2⟩
        rw [start_get (by simp; exact hi)]
        simpa using h1
  ow := fun i q h => by
    by_cases hi : i = 0
    · subst hi
      rw [fpSet_same] at h
      exact ⟨hF q h, abAt_in hab q h, .inl h⟩
    · rw [fpSet_ne hi] at h; cases h
  lf := fun i l q h1 h2 => by
    by_cases hi : i = 0
    · subst hi
      have h' := envOf_get h1
      simp at h'
    · rw [fpSet_ne hi] at h2; cases h2
  ds := fun i j q h1 h2 => by
    by_cases hi : i = 0
    · by_cases hj : j = 0
      · rw [hi, hj]
      · rw [fpSet_ne hj] at h2; cases h2
    · rw [fpSet_ne hi] at h1; cases h1
  bb := fun p hp => by
    rw [List.mem_singleton.mp hp]
    refine ⟨by rw [start_get (by simp)]; rfl, fpSet_same, t, ?_⟩
    unfold envOf
    rfl
theorem spB_body {F H : Hp} {t : Ab} {a : Addr} {bw : List Addr} {ds : List D} {vs : List V} {g : PM Out} {Q : VK} {E : XK} (e : Ex F H) (hab : AbAt K F H t (.ref a) bw) (hF : ∀ q ∈ bw, F q = none) (hd : Dens K F ds vs) (hl : (V.ref a :: vs).length ≤ N.length)
    (h : match runB N.length g t ds with
      | (.ok r, t') => ∀ F' H' v, Grown F H F' H' → (∀ q o, H q = some o → q ∉ bw → H' q = some o) → (∀ q ∈ bw, F' q = none) → AbAt K F' H' t' (.ref a) bw → RetOk K F' H H' r v → Q v H'
      | (.exc x, t') => ∀ F' H' d, Grown F H F' H' → (∀ q o, H q = some o → q ∉ bw → H' q = some o) → (∀ q ∈ bw, F' q = none) → AbAt K F' H' t' (.ref a) bw → ExnOk K F' H' x d → E x.cls d H'
      | (.bad, _) => False) : GoesS K (ctB F H a bw) (WD E) F (g (envOf N.length (.ab t :: ds.map .im))) { nx := fun _ H' => Q .non H', rt := Q } := by
  have fin : ∀ {fp' : Nat → List Addr} {F' H' : Hp} {env' : PEnv} {σ' : L2.St}, Rel K (ctB F H a bw) fp' F' env' σ' H' →
      Grown F H F' H' ∧ (∀ q o, H q = some o → q ∉ bw → H' q = some o) ∧ (∀ q ∈ bw, F' q = none) ∧ ∃ t', env'[0]? = some (some (.ab t')) ∧ AbAt K F' H' t' (.ref a) bw := by
    intro fp' F' H' env' σ' R
    obtain ⟨h1, h2, t', h3⟩ := R.bb (0, a, bw) (List.mem_singleton.mpr rfl)
    refine ⟨⟨R.f0, R.fh, fun q hq => (R.nw q hq).imp id fun z => z.elim id fun y => y.elim⟩, fun q o z y => R.kp q o z y, fun q hq => (R.ow 0 q (by rw [h2]; exact hq)).1, t', h3, ?_⟩
    obtain ⟨v, z1, z2⟩ := R.sl 0 _ h3
    rw [h1] at z1
    cases z1
    rw [h2] at z2
    exact z2
  unfold runB at h
  cases eg : g (envOf N.length (.ab t :: ds.map .im)) with
  | bad => rw [eg] at h; exact h.elim
  | exc x env' =>
    rw [eg] at h
    intro fp' F' σ' H' d R e1 hx
    obtain ⟨z1, z2, z3, t', z4, z5⟩ := fin R
    simp only [ab0, z4] at h
    exact h F' H' d z1 z2 z3 z5 hx
  | ok out env' =>
    rw [eg] at h
    intro fp' F' σ' H' R e1
    obtain ⟨z1, z2, z3, t', z4, z5⟩ := fin R
    cases out with
    | next =>
      simp only [ab0, z4] at h
      exact h F' H' .non z1 z2 z3 z5 (by show Den _ _ _ _; simp only [Den])
    | brk => exact h.elim
    | cont => exact h.elim
    | ret o =>
      intro v hv
      simp only [ab0, z4] at h
      have hb : finR [0] o env' ≠ .bad := fun z => by simp only [z] at h
      obtain ⟨r, hr1, hr2⟩ := fin_ret (bo := [0]) R (fun _ z => z) (fun q z => ⟨0, rfl, by rw [(R.bb (0, a, bw) (List.mem_singleton.mpr rfl)).2.1]; exact z⟩) hv hb
      simp only [hr1] at h
      exact h F' H' v z1 z2 z3 z5 hr2
/-- a def that changes its first argument in place, raises nothing -/
theorem fnB_of {n m : Nat} {g : PM Out} (F : Fun K x qual st f fd) (S : FnScope N ps (defScope st)) (hn : ps.length = n + 1) (hm : N.length = m)
    (hder : ∀ (cdv : Value) (A : Around) (outer : List Env) (s : Shared) (H : Hp) (E : XK), Room k (A.deeper (envOfC qual (defScope st) s.heap.objs.size f cdv)) → A.guards = some [] → PSsX (Ctx0 P w K mg base N qual st f cdv A outer s H E) [0] (WD E) (defBody st) g) :
    FnG P w K mg base CX0 (k + 1) f fd ps (SpB K n (runB m g)) := by
  subst hm
  refine fng_of F S ?_ ?_
  · rintro vs H Q E ⟨F, t, a, bw, vs', ds, rfl, h, _⟩
    rw [hn, List.length_cons, h]
  · rintro cdv A outer s H vs Q E hr hgu ⟨F0, t, a, bw, vs', ds, rfl, hl, e, sy, hab, hF, hd, h⟩
    obtain ⟨tt, h1, h2⟩ := hder cdv A outer s H E hr hgu
    refine ⟨tt, h1.nox, ?_⟩
    have hN : (V.ref a :: vs').length ≤ N.length := by
      rw [List.length_cons, hl, ← hn]
      have := congrArg List.length S.pre
      rw [List.length_take] at this
      omega
    exact h2 (ctB F0 H a bw) _ F0 _ _ H _ (fun q hq => by rw [List.mem_singleton.mp hq]; exact List.mem_singleton.mpr rfl) (rel_startB e sy hab hF hd hN) (spB_body e hab hF hd hN h)
end
end Pu

namespace Pu
open PySem PySem.Spec PyProof.Rows L2
section
variable {P : Program} {w : World} {K : PySem.W.Frag} {mg : Str → Option Value} {base : Heap} {CX : CXT} {k : Nat} {f : Addr} {fd : FuncData} {ps N : List Str} {x qual : Str} {st : Stmt}
/-- the law's own store of draws is made of the script: some store -/
def SpMk (K : PySem.W.Frag) (p : Ab → Prop) : Sp := fun vs H Q _ => ∃ (a : Addr) (ns : List Int), vs = [.ref a] ∧ SyF H ∧ SqL K H a (ns.map V.int) ∧ ns.length ≤ 63 ∧ ∀ (t : Ab) (H' : Hp) (v : V) (fT : List Addr), p t → Ex H H' → AbAt K H H' t v fT → (∀ q ∈ fT, H q = none) → Q v H'
def SpLaw (K : PySem.W.Frag) : Sp := fun vs H Q _ => ∃ (a : Addr) (ns : List Int), vs = [.ref a] ∧ SyF H ∧ SqL K H a (ns.map V.int) ∧ ns.length ≤ 63 ∧ ∀ H', Q (.bl true) H'
def lawEnv (n : Nat) (t : Ab) : PEnv := (List.replicate n none).set 1 (some (.ab t))
def TrueEnd (r : Res Out) : Prop := match r with
  | .ok (.ret o) env => finR [] o env = .ok (.val (.bool true))
  | _ => False
theorem rel_law {a : Addr} {v : V} {t : Ab} {fT : List Addr} {H H' : Hp} {n : Nat} (hN : N.length = n) (h2 : 2 ≤ n) (sy : SyF H) (e : Ex H H') (hab : AbAt K H H' t v fT) (hf : ∀ q ∈ fT, H q = none) :
    Rel K (ctA H H) (fpSet (fun _ => []) 1 fT) H (lawEnv n t) ((L2.start N [.ref a]).set 1 (some v)) H' where
  f0 := Ex.refl H
  sy := sy
  fh := e
  kp := fun q o h _ => e q o h
  al := fun q h => by
    have h' : H q ≠ none := h
    cases z : H q with
    | none => exact absurd z h'
    | some o => rw [e q o z]; simp
  nw := fun q h => .inl h
  ln := by
    unfold lawEnv
    rw [List.length_set, List.length_replicate, List.length_set, start_len (by rw [hN]; simp; omega), hN]
  sl := fun i o h => by
    unfold lawEnv at h
    by_cases hi : i = 1
    · subst hi
      obtain ⟨h1, _⟩ := set_some h
      cases h1
      refine ⟨v, ?_, ?_⟩
      · rw [List.getElem?_set_self]
        rw [start_len (by rw [hN]; simp; omega), hN]
        omega
      · rw [fpSet_same]; exact hab
    · rw [get_set_ne' hi, List.getElem?_replicate] at h
      split at h <;> cases h
  ow := fun i q h => by
    by_cases hi : i = 1
    · subst hi
      rw [fpSet_same] at h
      exact ⟨hf q h, abAt_in hab q h, .inr (hf q h)⟩
    · rw [fpSet_ne hi] at h; cases h
  lf := fun i l q h1 h2 => by
    unfold lawEnv at h1
    by_cases hi : i = 1
    · subst hi
      obtain ⟨z, _⟩ := set_some h1
      cases z
    · rw [fpSet_ne hi] at h2; cases h2
  ds := fun i j q h1 h2 => by
    by_cases hi : i = 1
    · by_cases hj : j = 1
      · rw [hi, hj]
      · rw [fpSet_ne hj] at h2; cases h2
    · rw [fpSet_ne hi] at h1; cases h1
  bb := fun p h => by cases h
theorem fnLaw_of {n : Nat} {p : Ab → Prop} {g : PM Out} {st1 : Stmt} {rest : List Stmt} (F : Fun K x qual st f fd) (S : FnScope N ["script"] (defScope st)) (hN : N.length = n) (h2n : 2 ≤ n)
    (hbody : defBody st = st1 :: rest)
    (h1 : ∀ (cdv : Value) (A : Around) (outer : List Env) (s : Shared) (H : Hp) (E : XK), Room k (A.deeper (envOfC qual (defScope st) s.heap.objs.size f cdv)) → A.guards = some [] →
      PS (Ctx0 P w K mg base N qual st f cdv A outer s H E) st1 (tAsg (tCallS (SpMk K p) (WE (WD E)) (tCons (tVar 0) tNil)) (gName 1)))
    (h2 : ∀ (cdv : Value) (A : Around) (outer : List Env) (s : Shared) (H : Hp) (E : XK), Room k (A.deeper (envOfC qual (defScope st) s.heap.objs.size f cdv)) → A.guards = some [] → PSsX (Ctx0 P w K mg base N qual st f cdv A outer s H E) [] (WD E) rest g)
    (hT : ∀ t, p t → TrueEnd (g (lawEnv n t))) : FnG P w K mg base CX0 (k + 1) f fd ["script"] (SpLaw K) := by
  refine fng_of F S ?_ ?_
  · rintro vs H Q E ⟨a, ns, rfl, _⟩
    rfl
  · rintro cdv A outer s H vs Q E hr hgu ⟨a, ns, rfl, sy, hs, hl, q⟩
    obtain ⟨t2, z1, z2⟩ := h2 cdv A outer s H E hr hgu
    refine ⟨tSeq (tAsg (tCallS (SpMk K p) (WE (WD E)) (tCons (tVar 0) tNil)) (gName 1)) t2, ?_, ?_⟩
    · rw [hbody]
      exact (pss_cons (h1 cdv A outer s H E hr hgu) z1).nox
    · refine ⟨.ref a, by rw [start_get (by simp)]; rfl, a, ns, rfl, sy, hs, hl, fun t H' v fT hp e hab hf => ?_⟩
      refine z2 (ctA H H) _ H (lawEnv n t) _ H' _ (fun q hq => by cases hq) (rel_law hN h2n sy e hab hf) ?_
      have hT' := hT t hp
      unfold TrueEnd at hT'
      cases eg : g (lawEnv n t) with
      | bad => rw [eg] at hT'; exact hT'.elim
      | exc x e' => rw [eg] at hT'; exact hT'.elim
      | ok out env' =>
        rw [eg] at hT'
        cases out with
        | next => exact hT'.elim
        | brk => exact hT'.elim
        | cont => exact hT'.elim
        | ret o =>
          intro fp' F' σ' H2 R e1 v' hv'
          obtain ⟨r, hr1, hr2⟩ := fin_ret (bo := []) R (fun _ z => z) (fun _ z => z.elim) hv' (by rw [hT']; intro z; cases z)
          rw [hT'] at hr1
          cases hr1
          have : Den K F' (.bool true) v' := hr2
          simp only [Den] at this
          subst this
          exact q _
/-- the law, where the script is in slot 0 -/
theorem rel_lawS {a : Addr} {ns : List Int} {H : Hp} (hN : 1 ≤ N.length) (sy : SyF H) (hs : SqL K H a (ns.map V.int)) : Rel K (ctA H H) (fun _ => []) H (envOf N.length [.ab (.sc ns)]) (L2.start N [.ref a]) H where
  f0 := Ex.refl H
  sy := sy
  fh := Ex.refl H
  kp := fun q o h _ => h
  al := fun q h => h
  nw := fun q h => .inl h
  ln := by rw [start_len (by simpa using hN), envOf_len (by simpa using hN)]
  sl := fun i o h => by
    have h' := envOf_get h
    cases i with
    | zero =>
      have : o = .ab (.sc ns) := by simpa using h'.symm
      subst this
      exact ⟨.ref a, by rw [start_get (by simp)]; rfl, a, rfl, rfl, hs⟩
    | succ i => simp at h'
  ow := fun i a h => by cases h
  lf := fun i _ a _ h => by cases h
  ds := fun i j a h _ => by cases h
  bb := fun p h => by cases h
theorem fnLawS_of {g : PM Out} (F : Fun K x qual st f fd) (S : FnScope N ["script"] (defScope st)) (hN : 1 ≤ N.length)
    (h2 : ∀ (cdv : Value) (A : Around) (outer : List Env) (s : Shared) (H : Hp) (E : XK), Room k (A.deeper (envOfC qual (defScope st) s.heap.objs.size f cdv)) → A.guards = some [] → PSsX (Ctx0 P w K mg base N qual st f cdv A outer s H E) [] (WD E) (defBody st) g)
    (hT : ∀ ns : List Int, ns.length ≤ 63 → TrueEnd (g (envOf N.length [.ab (.sc ns)]))) : FnG P w K mg base CX0 (k + 1) f fd ["script"] (SpLaw K) := by
  refine fng_of F S ?_ ?_
  · rintro vs H Q E ⟨a, ns, rfl, _⟩
    rfl
  · rintro cdv A outer s H vs Q E hr hgu ⟨a, ns, rfl, sy, hs, hl, q⟩
    obtain ⟨t2, z1, z2⟩ := h2 cdv A outer s H E hr hgu
    refine ⟨t2, z1.nox, ?_⟩
    refine z2 (ctA H H) _ H (envOf N.length [.ab (.sc ns)]) _ H _ (fun q hq => by cases hq) (rel_lawS hN sy hs) ?_
    have hT' := hT ns hl
    unfold TrueEnd at hT'
    cases eg : g (envOf N.length [.ab (.sc ns)]) with
    | bad => rw [eg] at hT'; exact hT'.elim
    | exc x e' => rw [eg] at hT'; exact hT'.elim
    | ok out env' =>
      rw [eg] at hT'
      cases out with
      | next => exact hT'.elim
      | brk => exact hT'.elim
      | cont => exact hT'.elim
      | ret o =>
        intro fp' F' σ' H2 R e1 v' hv'
        obtain ⟨r, hr1, hr2⟩ := fin_ret (bo := []) R (fun _ z => z) (fun _ z => z.elim) hv' (by rw [hT']; intro z; cases z)
        rw [hT'] at hr1
        cases hr1
        have : Den K F' (.bool true) v' := hr2
        simp only [Den] at this
        subst this
        exact q _
/-! ### the head -/
theorem law_callG {mb : Str → Option Value} {fa a : Addr} {s₁ : Shared} {vs : List Value} {ns : List Int}
    (KX : K.In s₁.heap) (hns : s₁.heap.Ns mainGlobals mg) (hb : s₁.heap.Ns builtinsNs mb) (hbb : ∀ x : Str, x ≠ "__name__" → mb x = bootBuiltins x) (hlim : s₁.heap.NoLimit) (hmods : ∃ mm, s₁.heap.Ns sysModules mm) (hsys : K.lookup sysModules = none) (hg : s₁.gens = #[])
    (ha : s₁.heap.get? a = some { cls := .type "list", data := .seq vs.toArray }) (hi : IntsAre vs ns) (hl : ns.length ≤ 63) (hr : Room k callerA)
    (F : ∀ base : Heap, K.In base → base.Ns mainGlobals mg → FnG P w K mg base CX0 k fa fd ["script"] (SpLaw K)) (hbind : ∀ (s : Shared) (u : Value), BindsTo s fd ⟨[u], []⟩ [("script", u)]) :
    codeAny (model P w) callerA (.call (.ref fa) ⟨[.ref a], []⟩) (fun r s' => r = .ok (.ret (.bool true)) ∧ OldK s₁.heap s'.heap ∧ s'.os = s₁.os ∧ AllBare s'.gens) s₁ := by
  have rv := vals_ints hi
  have hlen := hi.length
  have hline : ns.length ≤ sizeLine := Nat.le_trans hl (by rw [sizeLine_eq]; decide)
  obtain ⟨mm, om, em, pm, hom, hdm, _⟩ := hmods
  have ham : a ≠ sysModules := fun z => by
    rw [z, hom] at ha
    cases ha
    exact nomatch hdm
  -- tracked are the modules' dict and the script, both locked
  suffices core : ∀ H : Hp, (∀ b u, H b = some u → (b = a ∧ u = .frz { cls := .type "list", data := .seq vs.toArray } (.lst (ns.map V.int)) ∧ K.lookup a = none) ∨ (b = sysModules ∧ u = .frz om (.own 0))) → SyF H → SqL K H a (ns.map V.int) → HOk P w H s₁.heap →
      codeAny (model P w) callerA (.call (.ref fa) ⟨[.ref a], []⟩) (fun r s' => r = .ok (.ret (.bool true)) ∧ OldK s₁.heap s'.heap ∧ s'.os = s₁.os ∧ AllBare s'.gens) s₁ by
    have sysy : ∀ {H : Hp}, H sysModules = some (.frz om (.own 0)) → SyF H := fun h => ⟨_, h, fun xs z => nomatch z⟩
    cases hk : K.lookup a with
    | some o =>
      have z := KX a o hk
      rw [ha] at z
      cases z
      have one : ∀ b u, upd (fun _ => none) sysModules (HO.frz om (.own 0)) b = some u → b = sysModules ∧ u = .frz om (.own 0) := fun b u z => by
        by_cases hb : b = sysModules
        · rw [hb, upd_same] at z
          cases z
          exact ⟨hb, rfl⟩
        · rw [upd_ne hb] at z
          cases z
      refine core (upd (fun _ => none) sysModules (.frz om (.own 0))) (fun b u z => .inr (one b u z)) (sysy upd_same) (.inr ⟨_, vs.toArray, _, hk, rfl, rfl, rfl, ?_, by simpa using rv⟩) fun b u z => ?_
      · rw [List.size_toArray, hlen]
        exact hline
      · obtain ⟨rfl, rfl⟩ := one b u z
        exact ⟨hom, om, hom⟩
    | none =>
      have here : ∀ b u, upd (upd (fun _ => none) sysModules (HO.frz om (.own 0))) a (HO.frz { cls := .type "list", data := .seq vs.toArray } (.lst (ns.map V.int))) b = some u →
          (b = a ∧ u = .frz { cls := .type "list", data := .seq vs.toArray } (.lst (ns.map V.int))) ∨ (b = sysModules ∧ u = .frz om (.own 0)) := by
        intro b u z
        by_cases hb : b = a
        · rw [hb, upd_same] at z
          cases z
          exact .inl ⟨hb, rfl⟩
        · rw [upd_ne hb] at z
          by_cases hb2 : b = sysModules
          · rw [hb2, upd_same] at z
            cases z
            exact .inr ⟨hb2, rfl⟩
          · rw [upd_ne hb2] at z
            cases z
      refine core (upd (upd (fun _ => none) sysModules (.frz om (.own 0))) a (.frz { cls := .type "list", data := .seq vs.toArray } (.lst (ns.map V.int)))) (fun b u z => (here b u z).imp (fun y => ⟨y.1, y.2, hk⟩) id) (sysy (by rw [upd_ne (Ne.symm ham), upd_same])) (.inl (.inr ⟨_, upd_same⟩)) fun b u z => ?_
      rcases here b u z with ⟨rfl, rfl⟩ | ⟨rfl, rfl⟩
      · exact ⟨ha, by rw [List.length_map]; exact hline, vs, _, rv, ha⟩
      · exact ⟨hom, om, hom⟩
  intro H hH hsy hS hok
  have hnone : ∀ {b : Addr}, b ≠ a → b ≠ sysModules → H b = none := fun {b} h1 h2 => by
    cases q : H b with
    | none => rfl
    | some u => rcases hH b u q with ⟨z, _⟩ | ⟨z, _⟩ <;> contradiction
  have into : ∀ {b : Addr} {o : Obj}, s₁.heap.get? b = some o → H b = none → (hidT s₁.heap H).get? b = some o := fun z n => hidT_get z n
  have names : ∀ {b : Addr} {m : Str → Option Value}, s₁.heap.Ns b m → b ≠ sysModules → (hidT s₁.heap H).Ns b m := by
    rintro b m ⟨o, es, ep, z, d, r⟩ hbs
    refine ⟨o, es, ep, into z (hnone (fun w => ?_) hbs), d, r⟩
    rw [w, ha] at z
    cases z
    exact nomatch d
  have kin : K.In (hidT s₁.heap H) := by
    intro b o z
    refine into (KX b o z) ?_
    cases q : H b with
    | none => rfl
    | some u =>
      rcases hH b u q with ⟨hba, _, hk⟩ | ⟨hba, _⟩
      · rw [hba, hk] at z
        cases z
      · rw [hba, hsys] at z
        cases z
  obtain ⟨mc, hl1, hl2⟩ := hlim
  have hM : Mod K mg (hidT s₁.heap H) := ⟨kin, names hns (by decide), ⟨mb, names hb (by decide), hbb⟩, ⟨mc, names hl1 (by decide), hl2⟩⟩
  have e0 : Env0 P w K mg (hidT s₁.heap H) callerA [] s₁ H :=
    ⟨rfl, hM, fun b o z => of_hidT z, Nat.le_of_eq (hidT_size _ _), trivial, fun b z => absurd (show b ∈ ([] : List Addr) from z) (by simp), hok, .of_eq hg⟩
  refine codeAny_mono ((F _ kin (names hns (by decide))).run callerA [] s₁ H ⟨[.ref a], []⟩ [.ref a] [.ref a] (fun v _ => v = .bl true) (fun _ _ _ => False) hr rfl e0 (hbind s₁ (.ref a)) (.cons rfl .nil) ⟨a, ns, rfl, hsy, hS, hl, fun _ => rfl⟩) ?_
  intro r s' h
  cases r with
  | error z => exact h.elim
  | ok fl =>
    cases fl with
    | next => exact h.elim
    | brk => exact h.elim
    | cont => exact h.elim
    | ret u =>
      obtain ⟨v, H', os, bare, un, hok', r', q⟩ := h
      have q' : v = .bl true := q
      subst q'
      obtain rfl : u = Value.bool true := r'
      refine ⟨rfl, OldK.of_keep fun b o z => ?_, os, bare⟩
      cases hb' : H b with
      | none => exact un.keep b o z hb' (fun y => absurd (show b ∈ ([] : List Addr) from y) (by simp)) (by simp)
      | some u =>
        rcases hH b u hb' with ⟨rfl, rfl, _⟩ | ⟨rfl, rfl⟩
        · have z2 := un.frzs _ _ _ hb'
          obtain ⟨z3, _⟩ := hok' _ _ z2
          rw [ha] at z
          cases z
          exact z3
        · have z2 := un.frzs _ _ _ hb'
          obtain ⟨z3, _⟩ := hok' _ _ z2
          rw [hom] at z
          cases z
          exact z3
theorem walkG {l : PySem.W.OpenLaw} {n : Nat} {q : Program} {loose : List Str} {XP : (Str → Option Value) → Heap → Prop} {YP : World → Heap → Prop} {d : DefRec} {KK : Params → PySem.W.Frag}
    (hn : l.most = some n) (hn2 : n ≤ 63) (hdf : d.params.defaults = []) (hr : Room k callerA) (hY : ∀ (w : World) (h : Heap), YP w h → (KK w.params).In h) (hq : importsNone q = true) (hsys : ∀ w : World, (KK w.params).lookup sysModules = none)
    (F : ∀ (w : World) (mg : Str → Option Value) (fa : Addr) (h : Heap), (KK w.params).In h → h.Ns mainGlobals mg → mg d.name = some (.ref fa) →
      ∃ fd : FuncData, (∀ (s : Shared) (u : Value), BindsTo s fd ⟨[u], []⟩ [("script", u)]) ∧ ∀ base : Heap, (KK w.params).In base → base.Ns mainGlobals mg → FnG l.prog w (KK w.params) mg base CX0 k fa fd ["script"] (SpLaw (KK w.params))) :
    PySem.W.WalkO q loose XP YP l.row.toRowW d [] (fun f vs => PySem.call f vs) := by
  refine Att.attach_call hn hdf ?_
  intro w s₀ s₁ mg mb fa o pm cd doc a vs ns G Y ho hd hcd hmg hobj hints hlen hg
  obtain ⟨fd, hb, hF⟩ := F w mg fa _ (hY w _ Y) G.T.g hmg
  exact law_callG (hY w _ Y) G.T.g G.T.b G.T.builtins G.T.nolimit (let ⟨mm, z, _⟩ := (G.T.seer hq).mods; ⟨mm, z⟩) (hsys w) hg hobj hints (Nat.le_trans hlen hn2) hr hF hb
end
end Pu

namespace Pu
open PySem PySem.Spec PyProof.Rows L2
section
variable {X : Cx} {bo : List Nat} {W : WX} {e a b : Expr} {es : List Expr} {pos p : Pos} {x y : Str}
def eUn (g : D → Option Opd) (f : PM Opd) : PM Opd := bnd (opn f) fun o => bnd (rsv o) fun d => lift (g d)
theorem px_un {op : UnaryOp} {g : D → Option Opd} {f : PM Opd} (h : Un1 X (unaryOp op) g) (ha : PX X bo W a f) : PX X bo W (.UnaryOp op a pos) (eUn g f) := by
  obtain ⟨r, h1, h2⟩ := h
  obtain ⟨t, a1, a2⟩ := px_opn ha
  refine ⟨_, pe_un h1 a1, fun c fp F env σ H Q hc R g => ?_⟩
  refine a2 c fp F env σ H _ hc R ((Goes.bnd g).mono (Ex.refl F) fun fp1 F1 env1 H1 o e1 R1 g1 v hn hv => ?_)
  obtain ⟨d, k1, g2⟩ := rsv_ok R1 hv g1
  obtain ⟨o', ho, _⟩ := g2.lift
  exact h2 F1 H1 v d o' Q R1.fh k1 ho fun v' H' got => fin_got R1 g2 ho got
def gNeg : D → Option Opd
  | .int i => some (.val (.int (-i)))
  | _ => none
theorem u1_neg : Un1 X (unaryOp .USub) gNeg := by
  refine ⟨_, un_neg, fun F H x dx o Q e hx hg q => ?_⟩
  cases dx with
  | int i => cases hg; exact ⟨i, bd_int hx, q _ _ (.same den_int)⟩
  | _ => cases hg
/-- a, b = e, f : both kept -/
def sPar (i j : Nat) (fs : PM (List D)) : PM Out := bnd fs fun ds => match ds with
  | [d, d'] => bnd (putS i (.im d)) fun _ => bnd (putS j (.im d')) fun _ => ret .next
  | _ => oops
theorem psx_par {i j : Nat} {px py pt pt2 : Pos} {kt k2 : Nat} {fs : PM (List D)} (hcalm : X.calm = true) (hN : X.N.Nodup) (h : PAF X bo W [a, b] fs) (hij : i ≠ j := by decide) (hi : X.N[i]? = some x := by rfl) (hj : X.N[j]? = some y := by rfl) (hbi : bo.contains i = false := by rfl) (hbj : bo.contains j = false := by rfl)
    (hx : X.env.scope.names.lookup x = some .local := by rfl) (hy : X.env.scope.names.lookup y = some .local := by rfl)
    (hw : swappedStores [.Tuple [.Name x px, .Name y py] kt pt] (.Tuple [a, b] k2 pt2) X.env = pure (some [x, y]) := by rfl) (hs : swapsWithSole [.Tuple [.Name x px, .Name y py] kt pt] (.Tuple [a, b] k2 pt2) pos.line X.env = pure false := by rfl) :
    PSX X bo W (.Assign [.Tuple [.Name x px, .Name y py] kt pt] (.Tuple [a, b] k2 pt2) pos) (sPar i j fs) := by
  obtain ⟨t, h1, h2⟩ := h
  refine ⟨_, ps_par hcalm hN hi hj hij hx hy h1 hw hs, fun c fp F env σ H D hc R g => ?_⟩
  have hi0 : ∀ q ∈ c.br, q.1 ≠ i := okc_ne hc hbi
  have hj0 : ∀ q ∈ c.br, q.1 ≠ j := okc_ne hc hbj
  refine h2 c fp F env σ H _ hc R ((GoesS.bnd (σ := σ) g).mono (Ex.refl F) fun fp1 F1 env1 H1 ds e1 R1 g1 vs hl hd => ?_)
  match ds, hd, g1 with
  | [], _, g1 => exact g1.elim
  | [d], _, g1 => exact g1.elim
  | d :: d' :: d2 :: r, _, g1 => exact g1.elim
  | [d, d'], hd, g1 =>
    simp only [Dens] at hd
    obtain ⟨v, r, rfl, z1, v', r', rfl, z2, rfl⟩ := hd
    exact ⟨v, v', rfl, g1 _ F1 _ H1 ((R1.put hi0 z1).put hj0 z2) (Ex.refl F1)⟩
theorem GoesS.at {K : PySem.W.Frag} {c : Ct} {F : Hp} {r : Res Out} {D : Ends} (σ : L2.St) (h : GoesS K c W F r D) : Goes K c W σ F r (fun fp' F' env' H' out => OutOk K c fp' F' σ H' D out) := by
  cases r with
  | ok a env' => exact fun fp' F' H' R e => h fp' F' σ H' R e
  | exc x env' => exact fun fp' F' H' d R e z => h fp' F' σ H' d R e z
  | bad => exact h
/-- x[i] = e at a list that a name holds -/
theorem psx_putAt {i : Nat} {pv pt : Pos} {fe fi : PM Opd} (he : PX X bo W e fe) (hk : PX X bo W a fi) (hN : X.N[i]? = some x := by rfl) (hv : Vis X.env.scope x := by first | exact Or.inl rfl | exact Or.inr (Or.inl rfl) | exact Or.inr (Or.inr rfl)) (hd : (x == ("__debug__" : Str)) = false := by decide)
    (hcd : (x == ("__classdict__" : Str)) = false := by decide)
    (ha : ∀ v, assign (.Subscript (.Name x pv) a pt) X.env v = (do
      let ov ← holding [v] (eval (.Name x pv) X.env)
      let iv ← holding [v, ov] (eval a X.env)
      standAt pt
      holding [v, ov, iv] (setItem ov iv v)
      release [v, ov, iv] []) := by intro _; rfl)
    (hs : swapsWithSole [.Subscript (.Name x pv) a pt] e pos.line X.env = pure false := by rfl) (hw : swappedStores [.Subscript (.Name x pv) a pt] e X.env = pure none := by rfl)
    (h1 : (assignEach [.Subscript (.Name x pv) a pt] X.env).map (·.2) = [assign (.Subscript (.Name x pv) a pt) X.env] := by rfl) : PSX X bo W (.Assign [.Subscript (.Name x pv) a pt] e pos) (sPutAt i fe fi) := by
  obtain ⟨t, a1, a2⟩ := he
  obtain ⟨u, b1, b2⟩ := px_opn hk
  refine ⟨_, ps_asg a1 (pg_sub (pe_var hN hv hd hcd) b1 set_list ha) hs hw h1, fun c fp F env σ H Dn hc R g => ?_⟩
  unfold sPutAt at g
  rw [kept_bnd] at g
  refine a2 c fp F env σ H _ hc R ((GoesS.bnd (σ := σ) g).mono (Ex.refl F) fun fp1 F1 env1 H1 o e1 R1 g1 v hv => ?_)
  obtain ⟨d, fp2, F2, env2, R2, e2, hden, g2⟩ := frz_okS R1 hv g1
  obtain ⟨ds, ad, xs, k1, k2, k3, k4, k5, g3⟩ := lsAt_ok R2 (GoesS.at σ (g2.mono e2))
  refine ⟨.ref ad, k2, ?_⟩
  refine b2 c fp2 F2 env2 σ H1 _ hc R2 ((Goes.bnd g3).mono (Ex.refl F2) fun fp3 F3 env3 H3 oi e3 R3 g4 u hn hu => ?_)
  obtain ⟨dk, q1, g5⟩ := rsv_ok R3 hu g4
  obtain ⟨ds2, ad2, xs2, z1, z2, z3, z4, z5, g6⟩ := lsAt_ok R3 g5
  rw [k2] at z2
  cases z2
  cases dk with
  | int z =>
    simp only at g6
    cases ej : ixN ds2.length z with
    | none => rw [ej] at g6; exact g6.elim
    | some j =>
      rw [ej] at g6
      refine ⟨ad, xs2, z, j, rfl, bd_int q1, z4, by rw [dens_len z5]; exact ej, ?_⟩
      exact g6 fp3 F3 _ (R3.setLs z1 k2 z3 (dens_set (den_mono e3 _ _ hden) j z5)) (Ex.refl F3)
  | _ => exact g6.elim
end
end Pu

namespace Pu
open PySem PySem.Spec PyProof.Rows L2
theorem bt_len : bootBuiltins "len" = some (.builtin "len") := by decide +kernel
theorem bt_abs : bootBuiltins "abs" = some (.builtin "abs") := by decide +kernel
theorem bt_repr : bootBuiltins "repr" = some (.builtin "repr") := by decide +kernel
theorem bt_isinstance : bootBuiltins "isinstance" = some (.builtin "isinstance") := by decide +kernel
theorem bt_tuple : bootBuiltins "tuple" = some (.type "tuple") := by decide +kernel
theorem bt_list : bootBuiltins "list" = some (.type "list") := by decide +kernel
theorem bt_dict : bootBuiltins "dict" = some (.type "dict") := by decide +kernel
theorem bt_int : bootBuiltins "int" = some (.type "int") := by decide +kernel
theorem bt_bool : bootBuiltins "bool" = some (.type "bool") := by decide +kernel
theorem bt_str : bootBuiltins "str" = some (.type "str") := by decide +kernel
section
variable {X : Cx} {pos : Pos} {x : Str}
theorem pv (i : Nat) (hN : X.N[i]? = some x := by rfl) (hv : Vis X.env.scope x := by first | exact Or.inl rfl | exact Or.inr (Or.inl rfl) | exact Or.inr (Or.inr rfl)) (hd : (x == ("__debug__" : Str)) = false := by decide)
    (hcd : (x == ("__classdict__" : Str)) = false := by decide) : PE X (.Name x pos) (tVar i) := pe_var hN hv hd hcd
end
theorem spB_len {K : PySem.W.Frag} {n : Nat} {S : Ab → List D → FR × Ab} {vs : List V} {H : Hp} {Q : VK} {E : XK} (h : SpB K n S vs H Q E) : vs.length = n + 1 := by
  obtain ⟨F, t, a, bw, vs', ds, rfl, h, _⟩ := h
  rw [List.length_cons, h]
theorem spMk_len {K : PySem.W.Frag} {p : Ab → Prop} {vs : List V} {H : Hp} {Q : VK} {E : XK} (h : SpMk K p vs H Q E) : vs.length = 1 := by
  obtain ⟨a, ns, rfl, _⟩ := h
  rfl
end Pu
namespace Pu
open PySem PySem.Spec PyProof.Rows L2
theorem units1 {k : Nat} {A : Around} (r : Room k A) : A.units + 1 < cLine := by have := r.units; omega
end Pu
namespace Pu
open PySem PySem.Spec PyProof.Rows L2
section
variable {X : Cx} {pos pos' : Pos} {x : Str} {e : Expr} {te : TE}
theorem pset (i : Nat) (hN : X.N.Nodup) (he : PE X e te) (hi : X.N[i]? = some x := by rfl) (hx : X.env.scope.names.lookup x = some .local := by rfl) (hs : swapsWith e (some (.Name x pos')) pos.line X.env = pure false := by rfl) :
    PS X (.Assign [.Name x pos'] e pos) (tAsg te (gName i)) := ps_set hN hi (.inl hx) he hs (.inr hx)
end
end Pu
namespace Pu
open PySem PySem.Spec PyProof.Rows L2
section
variable {P : Program} {w : World} {K : PySem.W.Frag} {mg : Str → Option Value} {base : Heap} {k : Nat} {f : Addr} {fd : FuncData} {ps N : List Str} {x qual : Str} {st : Stmt}
theorem fnMk_of {tt : TS} {p : Ab → Prop} (F : Fun K x qual st f fd) (S : FnScope N ["script"] (defScope st))
    (hder : ∀ (cdv : Value) (A : Around) (outer : List Env) (s : Shared) (H : Hp) (E : XK), Room k (A.deeper (envOfC qual (defScope st) s.heap.objs.size f cdv)) → A.guards = some [] → PSs (Ctx0 P w K mg base N qual st f cdv A outer s H E) (defBody st) tt)
    (hw : ∀ vs H (Q : VK) E, SpMk K p vs H Q E → tt { nx := fun _ H' => Q .non H', rt := Q } (L2.start N vs) H) :
    FnG P w K mg base CX0 (k + 1) f fd ["script"] (SpMk K p) := by
  refine fng_of F S ?_ ?_
  · rintro vs H Q E ⟨a, ns, rfl, _⟩
    rfl
  · intro cdv A outer s H vs Q E hr hgu h
    exact ⟨tt, (hder cdv A outer s H E hr hgu).nox, hw vs H Q E h⟩
end
end Pu

namespace Pu
open PySem PySem.Spec PyProof.Rows L2
/-! ### the deck of draws: a list of far numbers, a state -/
def lt61 {x : Int} (h0 : 0 ≤ x) (h1 : x < 2305843009213693951) : Fin 2305843009213693952 := ⟨x.toNat, by omega⟩
theorem lt61_val {x : Int} (h0 : 0 ≤ x) (h1 : x < 2305843009213693951) : (((lt61 h0 h1).val : Nat) : Int) = x := by
  unfold lt61
  exact Int.toNat_of_nonneg h0
def stNext (s : Int) : Int := (s * 1181783497276652981 + 88172645463325) % 2305843009213693951
theorem stNext_lt (s : Int) : 0 ≤ stNext s ∧ stNext s < 2305843009213693951 := ⟨Int.emod_nonneg _ (by decide), Int.emod_lt_of_pos _ (by decide)⟩
def stTwo (o : Int) : Int := (o * o + 374761393 * o + 11) % 2305843009213693921
def drawAt (j1 j2 : Str) (far : List Nat) (st : Fin 2305843009213693952) (m : Int) : FR × Ab :=
  if m < 2 then (.ok (.val (.int 0)), .deck j1 j2 far st)
  else if m < 1073741824 then
    match far.getLast? with
    | some w => (.ok (.val (.int ((w : Int) % m))), .deck j1 j2 (if m ≤ (w : Int) then far.dropLast ++ [((w : Int) / m).toNat] else far.dropLast) st)
    | none => (.ok (.val (.int ((stTwo (stNext (st.val : Int)) / 1048576) % m))), .deck j1 j2 far (lt61 (stNext_lt (st.val : Int)).1 (stNext_lt (st.val : Int)).2))
  else (.bad, .deck j1 j2 far st)
def F_draw1 (k1 k2 : Str) : Ab → List D → FR × Ab
  | .deck j1 j2 far st, [.int m] => if j1 = k1 ∧ j2 = k2 ∧ far.length ≤ 63 then drawAt j1 j2 far st m else (.bad, .deck j1 j2 far st)
  | t, _ => (.bad, t)
/-- a deck with these names -/
def IsDeck (k1 k2 : Str) (t : Ab) : Prop := ∃ far st, t = .deck k1 k2 far st ∧ far.length ≤ 63
theorem draw1_ok {k1 k2 : Str} {t : Ab} {m : Int} (h : IsDeck k1 k2 t) (h1 : 1 ≤ m) (h2 : m < 1073741824) : ∃ i t', F_draw1 k1 k2 t [.int m] = (.ok (.val (.int i)), t') ∧ 0 ≤ i ∧ i < m ∧ IsDeck k1 k2 t' := by
  obtain ⟨far, st, rfl, hl⟩ := h
  have e0 : F_draw1 k1 k2 (.deck k1 k2 far st) [.int m] = drawAt k1 k2 far st m := if_pos ⟨rfl, rfl, hl⟩
  rw [e0]
  unfold drawAt
  by_cases h3 : m < 2
  · rw [if_pos h3]
    exact ⟨0, _, rfl, by omega, by omega, far, st, rfl, hl⟩
  · rw [if_neg h3, if_pos h2]
    cases e : far.getLast? with
    | none => exact ⟨_, _, rfl, Int.emod_nonneg _ (by omega), Int.emod_lt_of_pos _ (by omega), far, _, rfl, hl⟩
    | some w =>
      have hne : far ≠ [] := by intro z; rw [z] at e; cases e
      have hp : 0 < far.length := List.length_pos_iff.mpr hne
      refine ⟨_, _, rfl, Int.emod_nonneg _ (by omega), Int.emod_lt_of_pos _ (by omega), _, st, rfl, ?_⟩
      split
      · rw [List.length_append, List.length_dropLast, List.length_singleton]; omega
      · rw [List.length_dropLast]; omega
abbrev rInt1 : List V → Hp → VK → Prop := fun xs H Q => (∃ i, xs = [.int i] ∧ Q (.int i) H) ∨ ∃ k, xs = [.bl k] ∧ Q (.int (if k then 1 else 0)) H
abbrev tRem (a b : TE) : TE := tOp (rI (fun _ j => 0 < j) fun i j => .int (i % j)) a b
abbrev tPlus (a b : TE) : TE := tOp (rI0 fun i j => .int (i + j)) a b
abbrev tTimes (a b : TE) : TE := tOp (rI CMul fun i j => .int (i * j)) a b
abbrev tOver (a b : TE) : TE := tOp (rI CDiv fun i j => .int (i / j)) a b
abbrev tInt (a : TE) : TE := tCB rInt1 (tCons a tNil)
def drTS (K : PySem.W.Frag) (k1 k2 : Str) : TS :=
  tSeq (tIfS (tTest (tOp (rI0 fun i j => .bl (decide (i < j))) (tVar 1) (tC (.int 2)))) (tRet (tC (.int 0))) tNext)
    (tSeq (tIfS (tTest (tOp (rNeD K) (tDGet (tVar 0) (tC (.str k1))) (tLst tNil)))
        (tSeq (tAsg (tBM0 K "list" rPop (tDGet (tVar 0) (tC (.str k1)))) (gName 4))
          (tSeq (tIfS (tTest (tOp (rI0 fun i j => .bl (decide (j ≤ i))) (tVar 4) (tVar 1)))
              (tDrop (tBM K "list" rAppend (tDGet (tVar 0) (tC (.str k1))) (tCons (tOver (tVar 4) (tVar 1)) tNil))) tNext)
            (tRet (tRem (tInt (tVar 4)) (tVar 1))))) tNext)
      (tSeq (tAsg (tRem (tInt (tPlus (tTimes (tDGet (tVar 0) (tC (.str k2))) (tC (.int 1181783497276652981))) (tC (.int 88172645463325)))) (tC (.int 2305843009213693951))) (gName 2))
        (tSeq (sDPut (tVar 0) (tC (.str k2)) (tVar 2))
          (tSeq (tAsg (tRem (tInt (tPlus (tPlus (tTimes (tVar 2) (tVar 2)) (tTimes (tC (.int 374761393)) (tVar 2))) (tC (.int 11)))) (tC (.int 2305843009213693921))) (gName 3))
            (tRet (tRem (tInt (tOver (tVar 3) (tC (.int 1048576)))) (tVar 1)))))))
theorem dpAll_ints {K : PySem.W.Frag} {H : Hp} (far : List Nat) : DpAll K H (far.map fun (n : Nat) => V.int (n : Int)) (far.map fun (n : Nat) => PyData.int (n : Int)) := by
  induction far with
  | nil => exact .nil
  | cons a r ih => exact .cons (.int _) ih
theorem shaped_ints (far : List Nat) : SeqAt.shaped (.list (far.map fun (n : Nat) => PyData.int (n : Int))) = true := by
  have h : ∀ l : List Nat, PyData.canLayAll0 (l.map fun (n : Nat) => PyData.int (n : Int)) = true ∧ PyData.depthAll (l.map fun (n : Nat) => PyData.int (n : Int)) = 0 := by
    intro l
    induction l with
    | nil => exact ⟨by simp only [List.map_nil, PyData.canLayAll0], by simp only [List.map_nil, PyData.depthAll]⟩
    | cons a r ih => exact ⟨by simp only [List.map_cons, PyData.canLayAll0, PyData.canLay0, ih.1, Bool.and_self], by simp only [List.map_cons, PyData.depthAll, PyData.depth, ih.2, Nat.max_self]⟩
  unfold SeqAt.shaped
  simp only [PyData.canLay0, PyData.depth, (h far).1, (h far).2, Bool.true_and, decide_eq_true_eq]
  decide
theorem eqv_empty (far : List Nat) : PyData.eqv (.list (far.map fun (n : Nat) => PyData.int (n : Int))) (.list []) = far.isEmpty := by
  cases far with
  | nil => simp only [List.map_nil, PyData.eqv, PyData.eqvAll, List.isEmpty_nil]
  | cons a r => simp only [List.map_cons, PyData.eqv, PyData.eqvAll, List.isEmpty_cons]
section
variable {K : PySem.W.Frag} {H : Hp} {σ : L2.St} {Q : VK}
theorem dget_at {a : Addr} {kvs : List (Key × V)} {k : Str} {v : V} {i : Nat} (h0 : σ[i]? = some (some (.ref a))) (h : H a = some (.dK kvs)) (hv : valV kvs (Sum.inr k) = some v) (q : Q v H) : tDGet (tVar i) (tC (.str k)) σ H Q := by
  refine ⟨.ref a, h0, a, v, rfl, ?_, q⟩
  have := DGet.k (k := Sum.inr k) h
  rw [hv] at this
  exact this
theorem rem_at {a b : TE} {i j : Int} (ha : ∀ q : VK, q (.int i) H → a σ H q) (hb : ∀ q : VK, q (.int j) H → b σ H q) (hj : 0 < j) (q : Q (.int (i % j)) H) : tRem a b σ H Q := ha _ (hb _ ⟨i, j, rfl, rfl, hj, q⟩)
theorem plus_at {a b : TE} {i j : Int} (ha : ∀ q : VK, q (.int i) H → a σ H q) (hb : ∀ q : VK, q (.int j) H → b σ H q) (q : Q (.int (i + j)) H) : tPlus a b σ H Q := ha _ (hb _ ⟨i, j, rfl, rfl, q⟩)
theorem times_at {a b : TE} {i j : Int} (ha : ∀ q : VK, q (.int i) H → a σ H q) (hb : ∀ q : VK, q (.int j) H → b σ H q) (hj : CMul i j) (q : Q (.int (i * j)) H) : tTimes a b σ H Q := ha _ (hb _ ⟨i, j, rfl, rfl, hj, q⟩)
theorem over_at {a b : TE} {i j : Int} (ha : ∀ q : VK, q (.int i) H → a σ H q) (hb : ∀ q : VK, q (.int j) H → b σ H q) (hj : CDiv i j) (q : Q (.int (i / j)) H) : tOver a b σ H Q := ha _ (hb _ ⟨i, j, rfl, rfl, hj, q⟩)
theorem int_at {a : TE} {i : Int} (ha : ∀ q : VK, q (.int i) H → a σ H q) (q : Q (.int i) H) : tInt a σ H Q := ha _ (.inl ⟨i, rfl, q⟩)
theorem c_at {v : V} (q : Q v H) : tC v σ H Q := q
theorem var_at {i : Nat} {v : V} (h : σ[i]? = some (some v)) (q : Q v H) : tVar i σ H Q := ⟨v, h, q⟩
end
theorem start5 {N : List Str} (hN : N.length = 5) {x y : V} : L2.start N [x, y] = [some x, some y, none, none, none] := by
  unfold L2.start
  rw [hN]
  rfl
theorem draw_wp {K : PySem.W.Frag} {k1 k2 : Str} (hk : k1 ≠ k2) {vs : List V} {H : Hp} {Q : VK} {E : XK} {D0 : Ends} (h : SpB K 1 (F_draw1 k1 k2) vs H Q E) (hD : D0.rt = Q) {N : List Str} (hN : N.length = 5) :
    drTS K k1 k2 D0 (L2.start N vs) H := by
  obtain ⟨F, t, a, bw, vs', ds, rfl, hl0, e, sy, hab, hF, hd0, hm0⟩ := h
  subst hD
  match vs', ds, hl0, hd0, hm0 with
  | [v], [d], _, hd, hm =>
    simp only [Dens] at hd
    obtain ⟨v0, r0, hv, hd, hr⟩ := hd
    cases hv
    cases t with
    | deck j1 j2 far st =>
      cases d with
      | int m =>
        simp only [Den] at hd
        subst hd
        rw [start5 hN]
        by_cases hc : j1 = k1 ∧ j2 = k2 ∧ far.length ≤ 63
        · have e0 : F_draw1 k1 k2 (.deck j1 j2 far st) [.int m] = drawAt j1 j2 far st m := if_pos hc
          rw [e0] at hm
          obtain ⟨rfl, rfl, hl⟩ := hc
          obtain ⟨a', b, h1, rfl, hab1, hA, hB⟩ := hab
          cases h1
          have kk : ∀ {H' : Hp}, (∀ q o, q ≠ a → q ≠ b → H q = some o → H' q = some o) → Grown F H F H' ∧ ∀ q o, H q = some o → q ∉ [a, b] → H' q = some o := by
            intro H' z
            refine ⟨⟨Ex.refl F, fun q o h => ?_, fun q h => .inl h⟩, fun q o h1 h2 => z q o (fun w => h2 (by rw [w]; simp)) (fun w => h2 (by rw [w]; simp)) h1⟩
            refine z q o (fun w => ?_) (fun w => ?_) (e q o h)
            · rw [w, hF a (by simp)] at h; cases h
            · rw [w, hF b (by simp)] at h; cases h
          unfold drawAt at hm
          have v1 : valV [(Sum.inr j1, V.ref b), (Sum.inr j2, V.int (st.val : Int))] (Sum.inr j1 : Key) = some (.ref b) := valV_pos rfl
          have v2 : valV [(Sum.inr j1, V.ref b), (Sum.inr j2, V.int (st.val : Int))] (Sum.inr j2 : Key) = some (.int (st.val : Int)) := by
            rw [valV_neg (by intro z; exact hk (Sum.inr.inj z)), valV_pos rfl]
          refine ⟨.int m, rfl, m, 2, rfl, rfl, _, rfl, ?_⟩
          show ite (decide (m < 2) = true) _ _
          by_cases c1 : m < 2
          · rw [if_pos (decide_eq_true c1)]
            rw [if_pos c1] at hm
            obtain ⟨g1, g2⟩ := kk (H' := H) (fun q o _ _ h => h)
            exact hm F H (.int 0) g1 g2 hF ⟨a, b, rfl, rfl, hab1, hA, hB⟩ (by show Den _ _ _ _; simp only [Den])
          · rw [if_neg (by simpa using c1)]
            show tSeq _ _ _ _ _
            rw [if_neg c1] at hm
            by_cases c2 : m < 1073741824
            · rw [if_pos c2] at hm
              refine dget_at rfl hA v1 ⟨by simp [sizeLine_eq], fun p hp => ?_⟩
              have npa : a ≠ p := fun z => by rw [← z, hA] at hp; cases hp
              have npb : b ≠ p := fun z => by rw [← z, hB] at hp; cases hp
              have hA1 : upd H p (.lst []) a = some (.dK [(Sum.inr j1, .ref b), (Sum.inr j2, .int (st.val : Int))]) := by rw [upd_ne npa]; exact hA
              have hB1 : upd H p (.lst []) b = some (.lst (far.map fun (n : Nat) => V.int (n : Int))) := by rw [upd_ne npb]; exact hB
              refine ⟨_, .list [], .lst (.inl (.inl hB1)) (dpAll_ints far), .lst (.inl (.inl upd_same)) .nil, shaped_ints far, by decide, _, rfl, ?_⟩
              rw [eqv_empty]
              show ite ((!far.isEmpty) = true) _ _
              cases eg : far.getLast? with
              | none =>
                rw [eg] at hm
                dsimp only at hm
                have hfar : far = [] := List.getLast?_eq_none_iff.mp eg
                subst hfar
                rw [if_neg (by decide)]
                show tSeq _ _ _ _ _
                have s1 := stNext_lt (st.val : Int)
                have hst : ((st.val : Nat) : Int) < 2305843009213693952 := by have := st.isLt; omega
                refine rem_at (i := (st.val : Int) * 1181783497276652981 + 88172645463325) (fun q h => int_at (fun q h => plus_at (fun q h => times_at (fun q h => dget_at rfl hA1 v2 h) (fun q h => c_at h) (.inl ⟨by omega, by omega⟩) h) (fun q h => c_at h) h) h) (fun q h => c_at h) (by decide) ?_
                unfold gName tSeq sDPut
                dsimp only
                refine ⟨.int (stNext (st.val : Int)), rfl, .ref a, rfl, a, _, rfl, DPut.k (k := Sum.inr j2) hA1 (by rw [sizeLine_eq]; exact (by decide : 2 < 16777216)), ?_⟩
                have hp2 : putK [(Sum.inr j1, V.ref b), (Sum.inr j2, V.int (st.val : Int))] (Sum.inr j2 : Key) (.int (stNext (st.val : Int))) = [(Sum.inr j1, .ref b), (Sum.inr j2, .int (stNext (st.val : Int)))] := by
                  unfold putK
                  have n1 : ¬ (Sum.inr j1 : Key) = Sum.inr j2 := fun z => hk (Sum.inr.inj z)
                  simp [n1]
                rw [hp2]
                have hb2 : CMul (stNext (st.val : Int)) (stNext (st.val : Int)) := .inl ⟨by omega, by omega⟩
                refine rem_at (i := stNext (st.val : Int) * stNext (st.val : Int) + 374761393 * stNext (st.val : Int) + 11) (fun q h => int_at (fun q h => plus_at (fun q h => plus_at (fun q h => times_at (fun q h => var_at rfl h) (fun q h => var_at rfl h) hb2 h) (fun q h => times_at (fun q h => c_at h) (fun q h => var_at rfl h) (.inl ⟨by decide, by decide⟩) h) h) (fun q h => c_at h) h) h) (fun q h => c_at h) (by decide) ?_
                refine rem_at (i := stTwo (stNext (st.val : Int)) / 1048576) (fun q h => int_at (fun q h => over_at (fun q h => var_at rfl h) (fun q h => c_at h) ⟨by decide, by decide⟩ h) h) (fun q h => var_at rfl h) (by omega) ?_
                obtain ⟨g1, g2⟩ := kk (H' := upd (upd H p (.lst [])) a (.dK [(Sum.inr j1, .ref b), (Sum.inr j2, .int (stNext (st.val : Int)))])) (fun q o n1 _ h => by
                  rw [upd_ne n1, upd_ne (ne_of_none h hp)]
                  exact h)
                refine hm F _ (.int ((stTwo (stNext (st.val : Int)) / 1048576) % m)) g1 g2 hF ⟨a, b, rfl, rfl, hab1, ?_, ?_⟩ (den_int (K := K) (F := F))
                · have h4 : (((lt61 s1.1 s1.2).val : Nat) : Int) = stNext (st.val : Int) := lt61_val s1.1 s1.2
                  rw [h4, upd_same]
                · rw [upd_ne (Ne.symm hab1), upd_ne npb]; exact hB
              | some w =>
                rw [eg] at hm
                dsimp only at hm
                have hne : far ≠ [] := by intro z; rw [z] at eg; cases eg
                have hfe : far.isEmpty = false := by cases far with
                  | nil => exact absurd rfl hne
                  | cons _ _ => rfl
                rw [hfe, if_pos (by decide)]
                show tSeq _ _ _ _ _
                have hpos : 0 < far.length := List.length_pos_iff.mpr hne
                have hlast : (far.map fun (n : Nat) => V.int (n : Int))[(far.map fun (n : Nat) => V.int (n : Int)).length - 1]? = some (.int (w : Int)) := by
                  rw [List.length_map, List.getElem?_map, ← List.getLast?_eq_getElem?, eg]
                  rfl
                refine dget_at rfl hA1 v1 ⟨.inl ⟨rfl, _, .inl (.inl hB1)⟩, b, _, _, rfl, rfl, hB1, hlast, ?_⟩
                have hdl : (far.map fun (n : Nat) => V.int (n : Int)).dropLast = far.dropLast.map fun (n : Nat) => V.int (n : Int) := by rw [List.map_dropLast]
                rw [hdl]
                have hA2 : upd (upd H p (.lst [])) b (.lst (far.dropLast.map fun (n : Nat) => V.int (n : Int))) a = some (.dK [(Sum.inr j1, .ref b), (Sum.inr j2, .int (st.val : Int))]) := by rw [upd_ne hab1]; exact hA1
                refine ⟨.int (w : Int), rfl, .int m, rfl, (w : Int), m, rfl, rfl, _, rfl, ?_⟩
                show ite (decide (m ≤ (w : Int)) = true) _ _
                by_cases c3 : m ≤ (w : Int)
                · rw [if_pos (decide_eq_true c3)]
                  rw [if_pos c3] at hm
                  refine dget_at rfl hA2 v1 ⟨.inl ⟨rfl, _, .inl (.inl upd_same)⟩, over_at (fun q h => var_at rfl h) (fun q h => var_at rfl h) ⟨by omega, by omega⟩ ?_⟩
                  refine ⟨b, _, _, rfl, rfl, upd_same, by rw [List.length_map, List.length_dropLast, sizeLine_eq]; omega, ?_⟩
                  refine rem_at (i := (w : Int)) (fun q h => int_at (fun q h => var_at rfl h) h) (fun q h => var_at rfl h) (by omega) ?_
                  obtain ⟨g1, g2⟩ := kk (H' := upd (upd (upd H p (.lst [])) b (.lst (far.dropLast.map fun (n : Nat) => V.int (n : Int)))) b (.lst ((far.dropLast.map fun (n : Nat) => V.int (n : Int)) ++ [.int ((w : Int) / m)]))) (fun q o _ n2 h => by
                    rw [upd_ne n2, upd_ne n2, upd_ne (ne_of_none h hp)]
                    exact h)
                  refine hm F _ _ g1 g2 hF ⟨a, b, rfl, rfl, hab1, ?_, ?_⟩ (by show Den _ _ _ _; simp only [Den])
                  · rw [upd_ne hab1]; exact hA2
                  · rw [upd_same, List.map_append]
                    have h5 : ((((w : Int) / m).toNat : Nat) : Int) = (w : Int) / m := Int.toNat_of_nonneg (Int.ediv_nonneg (by omega) (by omega))
                    simp only [List.map_cons, List.map_nil, h5]
                · rw [if_neg (by simpa using c3)]
                  rw [if_neg c3] at hm
                  refine rem_at (i := (w : Int)) (fun q h => int_at (fun q h => var_at rfl h) h) (fun q h => var_at rfl h) (by omega) ?_
                  obtain ⟨g1, g2⟩ := kk (H' := upd (upd H p (.lst [])) b (.lst (far.dropLast.map fun (n : Nat) => V.int (n : Int)))) (fun q o _ n2 h => by
                    rw [upd_ne n2, upd_ne (ne_of_none h hp)]
                    exact h)
                  exact hm F _ _ g1 g2 hF ⟨a, b, rfl, rfl, hab1, hA2, upd_same⟩ (by show Den _ _ _ _; simp only [Den])
            · rw [if_neg c2] at hm
              exact hm.elim
        · have e0 : F_draw1 k1 k2 (.deck j1 j2 far st) [.int m] = (.bad, .deck j1 j2 far st) := if_neg hc
          rw [e0] at hm
          exact hm.elim
      | _ => exact hm.elim
    | sc ns => cases d <;> exact hm.elim
    | dc es => cases d <;> exact hm.elim
    | ll cs => cases d <;> exact hm.elim
    | fl ds => cases d <;> exact hm.elim
end Pu

namespace Pu
open PySem PySem.Spec PyProof.Rows L2
abbrev rLenSeq (K : PySem.W.Frag) : List V → Hp → VK → Prop := fun xs H Q => ∃ p ys, xs = [.ref p] ∧ (SqL K H p ys ∨ SqT K H p ys) ∧ Q (.int ys.length) H
abbrev rAbs1 : List V → Hp → VK → Prop := fun xs H Q => ∃ i, xs = [.int i] ∧ Q (.int (if i < 0 then -i else i)) H
abbrev tCut (K : PySem.W.Frag) : TE := tSl (rSlL K) (tVar 0) tNoPart (tPart (tC (.int 63)))
def mkBody (k1 k2 : Str) : TS :=
  tSeq (tAsg (tCB rAbs1 (tCons (tVar 2) tNil)) (gName 3))
    (tSeq (tIfS (tTest (tOp (rI0 fun i j => .bl (decide (j ≤ i))) (tVar 3) (tOp (rI CPow fun i j => .int (i ^ j.toNat)) (tC (.int 10)) (tC (.int 18)))))
        (sDPut (tVar 1) (tC (.str k1)) (tOp rCat (tLst (tCons (tVar 3) tNil)) (tDGet (tVar 1) (tC (.str k1))))) tNext)
      (tSeq (tAsg (tPlus (tTimes (tPlus (tPlus (tPlus (tDGet (tVar 1) (tC (.str k2))) (tTimes (tC (.int 2)) (tVar 3))) (tInt (tOp (rI0 fun i j => .bl (decide (i < j))) (tVar 2) (tC (.int 0))))) (tC (.int 1))) (tC (.int 1181783497276652981))) (tC (.int 521288629))) (gName 4))
        (sDPut (tVar 1) (tC (.str k2)) (tRem (tInt (tVar 4)) (tC (.int 2305843009213693951))))))
def mkTS (c0 : Int) (K : PySem.W.Frag) (k1 k2 : Str) : TS :=
  tSeq (tAsg (tDisp [(tC (.str k1), tLst tNil), (tC (.str k2), tPlus (tC (.int c0)) (tCB (rLenSeq K) (tCons (tCut K) tNil)))]) (gName 1))
    (tSeq (tFor (iList K (tCut K)) (gName 2) (mkBody k1 k2)) (tRet (tVar 1)))
theorem cut63 {xs : List V} (h : xs.length ≤ 63) : cutV xs none (some 63) = xs := by
  have e : HT.sIx xs.length xs.length (some 63) = min 63 xs.length := HT.sIx_nat _ _ 63
  unfold cutV
  rw [e, HT.sIx_none, List.drop_zero, Nat.sub_zero, Nat.min_eq_right h, List.take_length]
/-- the deck in the making: at p, of new objects -/
structure DeckAt (k1 k2 : Str) (H0 : Hp) (p : Addr) (n : Nat) (q : Addr) (xs : List V) (H : Hp) : Prop where
  ex : Ex H0 H
  hp : H0 p = none
  hq : H q = some (.lst xs)
  hqp : q ≠ p
  at_ : ∃ (b : Addr) (far : List Nat) (st : Int), p ≠ b ∧ q ≠ b ∧ H0 b = none ∧ H p = some (.dK [(Sum.inr k1, .ref b), (Sum.inr k2, .int st)]) ∧ H b = some (.lst (far.map fun (z : Nat) => V.int (z : Int))) ∧ 0 ≤ st ∧ st < 2305843009213693952 ∧ far.length ≤ n
theorem upd_keep {H0 H : Hp} {p : Addr} {o : HO} (e : Ex H0 H) (h : H0 p = none) : Ex H0 (upd H p o) := fun q u z => by
  rw [upd_ne (ne_of_none z h)]
  exact e q u z
theorem body_wp {k1 k2 : Str} (hk : k1 ≠ k2) {H0 H : Hp} {p q : Addr} {n : Nat} {xs : List V} {A x3 x4 : Option V} {c : Int} {D0 : Ends} (h : DeckAt k1 k2 H0 p n q xs H) (hn : n < 100)
    (hD : ∀ c' x3' x4' H', DeckAt k1 k2 H0 p (n + 1) q xs H' → D0.nx [A, some (.ref p), some c', x3', x4'] H') : mkBody k1 k2 D0 [A, some (.ref p), some (.int c), x3, x4] H := by
  have last : ∀ (w : Int) (x4 : Option V) H, DeckAt k1 k2 H0 p (n + 1) q xs H → (tSeq (tAsg (tPlus (tTimes (tPlus (tPlus (tPlus (tDGet (tVar 1) (tC (.str k2))) (tTimes (tC (.int 2)) (tVar 3))) (tInt (tOp (rI0 fun i j => .bl (decide (i < j))) (tVar 2) (tC (.int 0))))) (tC (.int 1))) (tC (.int 1181783497276652981))) (tC (.int 521288629))) (gName 4))
        (sDPut (tVar 1) (tC (.str k2)) (tRem (tInt (tVar 4)) (tC (.int 2305843009213693951))))) D0 [A, some (.ref p), some (.int c), some (.int w), x4] H := by
    intro w x4 H ⟨ex, hp, hq, hqp, b, far, st, hpb, hqb, hb0, hP, hB, s0, s1, hl⟩
    have v2 : valV [(Sum.inr k1, V.ref b), (Sum.inr k2, V.int st)] (Sum.inr k2 : Key) = some (.int st) := by
      rw [valV_neg (by intro z; exact hk (Sum.inr.inj z)), valV_pos rfl]
    have m2 : CMul 2 w := .inl ⟨by decide, by decide⟩
    show tPlus _ _ _ _ _
    have fin : ∀ u : Int, gName 4 (.int u) [A, some (.ref p), some (.int c), some (.int w), x4] H (sDPut (tVar 1) (tC (.str k2)) (tRem (tInt (tVar 4)) (tC (.int 2305843009213693951))) D0) := by
      intro u
      show sDPut (tVar 1) (tC (.str k2)) (tRem (tInt (tVar 4)) (tC (.int 2305843009213693951))) D0 [A, some (.ref p), some (.int c), some (.int w), some (.int u)] H
      refine rem_at (i := u) (fun q h => int_at (fun q h => var_at rfl h) h) (fun q h => c_at h) (by decide) ?_
      refine ⟨.ref p, rfl, p, _, rfl, DPut.k (k := Sum.inr k2) hP (by rw [sizeLine_eq]; exact (by decide : 2 < 16777216)), ?_⟩
      have hp2 : putK [(Sum.inr k1, V.ref b), (Sum.inr k2, V.int st)] (Sum.inr k2 : Key) (.int (u % 2305843009213693951)) = [(Sum.inr k1, .ref b), (Sum.inr k2, .int (u % 2305843009213693951))] := by
        unfold putK
        have n1 : ¬ (Sum.inr k1 : Key) = Sum.inr k2 := fun z => hk (Sum.inr.inj z)
        simp [n1]
      rw [hp2]
      refine hD _ _ _ _ ⟨upd_keep ex hp, hp, by rw [upd_ne hqp]; exact hq, hqp, b, far, _, hpb, hqb, hb0, upd_same, by rw [upd_ne (Ne.symm hpb)]; exact hB, Int.emod_nonneg _ (by decide), ?_, hl⟩
      have := Int.emod_lt_of_pos u (show (0 : Int) < 2305843009213693951 by decide)
      omega
    by_cases hc : c < 0
    · refine plus_at (fun q h => times_at (fun q h => plus_at (fun q h => plus_at (fun q h => plus_at (fun q h => dget_at rfl hP v2 h) (fun q h => times_at (fun q h => c_at h) (fun q h => var_at rfl h) m2 h) h) (j := 1) (fun q h => ?_) h) (fun q h => c_at h) h) (fun q h => c_at h) (.inr ⟨by decide, by decide⟩) h) (fun q h => c_at h) (fin _)
      refine ⟨.int c, rfl, c, 0, rfl, rfl, .inr ⟨_, rfl, ?_⟩⟩
      rw [decide_eq_true hc]
      exact h
    · refine plus_at (fun q h => times_at (fun q h => plus_at (fun q h => plus_at (fun q h => plus_at (fun q h => dget_at rfl hP v2 h) (fun q h => times_at (fun q h => c_at h) (fun q h => var_at rfl h) m2 h) h) (j := 0) (fun q h => ?_) h) (fun q h => c_at h) h) (fun q h => c_at h) (.inr ⟨by decide, by decide⟩) h) (fun q h => c_at h) (fin _)
      refine ⟨.int c, rfl, c, 0, rfl, rfl, .inr ⟨_, rfl, ?_⟩⟩
      rw [decide_eq_false hc]
      exact h
  refine ⟨.int c, rfl, c, rfl, ?_⟩
  generalize hw : (if c < 0 then -c else c) = w
  have w0 : 0 ≤ w := by rw [← hw]; split <;> omega
  dsimp only [gName, List.set]
  refine ⟨.int w, rfl, 10, 18, rfl, rfl, ⟨by decide, by decide, by decide⟩, w, _, rfl, rfl, _, rfl, ?_⟩
  show ite (decide (_ ≤ w) = true) _ _
  obtain ⟨ex, hp, hq, hqp, b, far, st, hpb, hqb, hb0, hP, hB, s0, s1, hl⟩ := h
  by_cases hc : (10 : Int) ^ (18 : Int).toNat ≤ w
  · rw [if_pos (decide_eq_true hc)]
    refine ⟨.int w, rfl, by rw [sizeLine_eq]; exact (by decide : 1 ≤ 16777216), fun r hr => ?_⟩
    have v1 : valV [(Sum.inr k1, V.ref b), (Sum.inr k2, V.int st)] (Sum.inr k1 : Key) = some (.ref b) := valV_pos rfl
    have nr : ∀ {y : Addr} {o : HO}, H y = some o → y ≠ r := fun z w => by rw [← w, z] at hr; cases hr
    have hP1 : upd H r (.lst [.int w]) p = some (.dK [(Sum.inr k1, .ref b), (Sum.inr k2, .int st)]) := by rw [upd_ne (nr hP)]; exact hP
    refine dget_at rfl hP1 v1 ⟨r, b, _, _, rfl, rfl, upd_same, by rw [upd_ne (nr hB)]; exact hB, ?_, fun u hu => ?_⟩
    · rw [List.length_map, List.length_singleton, sizeLine_eq]; omega
    have nu : ∀ {y : Addr} {o : HO}, upd H r (.lst [.int w]) y = some o → y ≠ u := fun z w => by rw [← w, z] at hu; cases hu
    have ru : r ≠ u := nu upd_same
    refine ⟨.ref p, rfl, p, _, rfl, DPut.k (k := Sum.inr k1) (by rw [upd_ne (nu hP1)]; exact hP1) (by rw [sizeLine_eq]; exact (by decide : 2 < 16777216)), ?_⟩
    have hp2 : putK [(Sum.inr k1, V.ref b), (Sum.inr k2, V.int st)] (Sum.inr k1 : Key) (.ref u) = [(Sum.inr k1, .ref u), (Sum.inr k2, .int st)] := by
      unfold putK
      have n1 : ¬ (Sum.inr k2 : Key) = Sum.inr k1 := fun z => hk (Sum.inr.inj z).symm
      simp [n1]
    rw [hp2]
    have hu0 : H u = none := by rw [upd_ne (Ne.symm ru)] at hu; exact hu
    have pu : p ≠ u := nu hP1
    have h0r : H0 r = none := none_of_ex ex hr
    have h0u : H0 u = none := none_of_ex ex hu0
    refine last w x4 _ ⟨upd_keep (upd_keep (upd_keep ex h0r) h0u) hp, hp, ?_, hqp, u, w.toNat :: far, st, pu, ?_, h0u, upd_same, ?_, s0, s1, by rw [List.length_cons]; omega⟩
    · rw [upd_ne hqp, upd_ne (nu (by rw [upd_ne (nr hq)]; exact hq)), upd_ne (nr hq)]; exact hq
    · exact nu (by rw [upd_ne (nr hq)]; exact hq)
    · rw [upd_ne (Ne.symm pu), upd_same, List.map_cons, Int.toNat_of_nonneg w0]
      rfl
  · rw [if_neg (by simpa using hc)]
    exact last w x4 H ⟨ex, hp, hq, hqp, b, far, st, hpb, hqb, hb0, hP, hB, s0, s1, by omega⟩
theorem mk_wp {c0 : Int} (hc0 : 0 ≤ c0) (hc1 : c0 < 1000000000) {K : PySem.W.Frag} {k1 k2 : Str} (hk : k1 ≠ k2) {vs : List V} {H : Hp} {Q : VK} {E : XK} {D0 : Ends} (h : SpMk K (IsDeck k1 k2) vs H Q E) (hD : D0.rt = Q) {N : List Str} (hN : N.length = 5) :
    mkTS c0 K k1 k2 D0 (L2.start N vs) H := by
  obtain ⟨a, ns, rfl, sy, hs, hl, hQ⟩ := h
  subst hD
  have e5 : L2.start N [V.ref a] = [some (.ref a), none, none, none, none] := by
    unfold L2.start
    rw [hN]
    rfl
  rw [e5]
  have hcut : cutV (ns.map V.int) none (some 63) = ns.map V.int := cut63 (by rw [List.length_map]; exact hl)
  intro p hp
  refine ⟨by rw [sizeLine_eq]; exact Nat.zero_le _, fun b hb => ?_⟩
  have ep : Ex H (upd H p (.dK [])) := Ex.new hp
  have hbp : b ≠ p := fun z => by rw [z, upd_same] at hb; cases hb
  have hb0 : H b = none := by rw [upd_ne hbp] at hb; exact hb
  have eb : Ex H (upd (upd H p (.dK [])) b (.lst [])) := upd_keep ep hb0
  have hsb : SqL K (upd (upd H p (.dK [])) b (.lst [])) a (ns.map V.int) := ex_l eb hs
  refine ⟨.ref a, rfl, 63, rfl, a, _, rfl, hsb, fun q hq => ?_⟩
  rw [hcut]
  have ht0 : ∀ {y : Addr}, y ≠ q → y ≠ b → y ≠ p → upd (upd (upd H p (.dK [])) b (.lst [])) q (.lst (ns.map V.int)) y = H y := fun h1 h2 h3 => by rw [upd_ne h1, upd_ne h2, upd_ne h3]
  have hqb : q ≠ b := fun z => by rw [z, upd_same] at hq; cases hq
  have hqp : q ≠ p := fun z => by rw [z, upd_ne (Ne.symm hbp), upd_same] at hq; cases hq
  have hq0 : H q = none := by rw [upd_ne hqb, upd_ne hqp] at hq; exact hq
  refine ⟨q, ns.map V.int, rfl, .inl (.inl (.inl upd_same)), ?_⟩
  refine ⟨c0, ((ns.map V.int).length : Int), rfl, rfl, ?_⟩
  have hP : upd (upd (upd H p (.dK [])) b (.lst [])) q (.lst (ns.map V.int)) p = some (.dK []) := by rw [upd_ne (Ne.symm hqp), upd_ne (Ne.symm hbp), upd_same]
  refine ⟨hP, [(Sum.inr k1, .ref b), (Sum.inr k2, .int (c0 + ((ns.map V.int).length : Int)))], rfl, (by decide : 2 ≤ 15), ?_⟩
  have hm : mergeK [] [(Sum.inr k1, V.ref b), (Sum.inr k2, V.int (c0 + ((ns.map V.int).length : Int)))] = [(Sum.inr k1, .ref b), (Sum.inr k2, .int (c0 + ((ns.map V.int).length : Int)))] := by
    have n1 : ¬ (Sum.inr k1 : Key) = Sum.inr k2 := fun z => hk (Sum.inr.inj z)
    simp [mergeK, putK, n1]
  rw [hm]
  dsimp only [gName, List.set]
  generalize hH3 : upd (upd (upd (upd H p (.dK [])) b (.lst [])) q (.lst (ns.map V.int))) p (.dK [(Sum.inr k1, V.ref b), (Sum.inr k2, V.int (c0 + ((ns.map V.int).length : Int)))]) = H3
  have e3 : Ex H H3 := by rw [← hH3]; exact upd_keep (upd_keep eb hq0) hp
  have hP3 : H3 p = some (.dK [(Sum.inr k1, V.ref b), (Sum.inr k2, V.int (c0 + ((ns.map V.int).length : Int)))]) := by rw [← hH3, upd_same]
  have hB3 : H3 b = some (.lst []) := by rw [← hH3, upd_ne hbp, upd_ne (Ne.symm hqb), upd_same]
  show tFor _ _ _ _ _ _
  refine ⟨.ref a, rfl, 63, rfl, a, _, rfl, ex_l e3 hs, fun r hr => ?_⟩
  rw [hcut]
  have nr : ∀ {y : Addr} {o : HO}, H3 y = some o → y ≠ r := fun z w => by rw [← w, z] at hr; cases hr
  refine ⟨r, rfl, ⟨_, .inl (.inl upd_same)⟩, ?_⟩
  have hr0 : H r = none := none_of_ex e3 hr
  have start : DeckAt k1 k2 H p 0 r (ns.map V.int) (upd H3 r (.lst (ns.map V.int))) := by
    refine ⟨upd_keep e3 hr0, hp, upd_same, Ne.symm (nr hP3), b, [], _, Ne.symm hbp, Ne.symm (nr hB3), hb0, by rw [upd_ne (nr hP3)]; exact hP3, by rw [upd_ne (nr hB3)]; exact hB3, by omega, ?_, Nat.le_refl _⟩
    rw [List.length_map]
    omega
  refine for_it (walk_list (xs := ns.map V.int)) (fun i σ H' => DeckAt k1 k2 H p i r (ns.map V.int) H' ∧ ∃ x2 x3 x4, σ = [some (.ref a), some (.ref p), x2, x3, x4]) ⟨start, none, none, none, rfl⟩ (fun i σ H' _ h => .inl (.inl h.1.hq)) ?_ ?_
  · rintro i x σ H1 H2 hi ⟨h, x2, x3, x4, rfl⟩ ⟨rfl, hx⟩
    rw [List.getElem?_map] at hx
    cases hn : ns[i]? with
    | none => rw [hn] at hx; cases hx
    | some c =>
      rw [hn] at hx
      cases hx
      rw [List.length_map] at hi
      refine body_wp hk h (by omega) fun c' x3' x4' H' h' => ⟨h', _, _, _, rfl⟩
  · rintro σ H1 ⟨⟨ex, hp, hq, hqp, b, far, st, hpb, hqb, hb0, hP, hB, s0, s1, hl1⟩, x2, x3, x4, rfl⟩
    rw [List.length_map] at hl1
    refine ⟨.ref p, rfl, hQ (.deck k1 k2 far ⟨st.toNat, by omega⟩) H1 (.ref p) [p, b] ⟨far, _, rfl, by omega⟩ ex ⟨p, b, rfl, rfl, hpb, ?_, hB⟩ ?_⟩
    · rw [hP]
      show _ = some (HO.dK [(Sum.inr k1, .ref b), (Sum.inr k2, .int ((st.toNat : Nat) : Int))])
      rw [Int.toNat_of_nonneg s0]
    · intro y hy
      simp only [List.mem_cons, List.not_mem_nil, or_false] at hy
      rcases hy with rfl | rfl
      · exact hp
      · exact hb0
end Pu

namespace Pu
open PySem PySem.Spec PyProof.Rows L2
/-! ### reckoning with runs over data -/
def Ev {α : Type} (r : Res α) (P : α → PEnv → Prop) : Prop := match r with
  | .ok a e => P a e
  | _ => False
theorem Ev.mono {α : Type} {r : Res α} {P P' : α → PEnv → Prop} (h : Ev r P) (k : ∀ a e, P a e → P' a e) : Ev r P' := by
  cases r with
  | ok a e => exact k a e h
  | _ => exact h
theorem Ev.bnd {α β : Type} {m : PM α} {f : α → PM β} {e : PEnv} {P : β → PEnv → Prop} (h : Ev (m e) fun a e' => Ev (f a e') P) : Ev (bnd m f e) P := by
  unfold Pu.bnd
  cases em : m e with
  | ok a e' => rw [em] at h; exact h
  | exc x e' => rw [em] at h; exact h.elim
  | bad => rw [em] at h; exact h.elim
theorem Ev.ret {α : Type} {a : α} {e : PEnv} {P : α → PEnv → Prop} (h : P a e) : Ev (ret a e) P := h
theorem Ev.of {α : Type} {r : Res α} {a : α} {e : PEnv} {P : α → PEnv → Prop} (h : r = .ok a e) (q : P a e) : Ev r P := by rw [h]; exact q
/-- a call that gives something, with the deck as it is then -/
def EvB (r : FR × Ab) (P : Opd → Ab → Prop) : Prop := match r with
  | (.ok o, t) => P o t
  | _ => False
theorem EvB.mono {r : FR × Ab} {P P' : Opd → Ab → Prop} (h : EvB r P) (k : ∀ o t, P o t → P' o t) : EvB r P' := by
  obtain ⟨r, t⟩ := r
  cases r with
  | ok o => exact k o t h
  | _ => exact h
theorem EvB.of {r : FR × Ab} {o : Opd} {t : Ab} {P : Opd → Ab → Prop} (h : r = (.ok o, t)) (q : P o t) : EvB r P := by rw [h]; exact q
theorem ev_runB {N : Nat} {g : PM Out} {t : Ab} {ds : List D} {P : Opd → Ab → Prop} (h : Ev (g (envOf N (.ab t :: ds.map .im))) fun out e => ∃ t', e[0]? = some (some (.ab t')) ∧ ∃ o, out = .ret o ∧ ∃ r, finR [0] o e = .ok r ∧ P r t') :
    EvB (runB N g t ds) P := by
  unfold runB
  cases eg : g (envOf N (.ab t :: ds.map .im)) with
  | ok out e =>
    rw [eg] at h
    obtain ⟨t', h0, o, rfl, r, hr, hp⟩ := h
    simp only [ab0, h0, hr]
    exact hp
  | exc x e => rw [eg] at h; exact h.elim
  | bad => rw [eg] at h; exact h.elim
theorem ev_runA {N : Nat} {g : PM Out} {ds : List D} {r : Opd} (h : Ev (g (envOf N (ds.map .im))) fun out e => ∃ o, out = .ret o ∧ finR [] o e = .ok r) : runA N g ds = .ok r := by
  unfold runA
  cases eg : g (envOf N (ds.map .im)) with
  | ok out e =>
    rw [eg] at h
    obtain ⟨o, rfl, hr⟩ := h
    exact hr
  | exc x e => rw [eg] at h; exact h.elim
  | bad => rw [eg] at h; exact h.elim
theorem ev_true {r : Res Out} (h : Ev r fun out e => out = .ret (.val (.bool true))) : TrueEnd r := by
  cases r with
  | ok out e =>
    have h' : out = .ret (.val (.bool true)) := h
    subst h'
    rfl
  | exc x e => exact h.elim
  | bad => exact h.elim
/-! the run of a call within an expression -/
theorem ev_callB {i : Nat} {F : Ab → List D → FR × Ab} {fs : PM (List D)} {e : PEnv} {P : Opd → PEnv → Prop} (h0 : ∃ t0, e[i]? = some (some (.ab t0)))
    (h : Ev (fs e) fun ds e' => ∃ t, e'[i]? = some (some (.ab t)) ∧ EvB (F t ds) fun o t' => P o (e'.set i (some (.ab t')))) : Ev (eCallB i F fs e) P := by
  obtain ⟨t0, h0⟩ := h0
  unfold eCallB
  refine Ev.bnd ?_
  have e1 : abAtE i e = .ok t0 e := by unfold abAtE; rw [h0]
  rw [e1]
  refine Ev.bnd (h.mono fun ds e' q => ?_)
  obtain ⟨t, h1, h2⟩ := q
  refine Ev.bnd ?_
  have e2 : abAtE i e' = .ok t e' := by unfold abAtE; rw [h1]
  rw [e2]
  show Ev (frB i (F t ds) e') P
  cases eF : F t ds with
  | mk r t' =>
    rw [eF] at h2
    cases r with
    | ok o => exact h2
    | exc x => exact h2.elim
    | bad => exact h2.elim
/-! loops -/
theorem ev_for {s : D → PEnv → Option PEnv} {body : PM Out} {P : Out → PEnv → Prop} (I : List D → PEnv → Prop) :
    ∀ (ds : List D) (e : PEnv), I ds e → (∀ d ds e, I (d :: ds) e → ∃ e1, s d e = some e1 ∧ Ev (body e1) fun o e2 => match o with
      | .next => I ds e2
      | .cont => I ds e2
      | .brk => P .next e2
      | .ret o => P (.ret o) e2) → (∀ e, I [] e → P .next e) → Ev (goFor s body ds e) P
  | [], e, h, _, hd => hd e h
  | d :: ds, e, h, hs, hd => by
    obtain ⟨e1, h1, h2⟩ := hs d ds e h
    unfold goFor
    simp only [h1]
    cases eb : body e1 with
    | ok o e2 =>
      rw [eb] at h2
      cases o with
      | next => exact ev_for I ds e2 h2 hs hd
      | cont => exact ev_for I ds e2 h2 hs hd
      | brk => exact h2
      | ret o => exact h2
    | exc x e2 => rw [eb] at h2; exact h2.elim
    | bad => rw [eb] at h2; exact h2.elim
/-- a comprehension: what is kept so far, the environment -/
theorem ev_lc {vs : List Nat} {s : D → PEnv → Option PEnv} {t : PM Bool} {f : PM Opd} {P : List D → PEnv → Prop} (I : List D → List D → PEnv → Prop) :
    ∀ (ds acc : List D) (e : PEnv), I ds acc e → (∀ d ds acc e, I (d :: ds) acc e → acc.length < bigLine ∧ ∃ e1, s d e = some e1 ∧ Ev (t e1) fun k e2 => if k = true then Ev (kept f e2) (fun y e3 => I ds (acc ++ [y]) (wipeE e3 vs)) else I ds acc (wipeE e2 vs)) →
      (∀ acc e, I [] acc e → P acc e) → Ev (goLc vs s t f ds acc e) P
  | [], acc, e, h, _, hd => hd acc e h
  | d :: ds, acc, e, h, hs, hd => by
    obtain ⟨hl, e1, h1, h2⟩ := hs d ds acc e h
    unfold goLc
    simp only [h1]
    cases et : t e1 with
    | ok k e2 =>
      rw [et] at h2
      have h2' : if k = true then Ev (kept f e2) (fun y e3 => I ds (acc ++ [y]) (wipeE e3 vs)) else I ds acc (wipeE e2 vs) := h2
      cases k with
      | false =>
        rw [if_neg Bool.false_ne_true] at h2'
        exact ev_lc I ds acc _ h2' hs hd
      | true =>
        rw [if_pos rfl] at h2'
        cases ef : kept f e2 with
        | ok y e3 =>
          rw [ef] at h2'
          simp only [ef, if_pos hl]
          exact ev_lc I ds (acc ++ [y]) _ h2' hs hd
        | exc x e3 => rw [ef] at h2'; exact h2'.elim
        | bad => rw [ef] at h2'; exact h2'.elim
    | exc x e2 => rw [et] at h2; exact h2.elim
    | bad => rw [et] at h2; exact h2.elim
theorem ev_eLc {it : PM (List D)} {vs : List Nat} {s : D → PEnv → Option PEnv} {t : PM Bool} {f : PM Opd} {e : PEnv} {P : Opd → PEnv → Prop}
    (h : Ev (it e) fun ds e1 => Ev (goLc vs s t f ds [] (wipeE e1 vs)) fun acc e2 => P (.tmp acc) (rst e1 e2 vs)) : Ev (eLc it vs s t f e) P := by
  unfold eLc
  refine Ev.bnd (h.mono fun ds e1 q => ?_)
  cases eg : goLc vs s t f ds [] (wipeE e1 vs) with
  | ok acc e2 => rw [eg] at q; exact q
  | exc x e2 => rw [eg] at q; exact q.elim
  | bad => rw [eg] at q; exact q.elim
/-! ### data that may be shown: of n parts, k deep -/
structure Sm (n k : Nat) (d : D) : Prop where
  sh : d.showable = true
  ls : d.leavesShort 100 = true
  bk : d.bulk ≤ n
  dp : d.depth ≤ k
theorem Sm.mono {n k n' k' : Nat} {d : D} (h : Sm n k d) (h1 : n ≤ n' := by omega) (h2 : k ≤ k' := by omega) : Sm n' k' d := ⟨h.sh, h.ls, Nat.le_trans h.bk h1, Nat.le_trans h.dp h2⟩
theorem Sm.can {n k : Nat} {d : D} (h : Sm n k d) (h1 : n ≤ 90000 := by omega) (h2 : k ≤ 50 := by omega) : canShow d = true := by
  have h3 := PyData.shown_le_bulk 100 (by decide) d h.ls
  have h4 : d.shown.length ≤ 10000000 := by
    have := h.bk
    omega
  unfold canShow bigLine
  rw [h.sh, decide_eq_true h4, decide_eq_true (Nat.le_trans h.dp h2)]
  rfl
theorem sm_all {n k : Nat} {ds : List D} (h : ∀ d ∈ ds, Sm n k d) : PyData.showableAll ds = true ∧ PyData.leavesShortAll 100 ds = true ∧ PyData.bulkAll ds ≤ ds.length * (n + 1) ∧ PyData.depthAll ds ≤ k := by
  induction ds with
  | nil => exact ⟨by simp only [PyData.showableAll], by simp only [PyData.leavesShortAll], by simp only [PyData.bulkAll]; omega, by simp only [PyData.depthAll]; omega⟩
  | cons d ds ih =>
    obtain ⟨i1, i2, i3, i4⟩ := ih fun x hx => h x (List.mem_cons_of_mem _ hx)
    have hd := h d (by simp)
    refine ⟨?_, ?_, ?_, ?_⟩
    · simp only [PyData.showableAll, hd.sh, i1, Bool.and_self]
    · simp only [PyData.leavesShortAll, hd.ls, i2, Bool.and_self]
    · simp only [PyData.bulkAll, List.length_cons, Nat.succ_mul]
      have := hd.bk
      omega
    · simp only [PyData.depthAll]
      exact Nat.max_le.mpr ⟨hd.dp, i4⟩
theorem sm_tup {n k m : Nat} {ds : List D} (h : ∀ d ∈ ds, Sm n k d) (hl : ds.length ≤ m) : Sm (m * (n + 1)) (k + 1) (.tuple ds) := by
  obtain ⟨i1, i2, i3, i4⟩ := sm_all h
  refine ⟨by simpa only [PyData.showable] using i1, by simpa only [PyData.leavesShort] using i2, ?_, ?_⟩
  · simp only [PyData.bulk]
    exact Nat.le_trans i3 (Nat.mul_le_mul_right _ hl)
  · simp only [PyData.depth]
    omega
theorem sm_lst {n k m : Nat} {ds : List D} (h : ∀ d ∈ ds, Sm n k d) (hl : ds.length ≤ m) : Sm (m * (n + 1)) (k + 1) (.list ds) := by
  obtain ⟨i1, i2, i3, i4⟩ := sm_all h
  refine ⟨by simpa only [PyData.showable] using i1, by simpa only [PyData.leavesShort] using i2, ?_, ?_⟩
  · simp only [PyData.bulk]
    exact Nat.le_trans i3 (Nat.mul_le_mul_right _ hl)
  · simp only [PyData.depth]
    omega
end Pu

namespace Pu
open PySem PySem.Spec PyProof.Rows L2
/-! ### rows for reckoning out a run -/
section
variable {α β : Type} {m : PM α} {f : α → PM β} {a : α} {e e' : PEnv} {g : D → D → Option Opd} {fa fb fc : PM Opd} {ft ft2 : PM Bool} {i : Nat} {d : D} {ds : List D} {o : Opd}
theorem bnd_e : bnd m f e = (match m e with | .ok a e' => f a e' | .exc x e' => .exc x e' | .bad => .bad) := rfl
theorem ret_e : ret a e = .ok a e := rfl
theorem oops_e : (oops : PM α) e = .bad := rfl
theorem lift_s : lift (some a) e = .ok a e := rfl
theorem lift_n : (lift none : PM α) e = .bad := rfl
theorem opn_e : opn fa e = bnd fa thaw e := rfl
theorem thaw_v : thaw (.val d) e = .ok (.val d) e := rfl
theorem thaw_t : thaw (.tmp ds) e = .ok (.val (.list ds)) e := rfl
theorem thaw_s : thaw (.slot i) e = .ok (.slot i) e := rfl
theorem rsv_v : rsv (.val d) e = .ok d e := rfl
theorem rsv_s : rsv (.slot i) e = (match e[i]? with | some (some (.im d)) => .ok d e | some (some (.ls ds)) => .ok (.list ds) e | some (some (.ab t)) => lift (rdAb t) e | _ => .bad) := rfl
theorem frz_v : frz (.val d) e = .ok d e := rfl
theorem frz_t : frz (.tmp ds) e = .ok (.list ds) e := rfl
theorem frz_s : frz (.slot i) e = (match e[i]? with | some (some (.im d)) => .ok d e | some (some (.ls ds)) => .ok (.list ds) (e.set i (some (.im (.list ds)))) | _ => .bad) := rfl
theorem kept_e : kept fa e = bnd fa frz e := rfl
theorem eVar_e : eVar i e = (match e[i]? with | some (some (.im d)) => .ok (.val d) e | some (some _) => .ok (.slot i) e | _ => .bad) := rfl
theorem eBin_e : eBin g fa fb e = bnd (opn fa) (fun x => bnd (opn fb) fun y => bnd (rsv x) fun dx => bnd (rsv y) fun dy => lift (g dx dy)) e := rfl
theorem toB_b {b : Bool} : toB (.val (.bool b)) e = .ok b e := rfl
theorem eTest_e : eTest fa e = bnd fa toB e := rfl
theorem bAnd_e : bAnd ft ft2 e = bnd ft (fun k => if k = true then ft2 else ret false) e := rfl
theorem bOr_e : bOr ft ft2 e = bnd ft (fun k => if k = true then ret true else ft2) e := rfl
theorem bNot_e : bNot ft e = bnd ft (fun k => ret (!k)) e := rfl
theorem eTruth_e : eTruth fa e = bnd (opn fa) (fun o => bnd (rsv o) fun d => lift (truth d)) e := rfl
theorem vAnd_e : vAnd fa fb e = bnd (eTest fa) (fun k => if k = true then fb else ret (.val (.bool false))) e := rfl
theorem vOr_e : vOr fa fb e = bnd (eTest fa) (fun k => if k = true then ret (.val (.bool true)) else fb) e := rfl
theorem vNot_e : vNot fa e = bnd (eTest fa) (fun k => ret (.val (.bool (!k)))) e := rfl
theorem eIf_e : eIf ft fa fb e = bnd ft (fun k => if k = true then fa else fb) e := rfl
theorem eTup_e {fs : PM (List D)} : eTup fs e = bnd fs (fun ds => ret (.val (.tuple ds))) e := rfl
theorem eLst_e {fs : PM (List D)} : eLst fs e = bnd fs (fun ds => ret (.tmp ds)) e := rfl
theorem rsvs_n : rsvs [] e = .ok [] e := rfl
theorem rsvs_c {os : List Opd} : rsvs (o :: os) e = bnd (rsv o) (fun d => bnd (rsvs os) fun ds => ret (d :: ds)) e := rfl
theorem eBi_e {g : List D → Option Opd} {fs : PM (List Opd)} : eBi g fs e = bnd fs (fun os => bnd (rsvs os) fun ds => lift (g ds)) e := rfl
theorem toPart_i {z : Int} : toPart (.val (.int z)) e = .ok (some z) e := rfl
theorem eSl_e {g : D → Option Int → Option Int → Option Opd} {lo hi : PM (Option Int)} : eSl g fa lo hi e = bnd (opn fa) (fun o => bnd lo fun l => bnd hi fun h => bnd (rsv o) fun d => lift (g d l h)) e := rfl
theorem eUn_e {g : D → Option Opd} : eUn g fa e = bnd (opn fa) (fun o => bnd (rsv o) fun d => lift (g d)) e := rfl
theorem eIsi_e {T : String} : eIsi T fa e = bnd (opn fa) (fun o => bnd (rsv o) fun d => ret (.val (.bool (isiD T d)))) e := rfl
theorem eChain_e {g' : D → D → Option Opd} : eChain g g' fa fb fc e = (bnd (opn fa) fun x => bnd (opn fb) fun y => bnd (rsv x) fun dx => bnd (rsv y) fun dy => bnd (lift (g dx dy)) fun o => bnd (toB o) fun k =>
  if k = true then (bnd (opn fc) fun z => bnd (rsv y) fun dy2 => bnd (rsv z) fun dz => lift (g' dy2 dz)) else ret (.val (.bool false))) e := rfl
theorem sSeq_e {g1 g2 : PM Out} : sSeq g1 g2 e = bnd g1 (fun o => match o with | .next => g2 | o => ret o) e := rfl
theorem sRet_e : sRet fa e = bnd fa (fun o => ret (.ret o)) e := rfl
theorem sExpr_e : sExpr fa e = bnd fa (fun _ => ret .next) e := rfl
theorem sIf_e {g1 g2 : PM Out} : sIf ft g1 g2 e = bnd ft (fun k => if k = true then g1 else g2) e := rfl
theorem putS_e {s : SV} : putS i s e = .ok () (e.set i (some s)) := rfl
theorem asg_v : asg i (.val d) e = .ok () (e.set i (some (.im d))) := rfl
theorem asg_t : asg i (.tmp ds) e = .ok () (e.set i (some (.ls ds))) := rfl
theorem sSet_e : sSet i fa e = bnd fa (fun o => bnd (asg i o) fun _ => ret .next) e := rfl
theorem tgTup_e {n : Nat} {r : List D → PEnv → Option PEnv} : tgTup n r (.tuple ds) e = if ds.length = n then r ds e else none := rfl
theorem tgCons_e {s : D → PEnv → Option PEnv} {r : List D → PEnv → Option PEnv} : tgCons s r (d :: ds) e = (s d e).bind (r ds) := rfl
theorem tgNil_e : tgNil [] e = some e := rfl
theorem tgName_e : tgName i d e = some (e.set i (some (.im d))) := rfl
theorem sAsg_e {s : D → PEnv → Option PEnv} : sAsg s fa e = bnd (kept fa) (fun d env => match s d env with | some env' => .ok .next env' | none => .bad) e := rfl
theorem sFor_e {it : PM (List D)} {s : D → PEnv → Option PEnv} {body : PM Out} : sFor it s body e = bnd it (goFor s body) e := rfl
theorem eIter_e : eIter fa e = bnd (kept fa) (fun d => lift (itemsOf d)) e := rfl
theorem eEnum_e : eEnum fa e = bnd (eIter fa) (fun ds => ret (enumD ds)) e := rfl
theorem eRng1_e {fs : PM (List D)} : eRng1 fs e = bnd fs (fun ds => bnd (lift (int1 ds)) fun j => ret (rangeD 0 j.toNat)) e := rfl
theorem eRng2_e {fs : PM (List D)} : eRng2 fs e = bnd fs (fun ds => bnd (lift (int2 ds)) fun j => ret (rangeD j.1 (j.2 - j.1).toNat)) e := rfl
theorem eCallA_e {S : List D → FR} {fs : PM (List D)} : eCallA S fs e = bnd fs (fun ds => frOf (S ds)) e := rfl
theorem eCallK_e {is : List Nat} {S : List D → FR} {fs : PM (List D)} : eCallK is S fs e = bnd fs (fun ds => frOf (S (permV is ds))) e := rfl
theorem frOf_k : frOf (.ok o) e = .ok o e := rfl
theorem ite_ap {c : Prop} [Decidable c] {f g : PM α} : (if c then f else g) e = if c then f e else g e := by split <;> rfl
theorem mtc_out {o : Out} {g2 : PM Out} : (match o with | .next => g2 | o => ret o : PM Out) e = (match o with | .next => g2 e | o => .ok o e) := by cases o <;> rfl
end
end Pu
namespace Pu
open PySem PySem.Spec PyProof.Rows L2
def isIntD : D → Bool
  | .int _ => true
  | .bool _ => true
  | _ => false
def isBoolD : D → Bool
  | .bool _ => true
  | _ => false
def isTupD : D → Bool
  | .tuple _ => true
  | _ => false
def isStrD : D → Bool
  | .str _ => true
  | _ => false
theorem isi_int (d : D) : isiD "int" d = isIntD d := by cases d <;> (simp only [isiD, tyN, isIntD]; decide +kernel)
theorem isi_bool (d : D) : isiD "bool" d = isBoolD d := by cases d <;> (simp only [isiD, tyN, isBoolD]; decide +kernel)
theorem isi_tuple (d : D) : isiD "tuple" d = isTupD d := by cases d <;> (simp only [isiD, tyN, isTupD]; decide +kernel)
theorem isi_str (d : D) : isiD "str" d = isStrD d := by cases d <;> (simp only [isiD, tyN, isStrD]; decide +kernel)
end Pu
namespace Pu
open PySem PySem.Spec PyProof.Rows L2
theorem shaped_int (i : Int) : SeqAt.shaped (.int i) = true := rfl
theorem gEq_int {i j : Int} : gEq false (.int i) (.int j) = some (.val (.bool (i == j))) := by simp only [gEq, strPair, shaped_int, and_self, if_true, PyData.eqv, Bool.false_eq_true, if_false]
theorem gNe_int {i j : Int} : gEq true (.int i) (.int j) = some (.val (.bool (!(i == j)))) := by simp only [gEq, strPair, shaped_int, and_self, if_true, PyData.eqv]
theorem gLe_int {i j : Int} : gLe (.int i) (.int j) = some (.val (.bool (decide (i ≤ j)))) := rfl
theorem gLt_int {i j : Int} : gLt (.int i) (.int j) = some (.val (.bool (decide (i < j)))) := rfl
theorem gSub_int {i j : Int} : gSub (.int i) (.int j) = some (.val (.int (i - j))) := rfl
theorem gAdd_int {i j : Int} : gAdd (.int i) (.int j) = some (.val (.int (i + j))) := rfl
end Pu
namespace Pu
open PySem PySem.Spec PyProof.Rows L2
theorem sPar_e {i j : Nat} {fs : PM (List D)} {e : PEnv} : sPar i j fs e = bnd fs (fun ds => match ds with
  | [d, d'] => bnd (putS i (.im d)) fun _ => bnd (putS j (.im d')) fun _ => ret .next
  | _ => oops) e := rfl
theorem gEq_str {a b : Str} : gEq false (.str a) (.str b) = some (.val (.bool (decide (a = b)))) := by simp only [gEq, strPair, Bool.false_eq_true, if_false]
theorem gRepr_1 {d : D} (h : canShow d = true) : gRepr [d] = some (.val (.str d.shown)) := if_pos h
theorem sm_int {i : Int} (h : i.natAbs < 10 ^ 40) : Sm 0 0 (.int i) := by
  have h1 := int_text_length_le10 (a := i) (k := 98) (by decide) (Nat.lt_of_lt_of_le h (Nat.pow_le_pow_right (by decide) (by decide)))
  refine ⟨?_, ?_, ?_, ?_⟩
  · have h2 : i.natAbs.log2 < 1920 := by
      by_cases h0 : i.natAbs = 0
      · rw [h0]; decide
      · rw [Nat.log2_lt h0]
        exact Nat.lt_of_lt_of_le h (Nat.le_trans (by decide : 10 ^ 40 ≤ 2 ^ 200) (Nat.pow_le_pow_right (by decide) (by decide)))
    simp only [PyData.showable, h2, decide_true]
  · have h3 : (PyData.shown (.int i)).length ≤ 100 := by
      simp only [PyData.shown]
      have : (Str.ofString (toString i)).length = (toString i).length := PySem.ofString_length _
      omega
    simp only [PyData.leavesShort, h3, decide_true]
  · simp only [PyData.bulk]; omega
  · simp only [PyData.depth]; omega
theorem sm_none : Sm 0 0 .none := ⟨rfl, rfl, by decide, by decide⟩
theorem sm_bool {b : Bool} : Sm 0 0 (.bool b) := ⟨rfl, rfl, Nat.le_refl _, Nat.le_refl _⟩
end Pu
namespace Pu
open PySem PySem.Spec PyProof.Rows L2
theorem abAtE_e {i : Nat} {e : PEnv} : abAtE i e = (match e[i]? with | some (some (.ab t)) => .ok t e | _ => .bad) := rfl
theorem frB_k {i : Nat} {o : Opd} {t : Ab} {e : PEnv} : frB i (.ok o, t) e = .ok o (e.set i (some (.ab t))) := rfl
theorem eCallB_e {i : Nat} {F : Ab → List D → FR × Ab} {fs : PM (List D)} {e : PEnv} : eCallB i F fs e = bnd (abAtE i) (fun _ => bnd fs fun ds => bnd (abAtE i) fun t => frB i (F t ds)) e := rfl
theorem noExc_e {α : Type} {f : PM α} {e : PEnv} : noExc f e = (match f e with | .ok a e => .ok a e | _ => .bad) := rfl
theorem eDict1_e {z : Str} {f : PM Opd} {e : PEnv} : eDict1 z f e = bnd (noExc (kept f)) (fun d => ret (.val (.dict [(.str z, d)]))) e := rfl
theorem gNeg_int {i : Int} : gNeg (.int i) = some (.val (.int (-i))) := rfl
theorem gAdd_ll {xs ys : List D} (h : xs.length + ys.length ≤ bigLine) : gAdd (.list xs) (.list ys) = some (.tmp (xs ++ ys)) := if_pos h
theorem gAdd_tt {xs ys : List D} (h : xs.length + ys.length ≤ bigLine) : gAdd (.tuple xs) (.tuple ys) = some (.val (.tuple (xs ++ ys))) := if_pos h
theorem gPow_30 : gPow (.int 10) (.int 30) = some (.val (.int 1000000000000000000000000000000)) := rfl
theorem gIx_l {ds : List D} {i : Int} (h0 : 0 ≤ i) (h : i < ds.length) : ∃ d ∈ ds, gIx (.list ds) (.int i) = some (.val d) := by
  have hn : i.toNat < ds.length := by omega
  have e : ds[i.toNat]? = some ds[i.toNat] := List.getElem?_eq_getElem hn
  have e2 := atI_nat e
  rw [Int.toNat_of_nonneg h0] at e2
  refine ⟨ds[i.toNat], List.getElem_mem hn, ?_⟩
  simp only [gIx, e2, Option.map_some]
theorem gIx_t {ds : List D} {i : Int} (h0 : 0 ≤ i) (h : i < ds.length) : ∃ d ∈ ds, gIx (.tuple ds) (.int i) = some (.val d) := by
  have hn : i.toNat < ds.length := by omega
  have e : ds[i.toNat]? = some ds[i.toNat] := List.getElem?_eq_getElem hn
  have e2 := atI_nat e
  rw [Int.toNat_of_nonneg h0] at e2
  refine ⟨ds[i.toNat], List.getElem_mem hn, ?_⟩
  simp only [gIx, e2, Option.map_some]
end Pu
namespace Pu
open PySem PySem.Spec PyProof.Rows L2
theorem eLc_e {it : PM (List D)} {vs : List Nat} {s : D → PEnv → Option PEnv} {t : PM Bool} {f : PM Opd} {e : PEnv} : eLc it vs s t f e = bnd it (fun ds env => match goLc vs s t f ds [] (wipeE env vs) with
  | .ok acc env' => .ok (.tmp acc) (rst env env' vs)
  | _ => .bad) e := rfl
theorem gTuple_l {ds : List D} : gTuple [.list ds] = some (.val (.tuple ds)) := rfl
theorem gTuple_t {ds : List D} : gTuple [.tuple ds] = some (.val (.tuple ds)) := rfl
theorem gList_l {ds : List D} : gList [.list ds] = some (.tmp ds) := rfl
theorem gList_t {ds : List D} : gList [.tuple ds] = some (.tmp ds) := rfl
theorem int1_n {n : Nat} (h : n ≤ 1000) : int1 [.int (n : Nat)] = some (n : Int) := by
  have h2 : inLine (n : Int) = true := decide_eq_true (by omega)
  simp only [int1, h2, if_true]
end Pu
namespace Pu
open PySem PySem.Spec PyProof.Rows L2
theorem sPutAt_e {i : Nat} {fe fi : PM Opd} {e : PEnv} : sPutAt i fe fi e = bnd (kept fe) (fun d => bnd (lsAt i) fun _ => bnd (opn fi) fun o => bnd (rsv o) fun k => bnd (lsAt i) fun ds => match k with
  | .int z => match ixN ds.length z with
    | some j => bnd (putS i (.ls (ds.set j d))) fun _ => ret .next
    | none => oops
  | _ => oops) e := rfl
theorem lsAt_e {i : Nat} {e : PEnv} : lsAt i e = (match e[i]? with | some (some (.ls ds)) => .ok ds e | _ => .bad) := rfl
theorem ixN_ok {n : Nat} {z : Int} (h0 : 0 ≤ z) (h : z < n) : ixN n z = some z.toNat := by
  unfold ixN
  rw [if_pos h0, if_pos h]
theorem mem_cutD {ds : List D} {lo hi : Option Int} {d : D} (h : d ∈ cutD ds lo hi) : d ∈ ds := List.mem_of_mem_drop (List.mem_of_mem_take h)
theorem cutD_len {ds : List D} {lo hi : Option Int} : (cutD ds lo hi).length ≤ ds.length := by
  unfold cutD
  rw [List.length_take, List.length_drop]
  omega
theorem gSl_t {ds : List D} {lo hi : Option Int} : gSl (.tuple ds) lo hi = some (.val (.tuple (cutD ds lo hi))) := rfl
theorem bulkAll_len (ds : List D) : ds.length ≤ PyData.bulkAll ds := by
  induction ds with
  | nil => simp only [PyData.bulkAll, List.length_nil]; omega
  | cons d ds ih => simp only [PyData.bulkAll, List.length_cons]; omega
theorem sm_lines {n k : Nat} {d : D} (h : Sm n k d) : ∀ ts ls, d = .tuple [.tuple ts, .tuple ls] → ls.length ≤ n := by
  rintro ts ls rfl
  have h1 := h.bk
  have h2 := bulkAll_len ls
  simp only [PyData.bulk, PyData.bulkAll] at h1
  omega
end Pu

namespace Pu
open PySem PySem.Spec PyProof.Rows L2 PySem.W PySem.Calls
/-! ### sorted of lists and tuples of alike data -/
def sortOk (ds : List D) : Bool := ds.all (fun d => ds.all (fun d' => PySem.W.alike d d')) && (ds.all (fun d => match d with | .tuple (_ :: _) => true | _ => false) || ds.all (fun d => match d with | .none => false | .tuple _ => false | _ => true)) && ds.all (fun d => decide (d.depth ≤ 50)) && decide (ds.length ≤ bigLine)
theorem sortOk_alike {ds : List D} (h : sortOk ds = true) : AllAlike (ds.map fun d => d) := by
  simp only [sortOk, Bool.and_eq_true, List.all_eq_true] at h
  intro d hd d' hd'
  rw [List.map_id'] at hd hd'
  exact h.1.1.1 d hd d' hd'
theorem sortOk_sortable {ds : List D} (h : sortOk ds = true) : Sortable (ds.map fun d => d) := by
  simp only [sortOk, Bool.and_eq_true, Bool.or_eq_true, List.all_eq_true] at h
  rw [List.map_id']
  rcases h.1.1.2 with z | z
  · refine .inl fun d hd => ?_
    have y := z d hd
    split at y
    · exact ⟨_, _, rfl⟩
    · cases y
  · refine .inr fun d hd => ?_
    have y := z d hd
    constructor
    · rintro rfl; cases y
    · rintro xs rfl; cases y
theorem sortOk_depth {ds : List D} (h : sortOk ds = true) : ∀ d, d ∈ ds → d.depth ≤ 50 := by
  simp only [sortOk, Bool.and_eq_true, List.all_eq_true, decide_eq_true_eq] at h
  exact h.1.2
theorem sortOk_len {ds : List D} (h : sortOk ds = true) : ds.length ≤ bigLine := by
  simp only [sortOk, Bool.and_eq_true, List.all_eq_true, decide_eq_true_eq] at h
  exact h.2
/-- the items in order -/
def sortD (ds : List D) : List D := ds.mergeSort (dataLe false fun d => d)
def gSorted : List D → Option Opd
  | [.list ds] => if sortOk ds = true then some (.tmp (sortD ds)) else none
  | [.tuple ds] => if sortOk ds = true then some (.tmp (sortD ds)) else none
  | _ => none
section
variable {prog : Program} {w : World} {A : Around} {E : Value → Shared → Prop} {s : Shared}
theorem collect_tup {l : Addr} {vs : List Value} {Q : List Value → Shared → Prop} (hl : IsTup s.heap l vs.toArray)
    (h : Q vs { s with heap := (s.heap.push (seqObj "list" #[] 0)).update s.heap.objs.size (Obj.mapSeq (· ++ vs.toArray)) }) (hsz : vs.length ≤ sizeLine) :
    wpAny (model prog w) A (collect (.ref l)) Q E s := by
  obtain ⟨o, ho, hc, n, hd⟩ := id hl
  unfold collect
  refine wpAny_bind (wpAny_runValue (codeAny_builtin entry_proto_collect' ?_))
  show wpAny _ _ (do again (.builtin "list.__iadd__" ⟨[← newList [], .ref l], []⟩)) _ _ s
  refine wpAny_bind (wpAny_newList (wpAny_pure ⟨Code.quiet_builtin _ (by decide +kernel), codeAny_builtin entry_list_iadd' ?_⟩))
  show wpAny _ _ (Builtin.List.listExtendWith (.ref s.heap.objs.size) (.ref l) (.ref s.heap.objs.size)) _ _ { s with heap := s.heap.push (seqObj "list" #[] 0) }
  unfold Builtin.List.listExtendWith
  have ho' : (s.heap.push (seqObj "list" #[] 0)).get? l = some o := Heap.get?_push_of_some _ ho
  refine wpAny_bind (wpAny_typeOf (T := "tuple") ⟨o, ho', hc⟩ ?_)
  have ht : (Value.type "tuple" == Value.type "tuple") = true := by rfl
  rw [if_pos (by rw [ht]; simp)]
  refine wpAny_bind (listItems_at ho' hd ?_)
  refine wpAny_bind (listItems_at (xs := #[]) (n := 0) (Heap.get?_push_size _ rfl) rfl ?_)
  rw [if_neg (by simp)]
  refine wpAny_bind (listUpdate_at (xs := #[]) (n := 0) (Heap.get?_push_size _ rfl) rfl ?_ (Nat.zero_le _) (by show (#[] ++ vs.toArray).size ≤ sizeLine + 1; simp only [Array.size_append, List.size_toArray, List.length_nil]; omega))
  refine wpAny_pure ?_
  show wpAny (model prog w) A (do
      let o ← load s.heap.objs.size
      match o.data with
      | .seq xs _ => pure xs.toList
      | _ => unsupported "internal:collect") Q E { s with heap := (s.heap.push (seqObj "list" #[] 0)).update s.heap.objs.size (Obj.mapSeq (· ++ vs.toArray)) }
  refine wpAny_bind (wpAny_load (get?_update_seq (Heap.get?_push_size _ rfl) _) ?_)
  show wpAny _ _ (pure ((#[] : Array Value) ++ vs.toArray).toList) Q E _
  rw [show ((#[] : Array Value) ++ vs.toArray).toList = vs by simp]
  exact wpAny_pure h
theorem sorted_of_sort_tup {l : Addr} {vs : List Value} {kw : List (Str × Value)} {Q : Value → Shared → Prop} (hl : IsTup s.heap l vs.toArray) (hL : vs.length ≤ sizeLine) (ha1 : argsOk "sorted" ⟨[.ref l], kw⟩) (ha2 : ∀ x, argsOk "list.sort" ⟨[.ref x], kw⟩)
    (body : ∀ E' : Value → Shared → Prop, wpAny (model prog w) A.in1.in1 (Builtin.«list.sort» ⟨[.ref (s.heap.objs.size + 1)], kw⟩) (fun f s' => f = .done (.ret .none) ∧ Q (.ref (s.heap.objs.size + 1)) s') E' { s with heap := copyHeap s.heap vs }) :
    wpAny (model prog w) A (call (.builtin "sorted") [.ref l] kw) Q E s := by
  refine call_function_entry_kw kind_sorted plain_sorted entry_sorted ha1 ?_
  unfold Builtin.«sorted»
  refine wpAny_bind (m := checkCount "sorted" 1 1 _) (wpAny_pure ?_)
  refine wpAny_bind (collect_tup hl ?_ hL)
  refine wpAny_bind (wpAny_newList ?_ hL)
  have hsz : ((s.heap.push (seqObj "list" #[] 0)).update s.heap.objs.size (Obj.mapSeq (· ++ vs.toArray))).objs.size = s.heap.objs.size + 1 := by
    rw [Heap.size_update, size_push']
  show wpAny _ _ _ _ _ { s with heap := copyHeap s.heap vs }
  rw [hsz]
  refine wpAny_bind (wpAny_holding (wpAny_call_entry_kw slot_list_sort ⟨_, copyHeap_at s.heap vs, rfl⟩ entry_list_sort ?body (ha2 _)))
  case body =>
    show wpAny (model prog w) A.in1.in1 (Builtin.«list.sort» ⟨[.ref (s.heap.objs.size + 1)], kw⟩) _ _ _
    refine wpAny_mono (body _) (fun f s' hf => ?_) fun _ _ e => e
    obtain ⟨rfl, hq⟩ := hf
    exact ⟨_, rfl, wpAny_pure ⟨_, rfl, hq⟩⟩
theorem sorted_data_tup {β : Type} {vs : List Value} {bs : List β} {enc : β → PyData} {R : Value → β → Prop} {l : Addr} {Q : Value → Shared → Prop} (hl : IsTup s.heap l vs.toArray) (e : EachIs R vs bs) (er : EachIs (fun v b => ∃ as, Reads s.heap v (enc b) as) vs bs) (hal : AllAlike (bs.map enc)) (hk : Sortable (bs.map enc)) (hL : bs.length ≤ sizeLine)
    (hu : ∀ b, b ∈ bs → A.units + 2 + (enc b).depth < cLine) (h : ∀ out, out.length = bs.length → EachIs R out (bs.mergeSort (dataLe false enc)) → Q (.ref (s.heap.objs.size + 1)) { s with heap := sortedAll s.heap vs (List.toArray out) }) :
    wpAny (model prog w) A (call (.builtin "sorted") [.ref l]) Q E s := by
  have er' : EachIs (fun v b => ∃ as, Reads (sortingHeap (copyHeap s.heap vs) (s.heap.objs.size + 1) vs) v (enc b) as) vs bs := er.mono fun _ _ ⟨as, r⟩ => ⟨as, PyProof.Rows.Reads.keeps (fun _ _ => sorting_copy_old) r⟩
  have hL' : vs.length ≤ sizeLine := by rw [e.length]; exact hL
  have S := SortsAt.data (prog := prog) (w := w) (A := A.in1.in1) (s := { s with heap := sortingHeap (copyHeap s.heap vs) (s.heap.objs.size + 1) vs }) (each_map (R := fun v d => ∃ as, Reads (sortingHeap (copyHeap s.heap vs) (s.heap.objs.size + 1) vs) v d as) enc er') hal hk (bound_map hu)
  exact sorted_of_sort_tup hl hL' (args_sorted1 _) (fun _ => args_list_sort _) fun _ => list_sort_vals (s := { s with heap := copyHeap s.heap vs }) (copyHeap_at s.heap vs) S hL'
    ⟨rfl, h _ (by rw [sortVals_length false rfl]; exact e.length) (sortVals_data false e er' hal)⟩
end
theorem each_vals {K : Frag} {F : Hp} : ∀ {out : List Value} {ds : List D}, EachIs (fun v b => ∃ x, RelV x v ∧ Den K F b x) out ds → ∃ ys, Vals ys out ∧ Dens K F ds ys
  | _, _, .nil => ⟨[], .nil, by simp [Dens]⟩
  | _, _, .cons ⟨x, h1, h2⟩ t => by
    obtain ⟨ys, k1, k2⟩ := each_vals t
    refine ⟨x :: ys, .cons h1 k1, ?_⟩
    simp only [Dens]
    exact ⟨x, ys, rfl, h2, k2⟩
theorem vals_each {K : Frag} {F : Hp} : ∀ {xs : List V} {its : List Value} {ds : List D}, Vals xs its → Dens K F ds xs → EachIs (fun v b => ∃ x, RelV x v ∧ Den K F b x) its ds
  | _, _, [], r, h => by simp only [Dens] at h; subst h; cases r; exact .nil
  | _, _, d :: ds, r, h => by
    simp only [Dens] at h
    obtain ⟨v, vr, rfl, h1, h2⟩ := h
    cases r with
    | cons r1 r2 => exact .cons ⟨v, r1, h1⟩ (vals_each r2 h2)
section
variable {X : Cx}
theorem reads_each {pins : List (Addr × Obj)} {σ : L2.St} {H F : Hp} {s : Shared} (I : Inv X pins σ H s) (e : Ex F H) (sy : SyF F) : ∀ {xs : List V} {its : List Value} {ds : List D}, Vals xs its → Dens X.K F ds xs → EachIs (fun v b => ∃ as, Reads s.heap v b as) its ds
  | _, _, [], r, h => by simp only [Dens] at h; subst h; cases r; exact .nil
  | _, _, d :: ds, r, h => by
    simp only [Dens] at h
    obtain ⟨v, vr, rfl, h1, h2⟩ := h
    cases r with
    | cons r1 r2 =>
      obtain ⟨as, q, _⟩ := den_reads I e sy d v _ h1 r1
      exact .cons ⟨as, q⟩ (reads_each I e sy r2 h2)
def rSortedD (X : Cx) : List V → Hp → VK → Prop := fun xs H Q => ∃ F ds a ys, xs = [.ref a] ∧ Ex F H ∧ SyF F ∧ (SqL X.K H a ys ∨ SqT X.K H a ys) ∧ Dens X.K F ds ys ∧ sortOk ds = true ∧ ∀ p zs, H p = none → Dens X.K F (sortD ds) zs → Q (.ref p) (upd H p (.lst zs))
theorem call_sortedDD (hu : X.A.units + 64 < cLine) : CallR X (.builtin "sorted") (rSortedD X) := by
  intro pins s σ H xs us Q I r h
  obtain ⟨F, ds, a, ys, rfl, e, sy, hs, hd, ok, q⟩ := h
  rw [Vals.ref1 r]
  have hlen : ds.length ≤ sizeLine := big_le (sortOk_len ok)
  have hdep : ∀ b, b ∈ ds → X.A.units + 2 + b.depth < cLine := fun b hb => by
    have := sortOk_depth ok b hb
    omega
  have fin : ∀ (its out : List Value), out.length = ds.length → EachIs (fun v b => ∃ x, RelV x v ∧ Den X.K F b x) out (ds.mergeSort (dataLe false fun d => d)) → EP X pins σ Q (.ref (s.heap.objs.size + 1)) { s with heap := sortedAll s.heap its (List.toArray out) } := by
    intro its out ho eo
    obtain ⟨zs, k1, k2⟩ := each_vals eo
    obtain ⟨ep, he'⟩ := PyProof.Rows.sortedAll_at s.heap its out.toArray
    have hl : zs.length ≤ sizeLine := by rw [k1.length, ho]; exact hlen
    exact ⟨.ref _, upd H (s.heap.objs.size + 1) (.lst zs), I.laid (t' := s.toks) (fun _ _ => PyProof.Rows.sortedAll_old) (Nat.le_succ _) ⟨hl, out, ep, k1, he'⟩, rfl, q _ _ (I.hok.fresh (Nat.le_succ _)) k2⟩
  rcases hs with hs | hs
  · obtain ⟨its, rv, hl, hz⟩ := I.list hs
    exact sorted_data (enc := fun d => d) (R := fun v b => ∃ x, RelV x v ∧ Den X.K F b x) hl.isList (vals_each rv hd) (reads_each I e sy rv hd) (sortOk_alike ok) (sortOk_sortable ok) hlen hdep (fin its)
  · obtain ⟨its, rv, hl, hz⟩ := I.tuple hs
    exact sorted_data_tup (enc := fun d => d) (R := fun v b => ∃ x, RelV x v ∧ Den X.K F b x) hl (vals_each rv hd) (reads_each I e sy rv hd) (sortOk_alike ok) (sortOk_sortable ok) hlen hdep (fin its)
theorem bi_sorted (hu : X.A.units + 64 < cLine) : Bi X (.builtin "sorted") gSorted := by
  refine ⟨_, call_sortedDD hu, fun F H xs ds o Q e sy hx hg q => ?_⟩
  unfold gSorted at hg
  split at hg
  · split at hg
    · rename_i l hc
      cases hg
      obtain ⟨v, rfl, h1⟩ := bdens1 hx
      obtain ⟨a, ys, rfl, k1, k2⟩ := bd_list h1
      exact ⟨F, l, a, ys, rfl, e, sy, .inl (.inl (.inl k1)), k2, hc, fun p zs hp hz => q _ _ (.lst hp hz)⟩
    · cases hg
  · split at hg
    · rename_i l hc
      cases hg
      obtain ⟨v, rfl, h1⟩ := bdens1 hx
      obtain ⟨a, ys, rfl, k1, k2⟩ := bd_tup h1
      exact ⟨F, l, a, ys, rfl, e, sy, .inr (ex_t e k1), k2, hc, fun p zs hp hz => q _ _ (.lst hp hz)⟩
    · cases hg
  · cases hg
end
end Pu

namespace Pu
open PySem PySem.Spec PyProof.Rows L2
/-! ### x in xs, x not in xs: lists and tuples of data without dicts -/
def inOk (x : D) (ds : List D) : Bool := x.canLay0 && PyData.canLayAll0 ds && decide (x.depth ≤ 50)
def anyD (x : D) (ds : List D) : Bool := ds.any fun z => PyData.eqv z x
def gIn (neg : Bool) (x : D) : D → Option Opd
  | .list ds => if inOk x ds = true then some (.val (.bool (if neg = true then !anyD x ds else anyD x ds))) else none
  | .tuple ds => if inOk x ds = true then some (.val (.bool (if neg = true then !anyD x ds else anyD x ds))) else none
  | _ => none
section
variable {X : Cx}
theorem den_bl' {K : PySem.W.Frag} {F : Hp} {b : Bool} : Den K F (.bool b) (.bl b) := by simp only [Den]
def rInQ (K : PySem.W.Frag) (neg : Bool) : R2 := fun x y H Q => ∃ d ds, Dp K H x d ∧ (Dp K H y (.list ds) ∨ Dp K H y (.tuple ds)) ∧ inOk d ds = true ∧ Q (.bl (if neg = true then !anyD d ds else anyD d ds)) H
theorem op_inQ (hu : X.A.units + 64 < cLine) : OpR X (compareOp .In) (rInQ X.K false) := by
  intro pins s σ H x y v u Q I rx ry h
  obtain ⟨d, ds, hd, he, ok, q⟩ := h
  simp only [inOk, Bool.and_eq_true, decide_eq_true_eq] at ok
  obtain ⟨as, r1⟩ := Dp.reads I d x v hd rx
  have room : X.A.units + 1 + min (PyData.depthAll ds) d.depth < cLine := by
    have := Nat.min_le_right (PyData.depthAll ds) d.depth
    omega
  rcases he with he | he
  · obtain ⟨bs, r2⟩ := Dp.reads I (.list ds) y u he ry
    exact SeqAt.in_list_reads r2 r1 ok.1.2 ok.1.1 room ⟨.bl _, H, I, rfl, q⟩
  · obtain ⟨bs, r2⟩ := Dp.reads I (.tuple ds) y u he ry
    exact SeqAt.in_tuple_reads r2 r1 ok.1.2 ok.1.1 room ⟨.bl _, H, I, rfl, q⟩
theorem op_notInQ (hu : X.A.units + 64 < cLine) : OpR X (compareOp .NotIn) (rInQ X.K true) := by
  intro pins s σ H x y v u Q I rx ry h
  obtain ⟨d, ds, hd, he, ok, q⟩ := h
  simp only [inOk, Bool.and_eq_true, decide_eq_true_eq] at ok
  obtain ⟨as, r1⟩ := Dp.reads I d x v hd rx
  have room : X.A.units + 1 + min (PyData.depthAll ds) d.depth < cLine := by
    have := Nat.min_le_right (PyData.depthAll ds) d.depth
    omega
  rcases he with he | he
  · obtain ⟨bs, r2⟩ := Dp.reads I (.list ds) y u he ry
    exact SeqAt.notIn_list_reads r2 r1 ok.1.2 ok.1.1 room ⟨.bl _, H, I, rfl, q⟩
  · obtain ⟨bs, r2⟩ := Dp.reads I (.tuple ds) y u he ry
    exact SeqAt.notIn_tuple_reads r2 r1 ok.1.2 ok.1.1 room ⟨.bl _, H, I, rfl, q⟩
theorem in_dps {K : PySem.W.Frag} {F H : Hp} {dx dy : D} {x y : V} {neg : Bool} {o : Opd} {Q : VK} (e : Ex F H) (hx : BDen K F H dx x) (hy : BDen K F H dy y) (hg : gIn neg dx dy = some o) (q : ∀ v H', Got K F H o v H' → Q v H') : rInQ K neg x y H Q := by
  have lay : ∀ {ds}, inOk dx ds = true → dx.canLay0 = true ∧ PyData.canLayAll0 ds = true := fun h => by
    simp only [inOk, Bool.and_eq_true] at h
    exact h.1
  cases dy with
  | list ds =>
    simp only [gIn] at hg
    split at hg
    · rename_i ok
      cases hg
      exact ⟨dx, ds, bden_dp e (lay ok).1 hx, .inl (bden_dp e (by simpa [PyData.canLay0] using (lay ok).2) hy), ok, q _ _ (.same den_bl')⟩
    · cases hg
  | tuple ds =>
    simp only [gIn] at hg
    split at hg
    · rename_i ok
      cases hg
      exact ⟨dx, ds, bden_dp e (lay ok).1 hx, .inr (bden_dp e (by simpa [PyData.canLay0] using (lay ok).2) hy), ok, q _ _ (.same den_bl')⟩
    · cases hg
  | _ => cases hg
theorem o2_in (hu : X.A.units + 64 < cLine) : Op2 X (compareOp .In) (gIn false) :=
  ⟨_, op_inQ hu, fun F H x y dx dy o Q e hx hy hg q => in_dps e hx hy hg q⟩
theorem o2_notIn (hu : X.A.units + 64 < cLine) : Op2 X (compareOp .NotIn) (gIn true) :=
  ⟨_, op_notInQ hu, fun F H x y dx dy o Q e hx hy hg q => in_dps e hx hy hg q⟩
end
end Pu

namespace Pu
open PySem PySem.Spec PyProof.Rows L2
/-! ### own exceptions, told by the names of their classes -/
abbrev Wc (cv : Value → Value) (W : WX) : WX := fun c d σ H => W (cv c) d σ H
def cvOf (l : List (String × Addr)) : Value → Value
  | .type s => match l.lookup s with
    | some a => .ref a
    | none => .type s
  | v => v
def exn0 (c : String) : Exn := ⟨.type c, none⟩
def sRaise0 (c : String) : PM Out := fun env => .exc (exn0 c) env
def mtch (l : List (String × Bool)) : Value → Option Bool
  | .type s => l.lookup s
  | _ => none
/-- try: g except (what m takes): h -/
def sTry (m : Value → Option Bool) (g h : PM Out) : PM Out := fun env => match g env with
  | .ok o e => .ok o e
  | .exc x e => match m x.cls with
    | some true => noExc h e
    | some false => .exc x e
    | none => .bad
  | .bad => .bad
def MtOk (K : PySem.W.Frag) (cv : Value → Value) (m : Value → Option Bool) (C : Value) : Prop := ∀ v b, m v = some b → PySem.W.exmOne K (cv v) C = some b
theorem mtch_ok {K : PySem.W.Frag} {cv : Value → Value} {C : Value} {l : List (String × Bool)} (h : ∀ p ∈ l, PySem.W.exmOne K (cv (.type p.1)) C = some p.2) : MtOk K cv (mtch l) C := by
  intro v b e
  unfold mtch at e
  split at e
  · rename_i s
    induction l with
    | nil => cases e
    | cons p l ih =>
      obtain ⟨k, c⟩ := p
      rw [List.lookup_cons] at e
      split at e
      · rename_i hk
        cases e
        have hk' : s = k := by simpa using hk
        subst hk'
        exact h _ List.mem_cons_self
      · exact ih (fun p hp => h p (List.mem_cons_of_mem _ hp)) e
  · cases e
section
variable {X : Cx} {C : Addr} {bmB : List Value} {B newId initId : String}
/-- X() -/
theorem pmk_own0 {x : Str} {p pos : Pos} (F : ExcBaseFacts B newId initId bmB) (q : PySem.W.excIn X.K C bmB newId = true) (gC : X.mg x = some (.ref C)) (kC : PySem.W.keepIn X.K (.ref C) = true) (r : Raises X (.ref C)) (hg : Gl X x)
    (hdb : (x == ("__debug__" : Str)) = false := by decide) : PMk X (.Call (.Name x p) [] [] pos) (fun _ H Q => Q (.ref C) none H) := by
  intro pins s σ H Q I h
  refine wpAny_Call_Name_kw (ld_glob I hg gC ?_ hdb)
  refine PySem.W.callWith_K0 I.kIn kC ?_
  show wpAny _ _ (call (.ref C) []) _ _ _
  obtain ⟨bm, N, nm, qn, bs, hdct, sn, sub, ab, col, dd, k0, k1, k2, k3, k5, mN, hC, hN, hni, T⟩ := exc_obj I.kIn q
  refine wpAny_call_exc_subT F T hC hN hni (fun h' e hm => ?_) (by show 0 ≤ sizeLine; rw [sizeLine_eq]; omega)
  exact mk_of I hm r h (I.hok.gone hm.new)
variable {bo : List Nat} {W : WX} {cv : Value → Value}
theorem psx_raise0 {c : String} {x : Str} {p pos pos' : Pos} (tk : Takes X W) (hc : X.calm = true) (q : PySem.W.excIn X.K C HandSPX.veTail "ValueError.__new__" = true) (gC : X.mg x = some (.ref C)) (kC : PySem.W.keepIn X.K (.ref C) = true)
    (h1 : PySem.W.subIn X.K (.ref C) (.type "BaseException") = some true) (h2 : PySem.W.typeIn X.K (.ref C) = some (.type "type")) (hcv : cv (.type c) = .ref C) (hg : Gl X x := by rfl) (hdb : (x == ("__debug__" : Str)) = false := by decide) :
    PSX X bo (Wc cv W) (.Raise (some (.Call (.Name x p) [] [] pos)) none pos') (sRaise0 c) := by
  refine ⟨_, ps_raise hc tk (pmk_own0 PySem.F.excBase_ValueError q gC kC (raises_own h1 h2) hg hdb), fun cc fp F env σ H D hcc R g => ?_⟩
  have g' : Wc cv W (Value.type c) none σ H := g fp F σ H none R (Ex.refl F) rfl
  unfold Wc at g'
  rw [hcv] at g'
  exact g'
end
section
variable {X : Cx} {bo : List Nat} {W : WX} {cv : Value → Value} {c : Value} {x : Str} {body suite : List Stmt} {b₀ : Stmt} {np pos pos' : Pos} {m : Value → Option Bool} {g h : PM Out}
theorem psx_try (tk : Takes X W) (hc : Names X x c) (hm : MtOk X.K cv m c)
    (hb : ∀ (W' : WX) (pn : List (Addr × Obj)) (xe : Value → Shared → Prop), Takes (X.tr pn xe) W' → PassesOwn (model X.prog X.w) X.A X.env xe → PSsX (X.tr pn xe) bo (Wc cv W') body g)
    (hsu : ∀ (a : Addr) (pn : List (Addr × Obj)), PSsX (X.suite a pn) bo W0 (b₀ :: suite) h)
    (hs : X.stack = X.env :: X.outer := by rfl) (hf : X.env.frame = some X.env.locals := by rfl) :
    PSX X bo (Wc cv W) (.Try body [.ExceptHandler (some (.Name x np)) none (b₀ :: suite) pos'] [] [] pos) (sTry m g h) := by
  refine ⟨_, ps_try_only (tb := fun W' => semS X.K bo (Wc cv W') g) (ts := fun a cls d => semS X.K bo W0 h) hs hf hc tk (fun W' pn xe tk' po => pssx_sem (hb W' pn xe tk' po)) (fun a oe cls d pn _ _ => pssx_sem (hsu a ((a, oe) :: pn))), fun cc fp F env σ H D hcc R gg => ?_⟩
  refine ⟨cc, fp, F, env, hcc, R, ?_⟩
  unfold sTry at gg
  cases eg : g env with
  | bad => rw [eg] at gg; exact gg.elim
  | ok o e => rw [eg] at gg; exact gg
  | exc z e =>
    rw [eg] at gg
    simp only at gg
    intro fp' F' σ' H' d R' e' hx
    show wOnly X.K c _ W D (cv z.cls) d σ' H'
    cases em : m z.cls with
    | none => rw [em] at gg; exact gg.elim
    | some b =>
      refine ⟨b, hm _ _ em, fun hb1 a ha => ?_, fun hb0 => ?_⟩
      · subst hb1
        rw [em] at gg
        refine ⟨cc, fp', F', e, hcc, R', ?_⟩
        simp only [noExc] at gg
        cases eh : h e with
        | ok o2 e2 =>
          rw [eh] at gg
          exact GoesS.mono gg e'
        | exc z2 e2 => rw [eh] at gg; exact gg.elim
        | bad => rw [eh] at gg; exact gg.elim
      · subst hb0
        rw [em] at gg
        exact gg fp' F' σ' H' d R' e' hx
end
/-! ### defs that may raise; defs that let nothing out -/
def SpX (cv : Value → Value) (K : PySem.W.Frag) (n : Nat) (S : List D → FR) : Sp := fun vs H Q E => SpA K n S vs H Q fun c d H' => E (cv c) d H'
def noX : FR → FR
  | .exc _ => .bad
  | r => r
section
variable {P : Program} {w : World} {K : PySem.W.Frag} {mg : Str → Option Value} {base : Heap} {CX : CXT} {k : Nat} {f : Addr} {fd : FuncData} {ps N : List Str} {x qual : Str} {st : Stmt} {cv : Value → Value}
abbrev CtxX (P : Program) (w : World) (K : PySem.W.Frag) (mg : Str → Option Value) (base : Heap) (N : List Str) (qual : Str) (st : Stmt) (f : Addr) (cdv : Value) (A : Around) (outer : List Env) (s : Shared) (H : Hp) (E : XK) : Cx :=
  cxOf (L2.CX P w) P w K mg base N qual (defScope st) f cdv A outer s H E
theorem fnX_of {n m : Nat} {g : PM Out} (F : Fun K x qual st f fd) (S : FnScope N ps (defScope st)) (hn : ps.length = n) (hm : N.length = m)
    (hder : ∀ (cdv : Value) (A : Around) (outer : List Env) (s : Shared) (H : Hp) (E : XK), Room k (A.deeper (envOfC qual (defScope st) s.heap.objs.size f cdv)) → A.guards = some [] → PSsX (CtxX P w K mg base N qual st f cdv A outer s H E) [] (Wc cv (WD E)) (defBody st) g) :
    FnG P w K mg base (L2.CX P w) (k + 1) f fd ps (SpX cv K n (runA m g)) := by
  subst hn hm
  refine fng_of F S ?_ ?_
  · rintro vs H Q E ⟨F, ds, _, _, h, _⟩
    exact h
  · rintro cdv A outer s H vs Q E hr hgu ⟨F0, ds, e, sy, hl, hd, h⟩
    obtain ⟨t, h1, h2⟩ := hder cdv A outer s H E hr hgu
    refine ⟨t, h1, ?_⟩
    have hN : vs.length ≤ N.length := by
      rw [hl]
      have := congrArg List.length S.pre
      rw [List.length_take] at this
      omega
    exact h2 (ctA F0 H) _ F0 _ _ H _ (fun q hq => by cases hq) (rel_startA e sy hd hN) (spA_body (E := fun c d H' => E (cv c) d H') e hd hN h)
/-- a def of data with a try, that lets nothing out -/
theorem fnT_of {n m : Nat} {g : PM Out} (F : Fun K x qual st f fd) (S : FnScope N ps (defScope st)) (hn : ps.length = n) (hm : N.length = m)
    (hder : ∀ (cdv : Value) (A : Around) (outer : List Env) (s : Shared) (H : Hp) (E : XK), Room k (A.deeper (envOfC qual (defScope st) s.heap.objs.size f cdv)) → A.guards = some [] → PSsX (Ctx0 P w K mg base N qual st f cdv A outer s H E) [] (Wc cv W0) (defBody st) g) :
    FnG P w K mg base CX0 (k + 1) f fd ps (SpA K n fun ds => noX (runA m g ds)) := by
  subst hn hm
  refine fng_of F S ?_ ?_
  · rintro vs H Q E ⟨F, ds, _, _, h, _⟩
    exact h
  · rintro cdv A outer s H vs Q E hr hgu ⟨F0, ds, e, sy, hl, hd, h⟩
    obtain ⟨t, h1, h2⟩ := hder cdv A outer s H E hr hgu
    refine ⟨t, h1.nox, ?_⟩
    have hN : vs.length ≤ N.length := by
      rw [hl]
      have := congrArg List.length S.pre
      rw [List.length_take] at this
      omega
    refine h2 (ctA F0 H) _ F0 _ _ H _ (fun q hq => by cases hq) (rel_startA e sy hd hN) ?_
    have h' : match runA N.length g ds with
      | .ok r => ∀ F' H' v, Grown F0 H F' H' → Ex H H' → RetOk K F' H H' r v → Q v H'
      | .exc x => ∀ F' H' d, Grown F0 H F' H' → Ex H H' → ExnOk K F' H' x d → (fun (c : Value) (d : Option Addr) (H' : Hp) => False) x.cls d H'
      | .bad => False := by
      have h2 := h
      simp only at h2
      cases e1 : runA N.length g ds with
      | ok r => rw [e1] at h2; exact h2
      | exc x => rw [e1] at h2; exact (show False from h2).elim
      | bad => rw [e1] at h2; exact h2
    exact spA_body (E := fun _ _ _ => False) e hd hN h'
end
section
variable {X : Cx} {bo : List Nat} {W : WX} {cv : Value → Value} {e : Expr} {es : List Expr} {pos p : Pos} {x : Str} {CX : CXT} {k n : Nat} {f : Addr} {fd : FuncData} {ps : List Str}
theorem px_callX {S : List D → FR} {fs : PM (List D)} (F : FnG X.prog X.w X.K X.mg X.base CX k f fd ps (SpX cv X.K n S)) (hr : Room k X.A) (hgu : X.A.guards = some []) (hm : X.mg x = some (.ref f)) (hk : PySem.W.keepIn X.K (.ref f) = true) (hb : Binds X.K fd ps []) (hx : ∀ σ, PassesAt CX X σ (WE W σ))
    (ha : PAF X bo (Wc cv W) (e :: es) fs) (hg : Gl X x := by rfl) (hn : (e :: es).length = n := by rfl) (hdb : (x == ("__debug__" : Str)) = false := by decide) (he : starEach (e :: es) X.env = (false, eval e X.env) :: starEach es X.env := by rfl) (hpl : (backTo pos (starEach es X.env)).any (·.1) = false := by rfl) :
    PX X bo (Wc cv W) (.Call (.Name x p) (e :: es) [] pos) (eCallA S fs) := by
  obtain ⟨t, h1, h2⟩ := ha
  refine ⟨_, pe_g F hr hgu hg hm hk hb hx h1 hdb he hpl, fun c fp F0 env σ H Q hc R g => ?_⟩
  exact h2 c fp F0 env σ H _ hc R ((Goes.bnd g).mono (Ex.refl F0) fun fp1 F1 env1 H1 ds e1 R1 g1 vs hl hd => rd_callA (W := Wc cv W) R1 (hl.trans hn) hd g1)
theorem px_callXK {S : List D → FR} {ks : List Str} {is : List Nat} {kws : List Keyword} {fs : PM (List D)} (F : FnG X.prog X.w X.K X.mg X.base CX k f fd ps (SpX cv X.K n S)) (hr : Room k X.A) (hgu : X.A.guards = some []) (hm : X.mg x = some (.ref f)) (hk : PySem.W.keepIn X.K (.ref f) = true) (hx : ∀ σ, PassesAt CX X σ (WE W σ))
    (hb : KwBinds fd ps ks is) (ha : PKF X bo (Wc cv W) kws fs) (hlen : kws.length = ks.length := by rfl) (his : ∀ i ∈ is, i < ks.length := by decide) (hn : is.length = n := by rfl) (hg : Gl X x := by rfl) (hall : (backToKw pos (keywordEach kws X.env)).all (·.1.isSome) = true := by rfl) (hks : (backToKw pos (keywordEach kws X.env)).filterMap (·.1) = ks := by rfl)
    (hdb : (x == ("__debug__" : Str)) = false := by decide) (hpl : ((backTo pos (starEach [] X.env)).any (·.1) || (backToKw pos (keywordEach kws X.env)).any (·.1.isNone)) = false := by rfl) :
    PX X bo (Wc cv W) (.Call (.Name x p) [] kws pos) (eCallK is S fs) := by
  obtain ⟨t, h1, h2⟩ := ha
  refine ⟨fun σ H Q => t σ H fun vs H1 => vs.length = ks.length ∧ SpX cv X.K n S (permV is vs) H1 Q (WE W σ), ⟨?_⟩, fun c fp F0 env σ H Q hc R g => ?_⟩
  · intro pins s σ H Q I h
    refine wpAny_Call_Name_kw (ld_glob I hg hm ?_ hdb)
    refine PySem.W.callWith_KW0 (h₀ := X.base) I.ok.mod.kin hk hall (thn (h1.run pos pins s σ H _ I h) ?_) hpl
    rintro ws s1 ⟨vs, H1, I1, r, hl, q⟩
    refine ⟨I1.kIn, ?_⟩
    rw [hks]
    exact run_g F hr hgu (hb s1 ws (by rw [← r.length]; exact hl)) (hx σ) I1 (perm_vals r fun i hi => by rw [hl]; exact his i hi) q
  · refine h2 c fp F0 env σ H _ hc R ((Goes.bnd g).mono (Ex.refl F0) fun fp1 F1 env1 H1 ds e1 R1 g1 vs hl hd => ⟨hl.trans hlen, ?_⟩)
    obtain ⟨z1, z2⟩ := perm_dens (is := is) hd fun i hi => by rw [hl.trans hlen]; exact his i hi
    exact rd_callA (W := Wc cv W) R1 (z2.trans hn) z1 g1
end
end Pu
namespace Pu
open PySem PySem.Spec PyProof.Rows L2
theorem exm_by {K : PySem.W.Frag} {C S : Addr} {b : Bool} (h1 : PySem.W.subIn K (.ref S) (.type "BaseException") = some true) (h2 : PySem.W.isClsIn K S = true) (h3 : PySem.W.typeIn K (.ref S) = some (.type "type")) (h4 : PySem.W.subIn K (.ref C) (.ref S) = some b) :
    PySem.W.exmOne K (.ref C) (.ref S) = some b := by
  have e1 : (PySem.W.subIn K (.ref S) (.type "BaseException") == some true) = true := by rw [h1] <;> rfl
  have e2 : ((PySem.W.clsIn K S).isSome && PySem.W.typeIn K (.ref S) == some (.type "type")) = true := by
    have h2' : (PySem.W.clsIn K S).isSome = true := h2
    rw [h2', h3] <;> rfl
  show (if (PySem.W.subIn K (.ref S) (.type "BaseException") == some true) = true then (if ((PySem.W.clsIn K S).isSome && PySem.W.typeIn K (.ref S) == some (.type "type")) = true then PySem.W.subIn K (.ref C) (.ref S) else none) else none) = some b
  rw [if_pos e1, if_pos e2]
  exact h4
theorem bt_sorted : bootBuiltins "sorted" = some (.builtin "sorted") := by decide +kernel
end Pu

namespace Pu
open PySem PySem.Spec PyProof.Rows L2
/-! ### list(range(..)), tuple(range(..)) -/
theorem dens_rg {K : PySem.W.Frag} {F : Hp} (a : Int) (n : Nat) : Dens K F (rangeD a n) ((List.range n).map fun i => V.int (a + (i : Nat))) := by
  have h : ∀ l : List Nat, Dens K F (l.map fun i => .int (a + (i : Nat))) (l.map fun i => V.int (a + (i : Nat))) := by
    intro l
    induction l with
    | nil => simp [Dens]
    | cons x l ih =>
      simp only [List.map_cons, Dens]
      exact ⟨_, _, rfl, den_int, ih⟩
  exact h _
def rgLen (a b : Int) : Option (Int × Nat) := if inLine a = true ∧ inLine b = true ∧ (b - a).toNat ≤ 1000000 then some (a, (b - a).toNat) else none
theorem rgLen_ok {a b : Int} {p : Int × Nat} (h : rgLen a b = some p) : p = (a, (b - a).toNat) ∧ RgOk a b := by
  unfold rgLen at h
  split at h
  · rename_i hh
    obtain ⟨h1, h2, h3⟩ := hh
    have q1 := inLine_ok h1
    have q2 := inLine_ok h2
    refine ⟨(Option.some.inj h).symm, q1.1, q1.2, q2.1, q2.2, ?_⟩
    omega
  · cases h
def rg1 : D → Option (Int × Nat)
  | .int i => rgLen 0 i
  | _ => none
def rg2 : D → D → Option (Int × Nat)
  | .int i, .int j => rgLen i j
  | _, _ => none
def eLrg1 (f : PM Opd) : PM Opd := bnd (kept f) fun d => bnd (lift (rg1 d)) fun p => ret (.tmp (rangeD p.1 p.2))
def eLrg2 (f g : PM Opd) : PM Opd := bnd (kept f) fun d => bnd (kept g) fun d' => bnd (lift (rg2 d d')) fun p => ret (.tmp (rangeD p.1 p.2))
def eTrg1 (f : PM Opd) : PM Opd := bnd (kept f) fun d => bnd (lift (rg1 d)) fun p => ret (.val (.tuple (rangeD p.1 p.2)))
section
variable {X : Cx} {bo : List Nat} {W : WX} {a b : Expr} {pos p pos2 p2 : Pos}
theorem px_lrg1 {f : PM Opd} (hc : X.calm = true) (hml : X.mg "list" = none) (hmr : X.mg "range" = none) (ha : PX X bo W a f) (hgl : Gl X "list" := by rfl) (hgr : Gl X "range" := by rfl)
    (na : starEach [a] X.env = (false, eval a X.env) :: starEach [] X.env := by rfl)
    (nl : starEach [.Call (.Name "range" p2) [a] [] pos2] X.env = (false, eval (.Call (.Name "range" p2) [a] [] pos2) X.env) :: starEach [] X.env := by rfl) :
    PX X bo W (.Call (.Name "list" p) [.Call (.Name "range" p2) [a] [] pos2] [] pos) (eLrg1 f) := by
  obtain ⟨t, a1, a2⟩ := ha
  refine ⟨_, pe_listRg hc hgl hml (prg_1 hgr hmr a1 na) nl, fun c fp F env σ H Q hcc R g => ?_⟩
  unfold eLrg1 at g
  rw [kept_bnd] at g
  refine a2 c fp F env σ H _ hcc R ((Goes.bnd g).mono (Ex.refl F) fun fp1 F1 env1 H1 o e1 R1 g1 v hv => ?_)
  obtain ⟨d, fp2, F2, env2, R2, e2, hd, g2⟩ := frz_ok R1 hv g1
  obtain ⟨q, hq, g3⟩ := goes_lift_bnd g2
  cases d with
  | int i =>
    obtain ⟨rfl, ok⟩ := rgLen_ok (show rgLen 0 i = some q from hq)
    have hv' : v = .int i := by simpa only [Den] using hd
    refine ⟨i, hv', ok, fun r hr => ?_⟩
    obtain ⟨F3, R3, e3, k3⟩ := R2.got (Got.lst (K := X.K) (ds := rangeD 0 (i - 0).toNat) (xs := rgV 0 i) hr (dens_rg 0 _))
    exact g3 fp2 F3 _ R3 (e2.trans e3) _ k3
  | _ => cases hq
theorem px_lrg2 {f g : PM Opd} (hc : X.calm = true) (hml : X.mg "list" = none) (hmr : X.mg "range" = none) (ha : PX X bo W a f) (hb : PX X bo W b g) (hgl : Gl X "list" := by rfl) (hgr : Gl X "range" := by rfl)
    (na : starEach [a, b] X.env = (false, eval a X.env) :: starEach [b] X.env := by rfl) (nb : starEach [b] X.env = (false, eval b X.env) :: starEach [] X.env := by rfl) (hp : (backTo pos2 (starEach [b] X.env)).any (·.1) = false := by rfl)
    (nl : starEach [.Call (.Name "range" p2) [a, b] [] pos2] X.env = (false, eval (.Call (.Name "range" p2) [a, b] [] pos2) X.env) :: starEach [] X.env := by rfl) :
    PX X bo W (.Call (.Name "list" p) [.Call (.Name "range" p2) [a, b] [] pos2] [] pos) (eLrg2 f g) := by
  obtain ⟨t, a1, a2⟩ := ha
  obtain ⟨u, b1, b2⟩ := hb
  refine ⟨_, pe_listRg hc hgl hml (prg_2 hgr hmr a1 b1 na nb hp) nl, fun c fp F env σ H Q hcc R gg => ?_⟩
  unfold eLrg2 at gg
  rw [kept_bnd] at gg
  refine a2 c fp F env σ H _ hcc R ((Goes.bnd gg).mono (Ex.refl F) fun fp1 F1 env1 H1 o e1 R1 g1 v hv => ?_)
  obtain ⟨d, fp2, F2, env2, R2, e2, hd, g2⟩ := frz_ok R1 hv g1
  rw [kept_bnd] at g2
  refine b2 c fp2 F2 env2 σ H1 _ hcc R2 ((Goes.bnd g2).mono e2 fun fp3 F3 env3 H3 o' e3 R3 g3 v' hv' => ?_)
  obtain ⟨d', fp4, F4, env4, R4, e4, hd', g4⟩ := frz_ok R3 hv' g3
  obtain ⟨q, hq, g5⟩ := goes_lift_bnd g4
  cases d with
  | int i =>
    cases d' with
    | int j =>
      obtain ⟨rfl, ok⟩ := rgLen_ok (show rgLen i j = some q from hq)
      have hv1 : v = .int i := by simpa only [Den] using hd
      have hv2 : v' = .int j := by simpa only [Den] using hd'
      refine ⟨i, j, hv1, hv2, ok, fun r hr => ?_⟩
      obtain ⟨F5, R5, e5, k5⟩ := R4.got (Got.lst (K := X.K) (ds := rangeD i (j - i).toNat) (xs := rgV i j) hr (dens_rg i _))
      exact g5 fp4 F5 _ R5 (e4.trans e5) _ k5
    | _ => cases hq
  | _ => cases hq
theorem px_trg1 {f : PM Opd} (hc : X.calm = true) (hml : X.mg "tuple" = none) (hmr : X.mg "range" = none) (ha : PX X bo W a f) (hgl : Gl X "tuple" := by rfl) (hgr : Gl X "range" := by rfl)
    (na : starEach [a] X.env = (false, eval a X.env) :: starEach [] X.env := by rfl)
    (nl : starEach [.Call (.Name "range" p2) [a] [] pos2] X.env = (false, eval (.Call (.Name "range" p2) [a] [] pos2) X.env) :: starEach [] X.env := by rfl) :
    PX X bo W (.Call (.Name "tuple" p) [.Call (.Name "range" p2) [a] [] pos2] [] pos) (eTrg1 f) := by
  obtain ⟨t, a1, a2⟩ := ha
  refine ⟨_, pe_tupRg hc hgl hml (prg_1 hgr hmr a1 na) nl, fun c fp F env σ H Q hcc R g => ?_⟩
  unfold eTrg1 at g
  rw [kept_bnd] at g
  refine a2 c fp F env σ H _ hcc R ((Goes.bnd g).mono (Ex.refl F) fun fp1 F1 env1 H1 o e1 R1 g1 v hv => ?_)
  obtain ⟨d, fp2, F2, env2, R2, e2, hd, g2⟩ := frz_ok R1 hv g1
  obtain ⟨q, hq, g3⟩ := goes_lift_bnd g2
  cases d with
  | int i =>
    obtain ⟨rfl, ok⟩ := rgLen_ok (show rgLen 0 i = some q from hq)
    have hv' : v = .int i := by simpa only [Den] using hd
    refine ⟨i, hv', ok, fun r hr => ?_⟩
    obtain ⟨F3, R3, e3, k3⟩ := R2.got (Got.tup (K := X.K) (ds := rangeD 0 (i - 0).toNat) (xs := rgV 0 i) hr (dens_rg 0 _))
    exact g3 fp2 F3 _ R3 (e2.trans e3) _ k3
  | _ => cases hq
end
end Pu
namespace Pu
open PySem PySem.Spec PyProof.Rows L2
theorem psetC {X : Cx} {e : Expr} {te : TE} {x : Str} {pos pos' : Pos} (i : Nat) (hN : X.N.Nodup) (he : PE X e te) (hi : X.N[i]? = some x := by rfl) (hx : Loc X.env.scope x := by first | exact Or.inl rfl | exact Or.inr rfl) (hs : swapsWith e (some (.Name x pos')) pos.line X.env = pure false := by rfl)
    (hf : X.fn x = true ∨ X.env.scope.names.lookup x = some .local := by first | exact .inl rfl | exact .inr rfl | assumption) :
    PS X (.Assign [.Name x pos'] e pos) (tAsg te (gName i)) := ps_set hN hi hx he hs hf
end Pu

namespace Pu
open PySem PySem.Spec PyProof.Rows L2
/-! ### texts: methods, str(..), int(..), f-strings -/
def strD : D → Option Str
  | .str a => some a
  | _ => none
def strsD : List D → Option (List Str)
  | [] => some []
  | .str a :: ds => (strsD ds).map (a :: ·)
  | _ :: _ => none
theorem dens_strs {K : PySem.W.Frag} {F : Hp} : ∀ {ds : List D} {ys : List Str} {xs : List V}, strsD ds = some ys → Dens K F ds xs → xs = ys.map V.str
  | [], ys, xs, h, hd => by
    cases h
    have q : xs = [] := by simpa only [Dens] using hd
    exact q
  | .str a :: ds, ys, xs, h, hd => by
    simp only [strsD] at h
    cases e : strsD ds with
    | none => rw [e] at h; cases h
    | some zs =>
      rw [e] at h
      cases h
      simp only [Dens, Den] at hd
      obtain ⟨v, r, rfl, rfl, h2⟩ := hd
      rw [dens_strs e h2]
      rfl
  | .none :: ds, ys, xs, h, hd => by cases h
  | .bool _ :: ds, ys, xs, h, hd => by cases h
  | .int _ :: ds, ys, xs, h, hd => by cases h
  | .list _ :: ds, ys, xs, h, hd => by cases h
  | .tuple _ :: ds, ys, xs, h, hd => by cases h
  | .dict _ :: ds, ys, xs, h, hd => by cases h
theorem strs_dens {K : PySem.W.Frag} {F : Hp} : ∀ (ys : List Str), Dens K F (ys.map .str) (ys.map V.str)
  | [] => by simp [Dens]
  | y :: ys => by
    simp only [List.map_cons, Dens, Den]
    exact ⟨_, _, rfl, rfl, strs_dens ys⟩
/-- a method of texts, of no, of one argument -/
def Mt0 (X : Cx) (id : String) (g : Str → Option Opd) : Prop :=
  ∃ r, MtR X id r ∧ ∀ F H a o (Q : VK), Ex F H → g a = some o → (∀ v H', Got X.K F H o v H' → Q v H') → r (.str a) [] H Q
def Mt1 (X : Cx) (id : String) (g : Str → D → Option Opd) : Prop :=
  ∃ r, MtR X id r ∧ ∀ F H a y dy o (Q : VK), Ex F H → BDen X.K F H dy y → g a dy = some o → (∀ v H', Got X.K F H o v H' → Q v H') → r (.str a) [y] H Q
def eM0 (g : Str → Option Opd) (f : PM Opd) : PM Opd := bnd (opn f) fun x => bnd (rsv x) fun dx => bnd (lift (strD dx)) fun a => lift (g a)
def eM1 (g : Str → D → Option Opd) (f h : PM Opd) : PM Opd := bnd (opn f) fun x => bnd (rsv x) fun dx => bnd (lift (strD dx)) fun a => bnd (opn h) fun y => bnd (rsv y) fun dy => lift (g a dy)
theorem strD_ok {K : PySem.W.Frag} {F H : Hp} {d : D} {a : Str} {v : V} (h : strD d = some a) (hd : BDen K F H d v) : v = .str a := by
  cases d with
  | str b => cases h; exact bd_str hd
  | _ => cases h
section
variable {X : Cx} {bo : List Nat} {W : WX} {a b e : Expr} {es : List Expr} {pos p apos : Pos}
theorem px_m0 {id : String} {name : Str} {g : Str → Option Opd} {f : PM Opd} (h : Mt0 X id g) (slot : Slot "str" name id) (ty : typeOf (.builtin id) = pure (.type "method_descriptor")) (ha : PX X bo W a f)
    (hbase : attributeBase a name X.env (eval a X.env) = eval a X.env := by rfl) (hline : (apos.endLine == pos.line) = true := by rfl) : PX X bo W (.Call (.Attribute a name apos) [] [] pos) (eM0 g f) := by
  obtain ⟨r, r1, r2⟩ := h
  obtain ⟨t, h1, h2⟩ := px_opn ha
  refine ⟨_, pe_m0 slot ty r1 h1 hbase hline, fun c fp F env σ H Q hc R gg => ?_⟩
  refine h2 c fp F env σ H _ hc R ((Goes.bnd gg).mono (Ex.refl F) fun fp1 F1 env1 H1 o e1 R1 g1 v hn hv => ?_)
  obtain ⟨d, k1, g2⟩ := rsv_ok R1 hv g1
  obtain ⟨z, hz, g3⟩ := goes_lift_bnd g2
  have hv' := strD_ok hz k1
  subst hv'
  obtain ⟨o', ho, _⟩ := g3.lift
  exact ⟨⟨z, rfl⟩, r2 F1 H1 z o' Q R1.fh ho fun v' H' got => fin_got R1 g3 ho got⟩
theorem px_m1 {id : String} {name : Str} {g : Str → D → Option Opd} {f fb : PM Opd} (h : Mt1 X id g) (slot : Slot "str" name id) (ty : typeOf (.builtin id) = pure (.type "method_descriptor")) (ha : PX X bo W a f) (hb : PX X bo W b fb)
    (hs : starEach [b] X.env = [(false, eval b X.env)] := by rfl) (hbase : attributeBase a name X.env (eval a X.env) = eval a X.env := by rfl) (hline : (apos.endLine == pos.line) = true := by rfl) : PX X bo W (.Call (.Attribute a name apos) [b] [] pos) (eM1 g f fb) := by
  obtain ⟨r, r1, r2⟩ := h
  obtain ⟨t, h1, h2⟩ := px_opn ha
  obtain ⟨t', h3, h4⟩ := px_opn hb
  refine ⟨_, pe_m1 slot ty r1 h1 h3 hs hbase hline, fun c fp F env σ H Q hc R gg => ?_⟩
  refine h2 c fp F env σ H _ hc R ((Goes.bnd gg).mono (Ex.refl F) fun fp1 F1 env1 H1 o e1 R1 g1 v hn hv => ?_)
  obtain ⟨d, k1, g2⟩ := rsv_ok R1 hv g1
  obtain ⟨z, hz, g3⟩ := goes_lift_bnd g2
  have hv' := strD_ok hz k1
  subst hv'
  refine ⟨⟨z, rfl⟩, ?_⟩
  refine h4 c fp1 F1 env1 σ H1 _ hc R1 ((Goes.bnd g3).mono (Ex.refl F1) fun fp2 F2 env2 H2 oy e2 R2 g4 u hm hu => ?_)
  obtain ⟨dy, k2, g5⟩ := rsv_ok R2 hu g4
  obtain ⟨o', ho, _⟩ := g5.lift
  exact r2 F2 H2 z u dy o' Q R2.fh k2 ho fun v' H' got => fin_got R2 g5 ho got
end
def gAscii (a : Str) : Option Opd := some (.val (.bool (Txt.isascii a)))
def gDigit (a : Str) : Option Opd := some (.val (.bool (Txt.isdigit a)))
def gSplit (a : Str) : D → Option Opd
  | .str b => if b.length ≠ 0 ∧ a.length + 2 ≤ bigLine then some (.tmp ((Txt.split a b).map .str)) else none
  | _ => none
def gPart (a : Str) : D → Option Opd
  | .str b => if b.length ≠ 0 ∧ a.length ≤ bigLine then some (.val (.tuple [.str (Txt.partition a b).1, .str (Txt.partition a b).2.1, .str (Txt.partition a b).2.2])) else none
  | _ => none
def gFind (a : Str) : D → Option Opd
  | .str b => some (.val (.int (Txt.find a b)))
  | _ => none
def gCount (a : Str) : D → Option Opd
  | .str b => some (.val (.int (Txt.count a b)))
  | _ => none
def gStarts (a : Str) : D → Option Opd
  | .str b => some (.val (.bool (Txt.startswith a b)))
  | _ => none
def gEnds (a : Str) : D → Option Opd
  | .str b => some (.val (.bool (Txt.endswith a b)))
  | _ => none
def joinD (a : Str) (ds : List D) : Option Opd := (strsD ds).bind fun ys => if (ys.map (·.length)).sum + ys.length * a.length ≤ bigLine then some (.val (.str (Txt.join a ys))) else none
def gJoin (a : Str) : D → Option Opd
  | .list ds => joinD a ds
  | .tuple ds => joinD a ds
  | _ => none
section
variable {X : Cx}
theorem m_ascii : Mt0 X "str.isascii" gAscii := ⟨_, mt_isascii, fun F H a o Q e hg q => by cases hg; exact ⟨a, rfl, rfl, trivial, q _ _ (.same (by simp only [Den]))⟩⟩
theorem m_digit : Mt0 X "str.isdigit" gDigit := ⟨_, mt_isdigit, fun F H a o Q e hg q => by cases hg; exact ⟨a, rfl, rfl, trivial, q _ _ (.same (by simp only [Den]))⟩⟩
theorem m_find : Mt1 X "str.find" gFind := ⟨_, mt_find, fun F H a y dy o Q e hy hg q => by
  cases dy with
  | str b => cases hg; exact ⟨a, b, rfl, by rw [bd_str hy], q _ _ (.same (by simp only [Den]))⟩
  | _ => cases hg⟩
theorem m_count : Mt1 X "str.count" gCount := ⟨_, mt_count, fun F H a y dy o Q e hy hg q => by
  cases dy with
  | str b => cases hg; exact ⟨a, b, rfl, by rw [bd_str hy], q _ _ (.same (by simp only [Den]))⟩
  | _ => cases hg⟩
theorem m_starts : Mt1 X "str.startswith" gStarts := ⟨_, mt_startswith, fun F H a y dy o Q e hy hg q => by
  cases dy with
  | str b => cases hg; exact ⟨a, b, rfl, by rw [bd_str hy], q _ _ (.same (by simp only [Den]))⟩
  | _ => cases hg⟩
theorem m_ends : Mt1 X "str.endswith" gEnds := ⟨_, mt_endswith, fun F H a y dy o Q e hy hg q => by
  cases dy with
  | str b => cases hg; exact ⟨a, b, rfl, by rw [bd_str hy], q _ _ (.same (by simp only [Den]))⟩
  | _ => cases hg⟩
theorem beq0 {n : Nat} (h : n ≠ 0) : (n == 0) = false := by simpa using h
theorem m_split : Mt1 X "str.split" gSplit := ⟨_, mt_split, fun F H a y dy o Q e hy hg q => by
  cases dy with
  | str b =>
    simp only [gSplit] at hg
    split at hg
    · rename_i hh
      cases hg
      refine ⟨a, b, rfl, by rw [bd_str hy], beq0 hh.1, big_le hh.2, fun p hp => ?_⟩
      exact q _ _ (.lst hp (strs_dens _))
    · cases hg
  | _ => cases hg⟩
theorem m_part : Mt1 X "str.partition" gPart := ⟨_, mt_partition, fun F H a y dy o Q e hy hg q => by
  cases dy with
  | str b =>
    simp only [gPart] at hg
    split at hg
    · rename_i hh
      cases hg
      refine ⟨a, b, rfl, by rw [bd_str hy], beq0 hh.1, big_le hh.2, fun p hp => ?_⟩
      exact q _ _ (.tup hp (by simp [Dens, Den]))
    · cases hg
  | _ => cases hg⟩
theorem join_ok {a : Str} {ds : List D} {o : Opd} (h : joinD a ds = some o) : ∃ ys, strsD ds = some ys ∧ (ys.map (·.length)).sum + ys.length * a.length ≤ 16777216 ∧ o = .val (.str (Txt.join a ys)) := by
  unfold joinD at h
  cases e : strsD ds with
  | none => rw [e] at h; cases h
  | some ys =>
    rw [e] at h
    simp only [Option.bind_some] at h
    split at h
    · rename_i hh
      cases h
      have : bigLine ≤ 16777216 := by decide
      exact ⟨ys, rfl, by omega, rfl⟩
    · cases h
theorem m_join : Mt1 X "str.join" gJoin := ⟨_, mt_join, fun F H a y dy o Q e hy hg q => by
  cases dy with
  | list ds =>
    obtain ⟨p, xs, rfl, h1, h2⟩ := bd_list hy
    obtain ⟨ys, k1, k2, rfl⟩ := join_ok hg
    have := dens_strs k1 h2
    subst this
    exact ⟨a, p, ys, rfl, rfl, .inl (.inl (.inl h1)), k2, q _ _ (.same (by simp only [Den]))⟩
  | tuple ds =>
    obtain ⟨p, xs, rfl, h1, h2⟩ := bd_tup hy
    obtain ⟨ys, k1, k2, rfl⟩ := join_ok hg
    have := dens_strs k1 h2
    subst this
    exact ⟨a, p, ys, rfl, rfl, .inr (ex_t e h1), k2, q _ _ (.same (by simp only [Den]))⟩
  | _ => cases hg⟩
def gStr : List D → Option Opd
  | [.int i] => if i.natAbs.log2 < 1920 then some (.val (.str (toString i))) else none
  | _ => none
theorem bi_str : Bi X (.type "str") gStr := by
  refine ⟨_, call_str_int, fun F H xs ds o Q e sy hx hg q => ?_⟩
  unfold gStr at hg
  split at hg
  · split at hg
    · rename_i hh
      cases hg
      obtain ⟨v, rfl, h1⟩ := bdens1 hx
      exact ⟨_, by rw [bd_int h1], hh, q _ _ (.same den_str)⟩
    · cases hg
  · cases hg
def gIntS : List D → Option Opd
  | [.str a] => if a.length ≤ 640 then (PySem.intText? a).map fun n => .val (.int n) else none
  | _ => none
theorem bi_intS : Bi X (.type "int") gIntS := by
  refine ⟨_, call_int_str, fun F H xs ds o Q e sy hx hg q => ?_⟩
  unfold gIntS at hg
  split at hg
  · split at hg
    · rename_i a hh
      cases en : PySem.intText? a with
      | none => rw [en] at hg; cases hg
      | some n =>
        rw [en] at hg
        cases hg
        obtain ⟨v, rfl, h1⟩ := bdens1 hx
        exact ⟨_, _, by rw [bd_str h1], en, hh, q _ _ (.same den_int)⟩
    · cases hg
  · cases hg
end
/-! f-strings -/
def fmtD : D → Option Str
  | .str a => if a.length ≤ bigLine then some a else none
  | .int i => if i.natAbs.log2 < 1920 then some (toString i) else none
  | _ => none
def addS (acc y : Str) : Option Str := if acc.length + y.length ≤ bigLine then some (acc ++ y) else none
def PJX (X : Cx) (bo : List Nat) (W : WX) (es : List Expr) (f : Str → PM Str) : Prop :=
  ∃ ts, PJ X es ts ∧ ∀ c fp F env σ H acc (Q : Str → Hp → Prop), OkC c bo → Rel X.K c fp F env σ H →
    Goes X.K c W σ F (f acc env) (fun fp' F' env' H' y => Q y H') → tJs ts acc σ H Q
def jNil : Str → PM Str := fun acc => ret acc
def jLit (s : Str) (f : Str → PM Str) : Str → PM Str := fun acc => bnd (lift (addS acc s)) f
def jFmt (g : PM Opd) (f : Str → PM Str) : Str → PM Str := fun acc => bnd (opn g) fun x => bnd (rsv x) fun d => bnd (lift (fmtD d)) fun y => bnd (lift (addS acc y)) f
def eJoin (f : Str → PM Str) : PM Opd := bnd (f Str.empty) fun y => ret (.val (.str y))
theorem addS_ok {acc y z : Str} (h : addS acc y = some z) : z = acc ++ y ∧ (acc ++ y).length ≤ sizeLine := by
  unfold addS at h
  split at h
  · rename_i hh
    refine ⟨(Option.some.inj h).symm, ?_⟩
    rw [Str.length_append]
    exact big_le hh
  · cases h
section
variable {X : Cx} {bo : List Nat} {W : WX} {a b e : Expr} {es : List Expr} {pos p apos : Pos}
theorem pjx_nil : PJX X bo W [] jNil := ⟨[], .nil, fun c fp F env σ H acc Q hc R g => g fp F H R (Ex.refl F)⟩
theorem pjx_lit {s : Str} {j : Nat} {f : Str → PM Str} (h : PJX X bo W es f) : PJX X bo W (.Constant (.str s) j pos :: es) (jLit s f) := by
  obtain ⟨ts, h1, h2⟩ := h
  refine ⟨_, .cons (t := tC (.str s)) pe_str h1, fun c fp F env σ H acc Q hc R g => ?_⟩
  obtain ⟨z, hz, g1⟩ := goes_lift_bnd g
  obtain ⟨rfl, hl⟩ := addS_ok hz
  exact ⟨s, rfl, hl, h2 c fp F env σ H _ Q hc R g1⟩
theorem pjx_fmt {g : PM Opd} {f : Str → PM Str} (hg : PX X bo W a g) (h : PJX X bo W es f) : PJX X bo W (.FormattedValue a (-1) none pos :: es) (jFmt g f) := by
  obtain ⟨ts, h1, h2⟩ := h
  obtain ⟨t, h3, h4⟩ := px_opn hg
  refine ⟨_, .cons (pe_fmt h3) h1, fun c fp F env σ H acc Q hc R gg => ?_⟩
  refine h4 c fp F env σ H _ hc R ((Goes.bnd gg).mono (Ex.refl F) fun fp1 F1 env1 H1 o e1 R1 g1 v hn hv => ?_)
  obtain ⟨d, k1, g2⟩ := rsv_ok R1 hv g1
  obtain ⟨y, hy, g3⟩ := goes_lift_bnd g2
  obtain ⟨z, hz, g4⟩ := goes_lift_bnd g3
  obtain ⟨rfl, hl⟩ := addS_ok hz
  have fin : ∃ y' : Str, V.str y = .str y' ∧ (acc ++ y').length ≤ sizeLine ∧ tJs ts (acc ++ y') σ H1 Q := ⟨y, rfl, hl, h2 c fp1 F1 env1 σ H1 _ Q hc R1 g4⟩
  cases d with
  | str w =>
    simp only [fmtD] at hy
    split at hy
    · rename_i hw
      cases hy
      exact .inl ⟨_, bd_str k1, big_le hw, fin⟩
    · cases hy
  | int i =>
    simp only [fmtD] at hy
    split at hy
    · rename_i hw
      cases hy
      exact .inr ⟨_, bd_int k1, hw, fin⟩
    · cases hy
  | _ => cases hy
theorem px_join {v1 v2 : Expr} {rest : List Expr} {f : Str → PM Str} (h : PJX X bo W (v1 :: v2 :: rest) f) : PX X bo W (.JoinedStr (v1 :: v2 :: rest) pos) (eJoin f) := by
  obtain ⟨ts, h1, h2⟩ := h
  refine ⟨_, pe_joined h1, fun c fp F env σ H Q hc R g => ?_⟩
  refine h2 c fp F env σ H _ _ hc R ((Goes.bnd g).mono (Ex.refl F) fun fp1 F1 env1 H1 y e1 R1 g1 => ?_)
  exact g1 fp1 F1 H1 R1 (Ex.refl F1) (.str y) (by show Den _ _ _ _; simp only [Den])
end
section
variable {X : Cx} {bo : List Nat} {W : WX} {pos p : Pos} {x : Str} {CX : CXT} {k : Nat} {f : Addr} {fd : FuncData} {ps : List Str}
theorem px_callA0 {S : List D → FR} (F : FnG X.prog X.w X.K X.mg X.base CX k f fd ps (SpA X.K 0 S)) (hr : Room k X.A) (hgu : X.A.guards = some []) (hm : X.mg x = some (.ref f)) (hk : PySem.W.keepIn X.K (.ref f) = true) (hb : Binds X.K fd ps []) (hx : ∀ σ, PassesAt CX X σ (WE W σ))
    (hp : ps = []) (hg : Gl X x := by rfl) (hdb : (x == ("__debug__" : Str)) = false := by decide) : PX X bo W (.Call (.Name x p) [] [] pos) (eCallA S (ret [])) := by
  subst hp
  refine ⟨fun σ H Q => SpA X.K 0 S [] H Q (WE W σ), ⟨fun pins s σ H Q I h => ?_⟩, fun c fp F0 env σ H Q hc R g => ?_⟩
  · refine wpAny_Call_Name_kw (ld_glob I hg hm ?_ hdb)
    have b := hb s [] I.kIn rfl
    exact PySem.W.callWith_K0 I.kIn hk (run_g (zs := []) F hr hgu b (hx σ) I .nil h)
  · exact rd_callA (n := 0) (ds := []) R rfl (by simp only [Dens]) g
end
end Pu

namespace Pu
open PySem PySem.Spec PyProof.Rows L2
section
variable {c : String} {e : PEnv} {x : Exn} {m : Value → Option Bool} {g h : PM Out} {o : Opd}
theorem sRaise0_e : sRaise0 c e = .exc (exn0 c) e := rfl
theorem frOf_x : frOf (.exc x) e = .exc x e := rfl
theorem sTry_e : sTry m g h e = (match g e with | .ok o e => .ok o e | .exc x e => (match m x.cls with | some true => noExc h e | some false => .exc x e | none => .bad) | .bad => .bad) := rfl
theorem noX_k : noX (.ok o) = .ok o := rfl
/-- a comprehension that goes the same way each time -/
theorem lc_map {α : Type} {vs : List Nat} {s : D → PEnv → Option PEnv} {t : PM Bool} {f : PM Opd} {W : PEnv} {enc : α → D} {p : α → Bool} {k : α → D} : ∀ (xs : List α) (acc : List D), acc.length + xs.length ≤ 1000000 →
    (∀ x ∈ xs, ∃ e1 e2, s (enc x) W = some e1 ∧ t e1 = .ok (p x) e2 ∧ (p x = true → ∃ e3, kept f e2 = .ok (k x) e3 ∧ wipeE e3 vs = W) ∧ (p x = false → wipeE e2 vs = W)) → goLc vs s t f (xs.map enc) acc W = .ok (acc ++ (xs.filter p).map k) W
  | [], acc, _, _ => by simp [goLc]
  | x :: xs, acc, hl, h => by
    obtain ⟨e1, e2, h1, h2, h3, h4⟩ := h x (by simp)
    rw [List.length_cons] at hl
    rw [List.map_cons]
    unfold goLc
    simp only [h1, h2]
    cases hp : p x with
    | false =>
      have ih := lc_map (enc := enc) (p := p) (k := k) xs acc (by omega) fun y hy => h y (List.mem_cons_of_mem _ hy)
      show goLc vs s t f (xs.map enc) acc (wipeE e2 vs) = _
      rw [h4 hp, ih, List.filter_cons, hp]
      rfl
    | true =>
      obtain ⟨e3, k1, k2⟩ := h3 hp
      have hb : acc.length < bigLine := by unfold bigLine; omega
      simp only [k1, if_pos hb, k2]
      have ih := lc_map (enc := enc) (p := p) (k := k) xs (acc ++ [k x]) (by rw [List.length_append, List.length_singleton]; omega) fun y hy => h y (List.mem_cons_of_mem _ hy)
      simp only [ih, List.filter_cons, hp, if_true, List.map_cons, List.append_assoc, List.singleton_append]
end
/-! ### pairs of ints in order -/
def leP (p q : Int × Int) : Bool := decide (p.1 < q.1 ∨ (p.1 = q.1 ∧ p.2 ≤ q.2))
def prD (p : Int × Int) : D := .tuple [.int p.1, .int p.2]
def sortP (ps : List (Int × Int)) : List (Int × Int) := ps.mergeSort leP
theorem leP_tr (a b c : Int × Int) (h1 : leP a b = true) (h2 : leP b c = true) : leP a c = true := by
  simp only [leP, decide_eq_true_eq] at *
  omega
theorem leP_tot (a b : Int × Int) : (leP a b || leP b a) = true := by
  simp only [leP, Bool.or_eq_true, decide_eq_true_eq]
  omega
theorem leP_anti {a b : Int × Int} (h1 : leP a b = true) (h2 : leP b a = true) : a = b := by
  simp only [leP, decide_eq_true_eq] at *
  obtain ⟨a1, a2⟩ := a
  obtain ⟨b1, b2⟩ := b
  simp only at h1 h2
  have e1 : a1 = b1 := by omega
  have e2 : a2 = b2 := by omega
  rw [e1, e2]
theorem sortD_prs (ps : List (Int × Int)) : sortD (ps.map prD) = (sortP ps).map prD := by
  unfold sortD sortP
  rw [← List.map_mergeSort (r := leP)]
  intro a _ b _
  have h := congrFun (congrFun (PySem.W.dataLe_ii (β := Int × Int) (fun p => p.1) (fun p => p.2)) a) b
  have h' : PySem.W.dataLe false (fun d : D => d) (prD a) (prD b) = PySem.W.dataLe false (fun b : Int × Int => PyData.tuple [.int b.1, .int b.2]) a b := rfl
  rw [h', h]
  rfl
theorem sortP_perm (ps : List (Int × Int)) : (sortP ps).Perm ps := List.mergeSort_perm ps leP
theorem sortP_len (ps : List (Int × Int)) : (sortP ps).length = ps.length := (sortP_perm ps).length_eq
theorem sortP_le (ps : List (Int × Int)) : (sortP ps).Pairwise (fun a b => leP a b = true) := List.pairwise_mergeSort leP_tr leP_tot ps
theorem eq_of_le {ps qs : List (Int × Int)} (h : ps.Perm qs) (h1 : ps.Pairwise (fun a b => leP a b = true)) (h2 : qs.Pairwise (fun a b => leP a b = true)) : ps = qs :=
  h.eq_of_pairwise (fun a b _ _ => leP_anti) h1 h2
theorem sortP_of {ps qs : List (Int × Int)} (h : ps.Perm qs) (h2 : qs.Pairwise (fun a b => leP a b = true)) : sortP ps = qs := eq_of_le ((sortP_perm ps).trans h) (sortP_le ps) h2
theorem sortOk_prs {ps : List (Int × Int)} (h : ps.length ≤ 100000) : sortOk (ps.map prD) = true := by
  have h1 : ∀ d ∈ ps.map prD, ∃ p, d = prD p := fun d hd => by
    obtain ⟨p, _, rfl⟩ := List.mem_map.mp hd
    exact ⟨p, rfl⟩
  unfold sortOk
  rw [Bool.and_eq_true, Bool.and_eq_true, Bool.and_eq_true, Bool.or_eq_true]
  refine ⟨⟨⟨List.all_eq_true.mpr fun d hd => List.all_eq_true.mpr fun d' hd' => ?_, .inl (List.all_eq_true.mpr fun d hd => ?_)⟩, List.all_eq_true.mpr fun d hd => ?_⟩, ?_⟩
  · obtain ⟨p, rfl⟩ := h1 d hd
    obtain ⟨q, rfl⟩ := h1 d' hd'
    simp [prD, PySem.W.alike, PySem.W.alikeAll]
  · obtain ⟨p, rfl⟩ := h1 d hd
    rfl
  · obtain ⟨p, rfl⟩ := h1 d hd
    simp [prD, PyData.depth, PyData.depthAll]
  · rw [List.length_map]
    refine decide_eq_true ?_
    unfold bigLine
    omega
theorem gSorted_prs {ps : List (Int × Int)} (h : ps.length ≤ 100000) : gSorted [.list (ps.map prD)] = some (.tmp ((sortP ps).map prD)) := by
  simp only [gSorted, sortOk_prs h, if_true, sortD_prs]
theorem gSorted_prsT {ps : List (Int × Int)} (h : ps.length ≤ 100000) : gSorted [.tuple (ps.map prD)] = some (.tmp ((sortP ps).map prD)) := by
  simp only [gSorted, sortOk_prs h, if_true, sortD_prs]
/-! a line among lines -/
theorem eqv_pr (p q : Int × Int) : PyData.eqv (prD p) (prD q) = decide (p = q) := by
  obtain ⟨a, b⟩ := p
  obtain ⟨c, d⟩ := q
  simp only [prD, PyData.eqv, PyData.eqvAll]
  by_cases h1 : a = c
  · by_cases h2 : b = d
    · simp [h1, h2]
    · simp [h1, h2]
  · simp [h1]
theorem anyD_prs (p : Int × Int) (ps : List (Int × Int)) : anyD (prD p) (ps.map prD) = decide (p ∈ ps) := by
  unfold anyD
  rw [List.any_map]
  induction ps with
  | nil => rfl
  | cons q ps ih =>
    rw [List.any_cons, ih]
    simp only [Function.comp, eqv_pr]
    by_cases h : q = p
    · simp [h]
    · have h' : ¬ p = q := fun z => h z.symm
      simp [h, h']
theorem layAll_prs : ∀ ps : List (Int × Int), PyData.canLayAll0 (ps.map prD) = true
  | [] => by simp [PyData.canLayAll0]
  | p :: ps => by
    rw [List.map_cons]
    simp [PyData.canLayAll0, layAll_prs ps, prD, PyData.canLay0]
theorem inOk_prs (p : Int × Int) (ps : List (Int × Int)) : inOk (prD p) (ps.map prD) = true := by
  unfold inOk
  rw [layAll_prs]
  simp [prD, PyData.canLay0, PyData.canLayAll0, PyData.depth, PyData.depthAll]
theorem gIn_prs (neg : Bool) (p : Int × Int) (ps : List (Int × Int)) : gIn neg (prD p) (.tuple (ps.map prD)) = some (.val (.bool (if neg = true then !decide (p ∈ ps) else decide (p ∈ ps)))) := by
  simp only [gIn, inOk_prs, if_true, anyD_prs]
end Pu

namespace Pu
open PySem PySem.Spec PyProof.Rows L2
/-! ### owned dicts, owned lists of lists; the script's cuts; pop -/
def cellAt : List (Key × Cell) → Key → Option Cell
  | [], _ => none
  | (j, x) :: es, k => if j = k then some x else cellAt es k
def setC : List (Key × Cell) → Key → Cell → List (Key × Cell)
  | [], _, _ => []
  | (j, x) :: es, k, c => if j = k then (j, c) :: es else (j, x) :: setC es k c
def dcE : Ab → Option (List (Key × Cell))
  | .dc es => some es
  | _ => none
def llE : Ab → Option (List (List D))
  | .ll cs => some cs
  | _ => none
def scE : Ab → Option (List Int)
  | .sc ns => some ns
  | _ => none
def imAt (es : List (Key × Cell)) (k : Key) : Option D := match cellAt es k with
  | some (.im d) => some d
  | _ => none
def flAt (es : List (Key × Cell)) (k : Key) : Option (List D) := match cellAt es k with
  | some (.fl ds) => some ds
  | _ => none
section
variable {K : PySem.W.Frag} {F H : Hp}
theorem cells_im : ∀ {es : List (Key × Cell)} {kvs : List (Key × V)} {fp : List Addr} {k : Key} {d : D}, CellsAt K F H es kvs fp → cellAt es k = some (.im d) → ∃ v, valV kvs k = some v ∧ Den K F d v
  | [], _, _, _, _, _, h => by cases h
  | (j, .im d') :: es, _, _, k, d, ⟨v, r, h1, h2, h3⟩, h => by
    subst h1
    unfold cellAt at h
    by_cases e : j = k
    · rw [if_pos e] at h
      cases h
      exact ⟨v, valV_pos e, h2⟩
    · rw [if_neg e] at h
      rw [valV_neg (by exact e)]
      exact cells_im h3 h
  | (j, .fl ds) :: es, _, _, k, d, ⟨b, r, fr, xs, h1, h2, h3, h4, h5, h6⟩, h => by
    subst h1
    unfold cellAt at h
    by_cases e : j = k
    · rw [if_pos e] at h
      cases h
    · rw [if_neg e] at h
      rw [valV_neg (by exact e)]
      exact cells_im h6 h
theorem cells_off : ∀ {es : List (Key × Cell)} {kvs : List (Key × V)} {fp : List Addr} {b : Addr} {o : HO}, CellsAt K F H es kvs fp → b ∉ fp → CellsAt K F (upd H b o) es kvs fp := fun {es kvs fp b o} h hb =>
  cells_keep (Ex.refl F) h fun a u ha z => by
    have hne : a ≠ b := fun e => hb (e ▸ ha)
    rw [upd_ne hne]
    exact z
theorem cells_fl : ∀ {es : List (Key × Cell)} {kvs : List (Key × V)} {fp : List Addr} {k : Key} {ds : List D}, CellsAt K F H es kvs fp → cellAt es k = some (.fl ds) →
    ∃ b xs, valV kvs k = some (.ref b) ∧ b ∈ fp ∧ H b = some (.lst xs) ∧ Dens K F ds xs ∧ ∀ ds' ys, Dens K F ds' ys → CellsAt K F (upd H b (.lst ys)) (setC es k (.fl ds')) kvs fp
  | [], _, _, _, _, _, h => by cases h
  | (j, .im d') :: es, _, fp, k, ds, ⟨v, r, h1, h2, h3⟩, h => by
    subst h1
    unfold cellAt at h
    by_cases e : j = k
    · rw [if_pos e] at h
      cases h
    · rw [if_neg e] at h
      obtain ⟨b, xs, q1, q2, q3, q4, q5⟩ := cells_fl h3 h
      refine ⟨b, xs, by rw [valV_neg (by exact e)]; exact q1, q2, q3, q4, fun ds' ys hd => ?_⟩
      unfold setC
      rw [if_neg e]
      exact ⟨v, r, rfl, h2, q5 ds' ys hd⟩
  | (j, .fl ds0) :: es, _, fp, k, ds, ⟨b, r, fr, xs, h1, h2, h3, h4, h5, h6⟩, h => by
    subst h1 h2
    unfold cellAt at h
    by_cases e : j = k
    · rw [if_pos e] at h
      cases h
      refine ⟨b, xs, valV_pos e, List.mem_cons_self .., h4, h5, fun ds' ys hd => ?_⟩
      unfold setC
      rw [if_pos e]
      exact ⟨b, r, fr, ys, rfl, rfl, h3, upd_same, hd, cells_off h6 h3⟩
    · rw [if_neg e] at h
      obtain ⟨b', xs', q1, q2, q3, q4, q5⟩ := cells_fl h6 h
      refine ⟨b', xs', by rw [valV_neg (by exact e)]; exact q1, List.mem_cons_of_mem _ q2, q3, q4, fun ds' ys hd => ?_⟩
      unfold setC
      rw [if_neg e]
      have hne : b ≠ b' := fun z => h3 (z ▸ q2)
      exact ⟨b, r, fr, xs, rfl, rfl, h3, by rw [upd_ne hne]; exact h4, h5, q5 ds' ys hd⟩
def putC (es : List (Key × Cell)) (k : Key) (d : D) : List (Key × Cell) := if (es.any fun kv => decide (kv.1 = k)) = true then es.map (fun kv => if kv.1 = k then (kv.1, .im d) else kv) else es ++ [(k, .im d)]
def noFl (es : List (Key × Cell)) (k : Key) : Bool := es.all fun kv => match kv.2 with
  | .im _ => true
  | .fl _ => !decide (kv.1 = k)
theorem cells_any : ∀ {es : List (Key × Cell)} {kvs : List (Key × V)} {fp : List Addr} {k : Key}, CellsAt K F H es kvs fp → (kvs.any fun kv => decide (kv.1 = k)) = (es.any fun kv => decide (kv.1 = k))
  | [], _, _, _, ⟨h, _⟩ => by subst h; rfl
  | (j, .im d') :: es, _, fp, k, ⟨v, r, h1, h2, h3⟩ => by
    subst h1
    rw [List.any_cons, List.any_cons, cells_any h3]
  | (j, .fl ds0) :: es, _, fp, k, ⟨b, r, fr, xs, h1, h2, h3, h4, h5, h6⟩ => by
    subst h1
    rw [List.any_cons, List.any_cons, cells_any h6]
theorem cells_len : ∀ {es : List (Key × Cell)} {kvs : List (Key × V)} {fp : List Addr}, CellsAt K F H es kvs fp → kvs.length = es.length
  | [], _, _, ⟨h, _⟩ => by subst h; rfl
  | (j, .im d') :: es, _, fp, ⟨v, r, h1, h2, h3⟩ => by
    subst h1
    rw [List.length_cons, List.length_cons, cells_len h3]
  | (j, .fl ds0) :: es, _, fp, ⟨b, r, fr, xs, h1, h2, h3, h4, h5, h6⟩ => by
    subst h1
    rw [List.length_cons, List.length_cons, cells_len h6]
theorem cells_map : ∀ {es : List (Key × Cell)} {kvs : List (Key × V)} {fp : List Addr} {k : Key} {d : D} {v : V}, CellsAt K F H es kvs fp → Den K F d v → noFl es k = true →
    CellsAt K F H (es.map fun kv => if kv.1 = k then (kv.1, .im d) else kv) (kvs.map fun kv => if kv.1 = k then (kv.1, v) else kv) fp
  | [], _, _, _, _, _, ⟨h, h'⟩, _, _ => by subst h; exact ⟨rfl, h'⟩
  | (j, .im d') :: es, _, fp, k, d, v, ⟨w, r, h1, h2, h3⟩, hd, hn => by
    subst h1
    have ih := cells_map h3 hd (k := k) (by
      unfold noFl at hn ⊢
      rw [List.all_cons] at hn
      exact (Bool.and_eq_true _ _ ▸ hn).2)
    rw [List.map_cons, List.map_cons]
    by_cases e : j = k
    · simp only [e, if_true]
      exact ⟨v, _, rfl, hd, ih⟩
    · simp only [e, if_false]
      exact ⟨w, _, rfl, h2, ih⟩
  | (j, .fl ds0) :: es, _, fp, k, d, v, ⟨b, r, fr, xs, h1, h2, h3, h4, h5, h6⟩, hd, hn => by
    subst h1
    unfold noFl at hn
    rw [List.all_cons, Bool.and_eq_true] at hn
    have ih := cells_map h6 hd (k := k) hn.2
    have e : ¬ j = k := by simpa using hn.1
    rw [List.map_cons, List.map_cons]
    simp only [e, if_false]
    exact ⟨b, _, fr, xs, rfl, h2, h3, h4, h5, ih⟩
theorem cells_snoc : ∀ {es : List (Key × Cell)} {kvs : List (Key × V)} {fp : List Addr} {k : Key} {d : D} {v : V}, CellsAt K F H es kvs fp → Den K F d v → CellsAt K F H (es ++ [(k, .im d)]) (kvs ++ [(k, v)]) fp
  | [], _, _, _, _, _, ⟨h, h'⟩, hd => by subst h; exact ⟨_, [], rfl, hd, rfl, h'⟩
  | (j, .im d') :: es, _, fp, k, d, v, ⟨w, r, h1, h2, h3⟩, hd => by
    subst h1
    exact ⟨w, _, rfl, h2, cells_snoc h3 hd⟩
  | (j, .fl ds0) :: es, _, fp, k, d, v, ⟨b, r, fr, xs, h1, h2, h3, h4, h5, h6⟩, hd => by
    subst h1
    exact ⟨b, _, fr, xs, rfl, h2, h3, h4, h5, cells_snoc h6 hd⟩
theorem cells_put {es : List (Key × Cell)} {kvs : List (Key × V)} {fp : List Addr} {k : Key} {d : D} {v : V} (h : CellsAt K F H es kvs fp) (hd : Den K F d v) (hn : noFl es k = true) : CellsAt K F H (putC es k d) (putK kvs k v) fp := by
  unfold putC putK
  rw [cells_any h]
  split
  · exact cells_map h hd hn
  · exact cells_snoc h hd
end
/-- an owned thing is changed at one of its places -/
theorem Rel.setAt {K : PySem.W.Frag} {c : Ct} {fp : Nat → List Addr} {F : Hp} {env : PEnv} {σ : L2.St} {H : Hp} {i : Nat} {t t' : Ab} {v : V} {b : Addr} {o : HO} (R : Rel K c fp F env σ H) (h1 : env[i]? = some (some (.ab t))) (h2 : σ[i]? = some (some v)) (hb : b ∈ fp i)
    (h : AbAt K F (upd H b o) t' v (fp i)) : Rel K c fp F (env.set i (some (.ab t'))) σ (upd H b o) := by
  have hF := (R.ow i b hb).1
  refine R.mutate h1 h2 (Ex.refl F) (fun q u z => ?_) (fun q u hq z => ?_) (fun q z => ?_) (fun q z => .inl z) h (fun _ => ⟨t', rfl⟩) (fun ⟨l, z⟩ => nomatch z)
  · rw [upd_ne (ne_of_none z hF)]
    exact R.fh q u z
  · have hne : q ≠ b := fun e => hq (e ▸ hb)
    rw [upd_ne hne]
    exact z
  · by_cases e : q = b
    · rw [e, upd_same]; simp
    · rw [upd_ne e]; exact z
/-- a slot is put aside while a piece of code runs -/
def Ct.lend (c : Ct) (i : Nat) (fp : Nat → List Addr) (F H : Hp) : Ct := ⟨H, F, fun a => ∃ j, j ≠ i ∧ a ∈ fp j, fun a => ∃ j, (j ≠ i ∧ a ∈ fp j) ∧ (c.H0 a = none ∨ c.fz a), c.br.filter fun q => decide (q.1 ≠ i)⟩
section
variable {K : PySem.W.Frag} {c : Ct} {fp fp' : Nat → List Addr} {F F' : Hp} {env env' : PEnv} {σ : L2.St} {H H' : Hp} {i : Nat}
theorem Rel.hide (R : Rel K c fp F env σ H) (i : Nat) : Rel K (c.lend i fp F H) (fpSet fp i []) F (env.set i none) σ H where
  f0 := Ex.refl F
  sy := R.sy
  fh := R.fh
  kp := fun q o h _ => h
  al := fun q h => h
  nw := fun q h => .inl h
  ln := by rw [List.length_set]; exact R.ln
  sl := fun j o hj => by
    by_cases e : j = i
    · subst e
      exact nomatch (set_some hj).1
    · rw [get_set_ne' e] at hj
      rw [fpSet_ne e]
      exact R.sl j o hj
  ow := fun j a ha => by
    by_cases e : j = i
    · subst e; rw [fpSet_same] at ha; cases ha
    · rw [fpSet_ne e] at ha
      exact ⟨(R.ow j a ha).1, (R.ow j a ha).2.1, .inl ⟨j, e, ha⟩⟩
  lf := fun j ds a hj ha => by
    by_cases e : j = i
    · subst e; rw [fpSet_same] at ha; cases ha
    · rw [get_set_ne' e] at hj
      rw [fpSet_ne e] at ha
      exact .inr ⟨j, ⟨e, ha⟩, R.lf j ds a hj ha⟩
  ds := fun j k a h1 h2 => by
    by_cases e : j = i
    · subst e; rw [fpSet_same] at h1; cases h1
    · by_cases e2 : k = i
      · subst e2; rw [fpSet_same] at h2; cases h2
      · rw [fpSet_ne e] at h1; rw [fpSet_ne e2] at h2; exact R.ds j k a h1 h2
  bb := fun p hp => by
    have hp' : p ∈ c.br ∧ decide (p.1 ≠ i) = true := List.mem_filter.mp hp
    have h0 : p.1 ≠ i := of_decide_eq_true hp'.2
    rw [get_set_ne' h0, fpSet_ne h0]
    exact R.bb p hp'.1
theorem Rel.aside2 (R : Rel K c fp F env σ H) (R' : Rel K (c.lend i fp F H) fp' F' env' σ H') {q : Addr} (hq : q ∈ fp i) : (∀ o, H q = some o → H' q = some o) ∧ F' q = none ∧ ∀ j, q ∉ fp' j := by
  have off : ¬ ∃ j, j ≠ i ∧ q ∈ fp j := fun ⟨j, z1, z2⟩ => z1 (R.ds j i q z2 hq)
  obtain ⟨w1, w2, w3⟩ := R.ow i q hq
  refine ⟨fun o h => R'.kp q o h off, ?_, fun j z => ?_⟩
  · cases e : F' q with
    | none => rfl
    | some u =>
      rcases R'.nw q (by rw [e]; simp) with z | z | ⟨j, z, _⟩
      · exact absurd w1 z
      · exact absurd z w2
      · exact absurd ⟨j, z⟩ off
  · rcases (R'.ow j q z).2.2 with y | y
    · exact off y
    · exact w2 y
theorem Rel.unhide (R : Rel K c fp F env σ H) (R' : Rel K (c.lend i fp F H) fp' F' env' σ H') {o : SV} (hi : env[i]? = some (some o)) : Rel K c (fpSet fp' i (fp i)) F' (env'.set i (some o)) σ H' where
  f0 := R.f0.trans R'.f0
  sy := R'.sy
  fh := R'.fh
  kp := fun q u h1 h2 => by
    refine R'.kp q u (R.kp q u h1 h2) fun ⟨j, _, z⟩ => ?_
    rcases (R.ow j q z).2.2 with y | y
    · exact h2 y
    · rw [y] at h1; cases h1
  al := fun q h => R'.al q (R.al q h)
  nw := fun q h => by
    rcases R'.nw q h with z | z | ⟨j, _, z⟩
    · exact R.nw q z
    · refine .inr (.inl ?_)
      cases e : c.H0 q with
      | none => rfl
      | some u => exact absurd z (R.al q (by rw [e]; simp))
    · exact .inr z
  ln := by rw [List.length_set]; exact R'.ln
  sl := fun j u hj => by
    by_cases e : j = i
    · subst e
      obtain ⟨z1, _⟩ := set_some hj
      cases z1
      obtain ⟨v, w1, w2⟩ := R.sl j o hi
      refine ⟨v, w1, ?_⟩
      rw [fpSet_same]
      exact sl_keep R'.f0 (fun a x ha z => (R.aside2 R' ha).1 x z) w2
    · rw [get_set_ne' e] at hj
      rw [fpSet_ne e]
      exact R'.sl j u hj
  ow := fun j a ha => by
    by_cases e : j = i
    · subst e
      rw [fpSet_same] at ha
      obtain ⟨w1, w2, w3⟩ := R.ow j a ha
      obtain ⟨z1, z2, _⟩ := R.aside2 R' ha
      refine ⟨z2, ?_, w3⟩
      cases x : H a with
      | none => exact absurd x w2
      | some u => rw [z1 u x]; simp
    · rw [fpSet_ne e] at ha
      obtain ⟨w1, w2, w3⟩ := R'.ow j a ha
      refine ⟨w1, w2, ?_⟩
      rcases w3 with ⟨k, _, z⟩ | z
      · exact (R.ow k a z).2.2
      · refine .inr ?_
        cases x : c.H0 a with
        | none => rfl
        | some u => exact absurd z (R.al a (by rw [x]; simp))
  lf := fun j ds a hj ha => by
    by_cases e : j = i
    · subst e
      obtain ⟨z1, _⟩ := set_some hj
      cases z1
      rw [fpSet_same] at ha
      exact R.lf j ds a hi ha
    · rw [get_set_ne' e] at hj
      rw [fpSet_ne e] at ha
      rcases R'.lf j ds a hj ha with z | ⟨k, _, z⟩
      · refine .inl ?_
        cases x : c.H0 a with
        | none => rfl
        | some u => exact absurd z (R.al a (by rw [x]; simp))
      · exact z
  ds := fun j k a h1 h2 => by
    by_cases e : j = i
    · by_cases e2 : k = i
      · rw [e, e2]
      · subst e
        rw [fpSet_same] at h1
        rw [fpSet_ne e2] at h2
        exact absurd h2 ((R.aside2 R' h1).2.2 k)
    · by_cases e2 : k = i
      · subst e2
        rw [fpSet_same] at h2
        rw [fpSet_ne e] at h1
        exact absurd h1 ((R.aside2 R' h2).2.2 j)
      · rw [fpSet_ne e] at h1; rw [fpSet_ne e2] at h2; exact R'.ds j k a h1 h2
  bb := fun p hp => by
    obtain ⟨w1, w2, t, w3⟩ := R.bb p hp
    refine ⟨w1, ?_, ?_⟩
    · by_cases e : p.1 = i
      · subst e; rw [fpSet_same]; exact w2
      · rw [fpSet_ne e]
        have hp' : p ∈ (c.lend i fp F H).br := List.mem_filter.mpr ⟨hp, decide_eq_true e⟩
        exact (R'.bb p hp').2.1
    · by_cases e : p.1 = i
      · subst e
        rw [hi] at w3
        cases w3
        refine ⟨t, ?_⟩
        rw [List.getElem?_set_self]
        rw [R'.ln, ← R.ln]
        exact (List.getElem?_eq_some_iff.mp hi).1
      · rw [get_set_ne' e]
        have hp' : p ∈ (c.lend i fp F H).br := List.mem_filter.mpr ⟨hp, decide_eq_true e⟩
        exact (R'.bb p hp').2.2
end
end Pu

namespace Pu
open PySem PySem.Spec PyProof.Rows L2
/-! ### owned dicts: rules -/
section
variable {K : PySem.W.Frag} {c : Ct} {W : WX} {fp : Nat → List Addr} {F F0 : Hp} {env : PEnv} {σ : L2.St} {H : Hp} {i : Nat}
def dcAt (i : Nat) : PM (List (Key × Cell)) := bnd (abAtE i) fun t => lift (dcE t)
theorem dcAt_ok {β : Type} {k : List (Key × Cell) → PM β} {G : (Nat → List Addr) → Hp → PEnv → Hp → β → Prop} (R : Rel K c fp F env σ H) (g : Goes K c W σ F0 (bnd (dcAt i) k env) G) :
    ∃ es a kvs fr, env[i]? = some (some (.ab (.dc es))) ∧ σ[i]? = some (some (.ref a)) ∧ fp i = a :: fr ∧ a ∉ fr ∧ H a = some (.dK kvs) ∧ CellsAt K F H es kvs fr ∧ Goes K c W σ F0 (k es env) G := by
  have e : bnd (dcAt i) k = bnd (abAtE i) fun t => bnd (lift (dcE t)) k := bnd_assoc _ _ _
  rw [e] at g
  obtain ⟨t, v, k1, k2, k3, g1⟩ := abAt_ok R g
  obtain ⟨es, he, g2⟩ := goes_lift_bnd g1
  cases t with
  | dc es' =>
    cases he
    obtain ⟨a, kvs, fr, rfl, h2, h3, h4, h5⟩ := k3
    exact ⟨es, a, kvs, fr, k1, k2, h2, h3, h4, h5, g2⟩
  | _ => cases he
theorem imAt_ok {es : List (Key × Cell)} {k : Key} {d : D} (h : imAt es k = some d) : cellAt es k = some (.im d) := by
  unfold imAt at h
  split at h
  · rename_i e; cases h; exact e
  · cases h
theorem flAt_ok {es : List (Key × Cell)} {k : Key} {ds : List D} (h : flAt es k = some ds) : cellAt es k = some (.fl ds) := by
  unfold flAt at h
  split at h
  · rename_i e; cases h; exact e
  · cases h
end
section
variable {X : Cx} {bo : List Nat} {W : WX} {e a b : Expr} {es : List Expr} {pos p pv pk apos cpos : Pos} {x : Str} {i j : Nat} {k : Str}
/-- x['k'], a number or other data -/
def eGetC (i : Nat) (k : Str) : PM Opd := bnd (dcAt i) fun es => bnd (lift (imAt es (.inr k))) fun d => ret (.val d)
theorem px_getC (hu : X.A.units + 1 < cLine) (hN : X.N[i]? = some x := by rfl) (hv : Vis X.env.scope x := by first | exact Or.inl rfl | exact Or.inr (Or.inl rfl) | exact Or.inr (Or.inr rfl)) (hd : (x == ("__debug__" : Str)) = false := by decide)
    (hcd : (x == ("__classdict__" : Str)) = false := by decide) : PX X bo W (.Subscript (.Name x pv) (.Constant (.str k) j pk) pos) (eGetC i k) := by
  refine ⟨_, pe_dget hu (pe_var hN hv hd hcd) pe_str (fun _ _ => rfl), fun c fp F env σ H Q hc R g => ?_⟩
  obtain ⟨es, a, kvs, fr, k1, k2, k3, k4, k5, k6, g1⟩ := dcAt_ok R g
  obtain ⟨d, hd', g2⟩ := goes_lift_bnd g1
  obtain ⟨w, w1, w2⟩ := cells_im k6 (imAt_ok hd')
  exact ⟨.ref a, k2, a, w, rfl, .inl ⟨kvs, .inr k, .inl k5, rfl, w1.symm⟩, g2 fp F H R (Ex.refl F) w w2⟩
def keyD : D → Option Key
  | .int i => some (.inl i)
  | .str s => some (.inr s)
  | _ => none
theorem keyD_ok {K : PySem.W.Frag} {F H : Hp} {d : D} {k : Key} {v : V} (h : keyD d = some k) (hd : BDen K F H d v) : v = kV k := by
  cases d with
  | int i => cases h; exact bd_int hd
  | str s => cases h; exact bd_str hd
  | _ => cases h
/-- x[e] = v at an owned dict -/
def sPutD (i : Nat) (fe fk : PM Opd) : PM Out := bnd (kept fe) fun d => bnd (dcAt i) fun _ => bnd (opn fk) fun o => bnd (rsv o) fun dk => bnd (lift (keyD dk)) fun k => bnd (dcAt i) fun es =>
  if noFl es k = true ∧ es.length < bigLine then bnd (putS i (.ab (.dc (putC es k d)))) fun _ => ret .next else oops
theorem psx_putD {pt : Pos} {fe fk : PM Opd} (hu : X.A.units + 1 < cLine) (he : PX X bo W e fe) (hk : PX X bo W a fk) (hN : X.N[i]? = some x := by rfl) (hv : Vis X.env.scope x := by first | exact Or.inl rfl | exact Or.inr (Or.inl rfl) | exact Or.inr (Or.inr rfl)) (hd : (x == ("__debug__" : Str)) = false := by decide)
    (hcd : (x == ("__classdict__" : Str)) = false := by decide) (hs : swapsWith e (some (.Subscript (.Name x pv) a pt)) pos.line X.env = pure false := by rfl) : PSX X bo W (.Assign [.Subscript (.Name x pv) a pt] e pos) (sPutD i fe fk) := by
  obtain ⟨t, a1, a2⟩ := he
  obtain ⟨u, b1, b2⟩ := px_opn hk
  refine ⟨_, ps_dput hu (pe_var hN hv hd hcd) b1 a1 hs, fun c fp F env σ H Dn hc R g => ?_⟩
  unfold sPutD at g
  rw [kept_bnd] at g
  refine a2 c fp F env σ H _ hc R ((GoesS.bnd (σ := σ) g).mono (Ex.refl F) fun fp1 F1 env1 H1 o e1 R1 g1 v hv => ?_)
  obtain ⟨d, fp2, F2, env2, R2, e2, hden, g2⟩ := frz_okS R1 hv g1
  obtain ⟨es, ad, kvs, fr, k1, k2, k3, k4, k5, k6, g3⟩ := dcAt_ok R2 (GoesS.at σ (g2.mono e2))
  refine ⟨.ref ad, k2, ?_⟩
  refine b2 c fp2 F2 env2 σ H1 _ hc R2 ((Goes.bnd g3).mono (Ex.refl F2) fun fp3 F3 env3 H3 oi e3 R3 g4 w hn hw => ?_)
  obtain ⟨dk, q1, g5⟩ := rsv_ok R3 hw g4
  obtain ⟨k, hk', g6⟩ := goes_lift_bnd g5
  obtain ⟨es2, ad2, kvs2, fr2, z1, z2, z3, z4, z5, z6, g7⟩ := dcAt_ok R3 g6
  rw [k2] at z2
  cases z2
  split at g7
  · rename_i hh
    have hl := cells_len z6
    refine ⟨ad, _, rfl, .inl ⟨kvs2, k, z5, keyD_ok hk' q1, by rw [hl]; exact Nat.lt_trans hh.2 big_line, rfl⟩, ?_⟩
    have hF := (R3.ow i ad (by rw [z3]; exact List.mem_cons_self ..)).1
    have hAb : AbAt X.K F3 (upd H3 ad (.dK (putK kvs2 k v))) (.dc (putC es2 k d)) (.ref ad) (fp3 i) := ⟨ad, _, fr2, rfl, z3, z4, upd_same, cells_off (cells_put z6 (den_mono e3 _ _ hden) hh.1) z4⟩
    exact g7 fp3 F3 _ (R3.setAt z1 k2 (by rw [z3]; exact List.mem_cons_self ..) hAb) (Ex.refl F3)
  · exact g7.elim
/-- x['k'] != [] -/
def boolO : Opd → Option Bool
  | .val (.bool b) => some b
  | _ => none
def eCNe (i : Nat) (k : Str) : PM Bool := bnd (dcAt i) fun es => bnd (lift (flAt es (.inr k))) fun ds => bnd (lift (gEq true (.list ds) (.list []))) fun o => lift (boolO o)
theorem ptx_cNe {pl : Pos} (hu : X.A.units + 64 < cLine) (hu1 : X.A.units + 1 < cLine) (hN : X.N[i]? = some x := by rfl) (hv : Vis X.env.scope x := by first | exact Or.inl rfl | exact Or.inr (Or.inl rfl) | exact Or.inr (Or.inr rfl)) (hd : (x == ("__debug__" : Str)) = false := by decide)
    (hcd : (x == ("__classdict__" : Str)) = false := by decide) (hm : behindInMarks .NotEq (.List [] pl) = false := by rfl) : PTX X bo W (.Compare (.Subscript (.Name x pv) (.Constant (.str k) j pk) p) [.NotEq] [.List [] pl] pos) (eCNe i k) := by
  obtain ⟨r, h1, h2⟩ := o2_ne (X := X) hu
  refine ⟨_, pt_cmpR h1 (pe_dget hu1 (pe_var hN hv hd hcd) pe_str (fun _ _ => rfl)) (pe_lst pa_nil) hm, fun c fp F env σ H Q hc R g => ?_⟩
  obtain ⟨es, a, kvs, fr, k1, k2, k3, k4, k5, k6, g1⟩ := dcAt_ok R g
  obtain ⟨ds, hd', g2⟩ := goes_lift_bnd g1
  obtain ⟨o, ho, g3⟩ := goes_lift_bnd g2
  obtain ⟨bb, hb, g4⟩ := Goes.lift g3
  obtain ⟨q, xs, w1, w2, w3, w4, _⟩ := cells_fl k6 (flAt_ok hd')
  refine ⟨.ref a, k2, a, .ref q, rfl, .inl ⟨kvs, .inr k, .inl k5, rfl, w1.symm⟩, ?_⟩
  refine ⟨Nat.zero_le _, fun pp hp => ?_⟩
  have hne : q ≠ pp := fun z => by rw [← z, w3] at hp; cases hp
  have R1 := R.newH (o := .lst []) hp
  refine h2 F (upd H pp (.lst [])) (.ref q) (.ref pp) (.list ds) (.list []) o _ R1.fh ⟨q, xs, rfl, by rw [upd_ne hne]; exact w3, w4⟩ ⟨pp, [], rfl, upd_same, by simp only [Dens]⟩ ho fun v' H' got => ?_
  obtain ⟨F2, R2, e2, k2'⟩ := R1.got got
  cases o with
  | val d =>
    cases d with
    | bool b' =>
      cases hb
      have hv' : Den X.K F2 (.bool bb) v' := k2'
      simp only [Den] at hv'
      exact ⟨bb, hv', g4 fp F2 H' R2 e2⟩
    | _ => cases hb
  | _ => cases hb
/-- x['k'][-n] -/
def eCIx (i : Nat) (k : Str) (n : Int) : PM Opd := bnd (dcAt i) fun es => bnd (lift (flAt es (.inr k))) fun ds => lift (gIx (.list ds) (.int (-n)))
theorem px_cIx {n : Int} {j2 : Nat} {pn pu : Pos} (hu1 : X.A.units + 1 < cLine) (hN : X.N[i]? = some x := by rfl) (hv : Vis X.env.scope x := by first | exact Or.inl rfl | exact Or.inr (Or.inl rfl) | exact Or.inr (Or.inr rfl)) (hd : (x == ("__debug__" : Str)) = false := by decide)
    (hcd : (x == ("__classdict__" : Str)) = false := by decide) (hs : PlainIx (.UnaryOp .USub (.Constant (.int n) j2 pn) pu) := by exact fun _ _ => rfl) :
    PX X bo W (.Subscript (.Subscript (.Name x pv) (.Constant (.str k) j pk) p) (.UnaryOp .USub (.Constant (.int n) j2 pn) pu) pos) (eCIx i k n) := by
  obtain ⟨r, h1, h2⟩ := i2_ix (X := X)
  refine ⟨_, pe_ix h1 (pe_dget hu1 (pe_var hN hv hd hcd) pe_str (fun _ _ => rfl)) (pe_un un_neg pe_int) hs, fun c fp F env σ H Q hc R g => ?_⟩
  obtain ⟨es, a, kvs, fr, k1, k2, k3, k4, k5, k6, g1⟩ := dcAt_ok R g
  obtain ⟨ds, hd', g2⟩ := goes_lift_bnd g1
  obtain ⟨o, ho, _⟩ := Goes.lift g2
  obtain ⟨q, xs, w1, w2, w3, w4, _⟩ := cells_fl k6 (flAt_ok hd')
  refine ⟨.ref a, k2, a, .ref q, rfl, .inl ⟨kvs, .inr k, .inl k5, rfl, w1.symm⟩, n, rfl, ?_⟩
  exact h2 F H (.ref q) (.int (-n)) (.list ds) (.int (-n)) o Q R.fh ⟨q, xs, rfl, w3, w4⟩ (by simp only [BDen, Den]) ho fun v' H' got => fin_got R g2 ho got
theorem dens_last {K : PySem.W.Frag} {F : Hp} {ds : List D} {xs : List V} {d : D} (h : Dens K F ds xs) (e : ds.getLast? = some d) : ∃ y, xs[xs.length - 1]? = some y ∧ Den K F d y ∧ Dens K F ds.dropLast xs.dropLast := by
  rw [List.getLast?_eq_getElem?] at e
  have hl := dens_len h
  obtain ⟨y, h1, h2⟩ := dens_get' h e
  refine ⟨y, by rw [hl]; exact h1, h2, ?_⟩
  rw [List.dropLast_eq_take, List.dropLast_eq_take, hl]
  exact dens_take _ h
/-- x['k'].pop() -/
def eCPop (i : Nat) (k : Str) : PM Opd := bnd (dcAt i) fun es => bnd (lift (flAt es (.inr k))) fun ds => bnd (lift ds.getLast?) fun d => bnd (putS i (.ab (.dc (setC es (.inr k) (.fl ds.dropLast))))) fun _ => ret (.val d)
theorem px_cPop (hu1 : X.A.units + 1 < cLine) (hN : X.N[i]? = some x := by rfl) (hv : Vis X.env.scope x := by first | exact Or.inl rfl | exact Or.inr (Or.inl rfl) | exact Or.inr (Or.inr rfl)) (hd : (x == ("__debug__" : Str)) = false := by decide)
    (hcd : (x == ("__classdict__" : Str)) = false := by decide) (hbase : attributeBase (.Subscript (.Name x pv) (.Constant (.str k) j pk) p) "pop" X.env (eval (.Subscript (.Name x pv) (.Constant (.str k) j pk) p) X.env) = eval (.Subscript (.Name x pv) (.Constant (.str k) j pk) p) X.env := by rfl) (hline : (apos.endLine == cpos.line) = true := by rfl) :
    PX X bo W (.Call (.Attribute (.Subscript (.Name x pv) (.Constant (.str k) j pk) p) "pop" apos) [] [] cpos) (eCPop i k) := by
  refine ⟨_, pe_bm0 PySem.F.plainAttrs_list PySem.F.slot_list_pop PySem.F.type_list_pop mt_pop (pe_dget hu1 (pe_var hN hv hd hcd) pe_str (fun _ _ => rfl)) hbase hline, fun c fp F env σ H Q hc R g => ?_⟩
  obtain ⟨es, a, kvs, fr, k1, k2, k3, k4, k5, k6, g1⟩ := dcAt_ok R g
  obtain ⟨ds, hd', g2⟩ := goes_lift_bnd g1
  obtain ⟨d, hd2, g3⟩ := goes_lift_bnd g2
  obtain ⟨q, xs, w1, w2, w3, w4, w5⟩ := cells_fl k6 (flAt_ok hd')
  obtain ⟨y, y1, y2, y3⟩ := dens_last w4 hd2
  refine ⟨.ref a, k2, a, .ref q, rfl, .inl ⟨kvs, .inr k, .inl k5, rfl, w1.symm⟩, .inl ⟨rfl, xs, .inl (.inl w3)⟩, q, xs, y, rfl, rfl, w3, y1, ?_⟩
  have hne : a ≠ q := fun z => k4 (z ▸ w2)
  have hAb : AbAt X.K F (upd H q (.lst xs.dropLast)) (.dc (setC es (.inr k) (.fl ds.dropLast))) (.ref a) (fp i) := ⟨a, kvs, fr, rfl, k3, k4, by rw [upd_ne hne]; exact k5, w5 _ _ y3⟩
  exact g3 fp F _ (R.setAt k1 k2 (by rw [k3]; exact List.mem_cons_of_mem _ w2) hAb) (Ex.refl F) y y2
/-- x['k'].append(e) : e knows nothing of x -/
def hid {α : Type} (i : Nat) (f : PM D) (k : D → PM α) : PM α := fun env => match f (env.set i none) with
  | .ok d env' => k d (env'.set i (env.getD i none))
  | _ => .bad
def eCApp (i : Nat) (k : Str) (f : PM Opd) : PM Opd := bnd (dcAt i) fun es => bnd (lift (flAt es (.inr k))) fun ds => hid i (kept f) fun d => if ds.length < bigLine then bnd (putS i (.ab (.dc (setC es (.inr k) (.fl (ds ++ [d])))))) fun _ => ret (.val .none) else oops
theorem hid_ok {K : PySem.W.Frag} {c : Ct} {fp : Nat → List Addr} {F F0 : Hp} {env : PEnv} {σ : L2.St} {H : Hp} {i : Nat} {α : Type} {f : PM Opd} {kk : D → PM α} {G : (Nat → List Addr) → Hp → PEnv → Hp → α → Prop} {o : SV} (R : Rel K c fp F env σ H) (hi : env[i]? = some (some o)) (h0 : Ex F0 F)
    (g : Goes K c W σ F0 (hid i (kept f) kk env) G) : Goes K (c.lend i fp F H) W σ F (f (env.set i none)) fun fp1 F1 env1 H1 op => ∀ v, OpdOk K (c.lend i fp F H) fp1 F1 σ H1 op v →
      ∃ (d : D) (fp2 : Nat → List Addr) (F2 : Hp) (env2 : PEnv), Rel K c (fpSet fp2 i (fp i)) F2 (env2.set i (some o)) σ H1 ∧ (∀ q ∈ fp i, ∀ u, H q = some u → H1 q = some u) ∧ Ex F F2 ∧ Den K F2 d v ∧ Goes K c W σ F0 (kk d (env2.set i (some o))) G := by
  have hg : env.getD i none = some o := by rw [List.getD_eq_getElem?_getD, hi]; rfl
  cases ef : f (env.set i none) with
  | bad => simp only [hid, kept, bnd, ef] at g; exact g.elim
  | exc x e' => simp only [hid, kept, bnd, ef] at g; exact g.elim
  | ok op env1 =>
    intro fp1 F1 H1 R1 e1 v hv
    cases ez : frz op env1 with
    | bad => simp only [hid, kept, bnd, ef, ez] at g; exact g.elim
    | exc x e' => simp only [hid, kept, bnd, ef, ez] at g; exact g.elim
    | ok d e' =>
      simp only [hid, kept, bnd, ef, ez, hg] at g
      have gk : Goes K (c.lend i fp F H) W σ F1 (bnd (frz op) (fun d => ret d) env1) (fun fp' F' env' H' r => r = d ∧ env' = e') := by
        simp only [bnd, ez]
        exact fun _ _ _ _ _ => ⟨rfl, rfl⟩
      obtain ⟨d2, fp2, F2, env2, R2, e2, den, g2⟩ := frz_ok R1 hv gk
      obtain ⟨rfl, rfl⟩ := g2 fp2 F2 H1 R2 e2
      exact ⟨d2, fp2, F2, env2, R.unhide R2 hi, fun q hq u hu => (R.aside2 R2 hq).1 u hu, e1.trans e2, den, g⟩
theorem lend_ok {c : Ct} {i : Nat} {fp : Nat → List Addr} {F H : Hp} (hc : OkC c bo) : OkC (c.lend i fp F H) bo := fun q hq => hc q (List.mem_filter.mp hq).1
theorem px_cApp {f : PM Opd} (hu1 : X.A.units + 1 < cLine) (h : PX X bo W e f) (hN : X.N[i]? = some x := by rfl) (hv : Vis X.env.scope x := by first | exact Or.inl rfl | exact Or.inr (Or.inl rfl) | exact Or.inr (Or.inr rfl)) (hd : (x == ("__debug__" : Str)) = false := by decide)
    (hcd : (x == ("__classdict__" : Str)) = false := by decide) (hbase : attributeBase (.Subscript (.Name x pv) (.Constant (.str k) j pk) p) "append" X.env (eval (.Subscript (.Name x pv) (.Constant (.str k) j pk) p) X.env) = eval (.Subscript (.Name x pv) (.Constant (.str k) j pk) p) X.env := by rfl)
    (hfew : ((backTo cpos (starEach [e] X.env)).all (fun x => !x.1) && (backToKw cpos (keywordEach [] X.env)).all (fun x => x.1.isSome)
      && decide ([e].length + ([] : List Keyword).length + (if ([] : List Keyword).isEmpty then 0 else 1) < 30)) = true := by rfl)
    (hline : (apos.endLine == cpos.line) = true := by rfl) (hs : starEach [e] X.env = (false, eval e X.env) :: starEach [] X.env := by rfl) (hplain : (backTo cpos (starEach [] X.env)).any (·.1) = false := by rfl) :
    PX X bo W (.Call (.Attribute (.Subscript (.Name x pv) (.Constant (.str k) j pk) p) "append" apos) [e] [] cpos) (eCApp i k f) := by
  obtain ⟨t, h1, h2⟩ := h
  refine ⟨_, pe_bm PySem.F.plainAttrs_list PySem.F.slot_list_append PySem.F.type_list_append mt_append (pe_dget hu1 (pe_var hN hv hd hcd) pe_str (fun _ _ => rfl)) (pa_cons h1 pa_nil hs) hbase hfew hline hs hplain, fun c fp F env σ H Q hc R g => ?_⟩
  obtain ⟨es, a, kvs, fr, k1, k2, k3, k4, k5, k6, g1⟩ := dcAt_ok R g
  obtain ⟨ds, hd', g2⟩ := goes_lift_bnd g1
  obtain ⟨q, xs, w1, w2, w3, w4, w5⟩ := cells_fl k6 (flAt_ok hd')
  refine ⟨.ref a, k2, a, .ref q, rfl, .inl ⟨kvs, .inr k, .inl k5, rfl, w1.symm⟩, .inl ⟨rfl, xs, .inl (.inl w3)⟩, ?_⟩
  refine h2 (c.lend i fp F H) _ F _ σ H _ (lend_ok hc) (R.hide i) ((hid_ok R k1 (Ex.refl F) g2).mono (Ex.refl F) fun fp1 F1 env1 H1 o e1 R1 g3 v hv => ?_)
  obtain ⟨d, fp2, F2, env2, R2, kk, e2, den, g4⟩ := g3 v hv
  have hq : q ∈ fp i := by rw [k3]; exact List.mem_cons_of_mem _ w2
  have ha : a ∈ fp i := by rw [k3]; exact List.mem_cons_self ..
  have w3' := kk q hq _ w3
  split at g4
  · rename_i hl
    refine ⟨q, xs, v, rfl, rfl, w3', by rw [dens_len w4]; exact Nat.lt_trans hl big_line, ?_⟩
    have hne : a ≠ q := fun z => k4 (z ▸ w2)
    have k6' : CellsAt X.K F2 H1 es kvs fr := cells_keep e2 k6 fun b u hb hu => kk b (by rw [k3]; exact List.mem_cons_of_mem _ hb) u hu
    obtain ⟨q', xs', v1, v2, v3, v4, v5⟩ := cells_fl k6' (flAt_ok hd')
    rw [w1] at v1
    cases v1
    rw [w3'] at v3
    cases v3
    have hAb : AbAt X.K F2 (upd H1 q (.lst (xs ++ [v]))) (.dc (setC es (.inr k) (.fl (ds ++ [d])))) (.ref a) (fpSet fp2 i (fp i) i) := by
      rw [fpSet_same]
      exact ⟨a, kvs, fr, rfl, k3, k4, by rw [upd_ne hne]; exact kk a ha _ k5, v5 _ _ (dens_app v4 (dens_one den))⟩
    have hlen : i < env2.length := by
      have e9 := R2.ln
      rw [List.length_set] at e9
      rw [e9, ← R.ln]
      exact (List.getElem?_eq_some_iff.mp k1).1
    have R3 := R2.setAt (i := i) (t := .dc es) (v := .ref a) (by rw [List.getElem?_set_self hlen]) k2 (by rw [fpSet_same]; exact hq) hAb
    exact g4 _ F2 _ R3 e2 .non (by show Den _ _ _ _; simp only [Den])
  · exact g4.elim
/-- x.pop(), x.pop(e) at a list that a name holds -/
def ePop (i : Nat) : PM Opd := bnd (lsAt i) fun ds => bnd (lift ds.getLast?) fun d => bnd (putS i (.ls ds.dropLast)) fun _ => ret (.val d)
theorem px_pop (hN : X.N[i]? = some x := by rfl) (hv : Vis X.env.scope x := by first | exact Or.inl rfl | exact Or.inr (Or.inl rfl) | exact Or.inr (Or.inr rfl)) (hd : (x == ("__debug__" : Str)) = false := by decide)
    (hcd : (x == ("__classdict__" : Str)) = false := by decide) (hbase : attributeBase (.Name x pv) "pop" X.env (eval (.Name x pv) X.env) = eval (.Name x pv) X.env := by rfl) (hline : (apos.endLine == cpos.line) = true := by rfl) :
    PX X bo W (.Call (.Attribute (.Name x pv) "pop" apos) [] [] cpos) (ePop i) := by
  refine ⟨_, pe_bm0 PySem.F.plainAttrs_list PySem.F.slot_list_pop PySem.F.type_list_pop mt_pop (pe_var hN hv hd hcd) hbase hline, fun c fp F env σ H Q hc R g => ?_⟩
  obtain ⟨ds, a, xs, k1, k2, k3, k4, k5, g1⟩ := lsAt_ok R g
  obtain ⟨d, hd2, g2⟩ := goes_lift_bnd g1
  obtain ⟨y, y1, y2, y3⟩ := dens_last k5 hd2
  refine ⟨.ref a, k2, .inl ⟨rfl, xs, .inl (.inl k4)⟩, a, xs, y, rfl, rfl, k4, y1, ?_⟩
  exact g2 fp F _ (R.setLs k1 k2 k3 y3) (Ex.refl F) y y2
theorem dens_erase {K : PySem.W.Frag} {F : Hp} : ∀ {ds : List D} {xs : List V} (j : Nat), Dens K F ds xs → Dens K F (ds.eraseIdx j) (xs.eraseIdx j)
  | [], xs, j, h => by
    have : xs = [] := by simpa only [Dens] using h
    subst this
    simp [Dens]
  | d :: ds, xs, 0, h => by
    simp only [Dens] at h
    obtain ⟨v, r, rfl, h1, h2⟩ := h
    simpa using h2
  | d :: ds, xs, j + 1, h => by
    simp only [Dens] at h
    obtain ⟨v, r, rfl, h1, h2⟩ := h
    simp only [List.eraseIdx_cons_succ, Dens]
    exact ⟨v, _, rfl, h1, dens_erase j h2⟩
def popIx (n : Nat) : D → Option Nat
  | .int z => if inLine z = true then seqIndex? z n else none
  | _ => none
def ePopAt (i : Nat) (f : PM Opd) : PM Opd := bnd (lsAt i) fun _ => bnd (opn f) fun o => bnd (rsv o) fun dk => bnd (lsAt i) fun ds => bnd (lift (popIx ds.length dk)) fun j => bnd (lift ds[j]?) fun d => bnd (putS i (.ls (ds.eraseIdx j))) fun _ => ret (.val d)
theorem px_popAt {f : PM Opd} (h : PX X bo W e f) (hN : X.N[i]? = some x := by rfl) (hv : Vis X.env.scope x := by first | exact Or.inl rfl | exact Or.inr (Or.inl rfl) | exact Or.inr (Or.inr rfl)) (hd : (x == ("__debug__" : Str)) = false := by decide)
    (hcd : (x == ("__classdict__" : Str)) = false := by decide) (hbase : attributeBase (.Name x pv) "pop" X.env (eval (.Name x pv) X.env) = eval (.Name x pv) X.env := by rfl)
    (hfew : ((backTo cpos (starEach [e] X.env)).all (fun x => !x.1) && (backToKw cpos (keywordEach [] X.env)).all (fun x => x.1.isSome)
      && decide ([e].length + ([] : List Keyword).length + (if ([] : List Keyword).isEmpty then 0 else 1) < 30)) = true := by rfl)
    (hline : (apos.endLine == cpos.line) = true := by rfl) (hs : starEach [e] X.env = (false, eval e X.env) :: starEach [] X.env := by rfl) (hplain : (backTo cpos (starEach [] X.env)).any (·.1) = false := by rfl) :
    PX X bo W (.Call (.Attribute (.Name x pv) "pop" apos) [e] [] cpos) (ePopAt i f) := by
  obtain ⟨t, h1, h2⟩ := px_opn h
  refine ⟨_, pe_bm PySem.F.plainAttrs_list PySem.F.slot_list_pop PySem.F.type_list_pop mt_popAt (pe_var hN hv hd hcd) (pa_cons h1 pa_nil hs) hbase hfew hline hs hplain, fun c fp F env σ H Q hc R g => ?_⟩
  obtain ⟨ds, a, xs, k1, k2, k3, k4, k5, g1⟩ := lsAt_ok R g
  refine ⟨.ref a, k2, .inl ⟨rfl, xs, .inl (.inl k4)⟩, ?_⟩
  refine h2 c fp F env σ H _ hc R ((Goes.bnd g1).mono (Ex.refl F) fun fp1 F1 env1 H1 o e1 R1 g2 v hn hv => ?_)
  obtain ⟨dk, q1, g3⟩ := rsv_ok R1 hv g2
  obtain ⟨ds2, a2, xs2, z1, z2, z3, z4, z5, g4⟩ := lsAt_ok R1 g3
  rw [k2] at z2
  cases z2
  obtain ⟨jj, hj, g5⟩ := goes_lift_bnd g4
  obtain ⟨d, hdj, g6⟩ := goes_lift_bnd g5
  cases dk with
  | int z =>
    simp only [popIx] at hj
    split at hj
    · rename_i hh
      obtain ⟨y, y1, y2⟩ := dens_get' z5 hdj
      refine ⟨a, xs2, z, jj, y, rfl, by rw [bd_int q1], z4, by have := (inLine_ok hh).1; omega, by have := (inLine_ok hh).2; omega, by rw [dens_len z5]; exact hj, y1, ?_⟩
      exact g6 fp1 F1 _ (R1.setLs z1 k2 z3 (dens_erase jj z5)) (Ex.refl F1) y y2
    · cases hj
  | _ => cases hj
/-- the script's first signs -/
def eScSl (i : Nat) (n : Int) : PM Opd := bnd (abAtE i) fun t => bnd (lift (scE t)) fun ns => ret (.tmp (cutD (ns.map PyData.int) none (some n)))
theorem dens_ints' {K : PySem.W.Frag} {F : Hp} : ∀ ns : List Int, Dens K F (ns.map PyData.int) (ns.map V.int)
  | [] => by simp [Dens]
  | n :: ns => by
    simp only [List.map_cons, Dens, Den]
    exact ⟨_, _, rfl, rfl, dens_ints' ns⟩
theorem px_scSl {n : Int} {j2 : Nat} {pn p2 : Pos} (hN : X.N[i]? = some x := by rfl) (hv : Vis X.env.scope x := by first | exact Or.inl rfl | exact Or.inr (Or.inl rfl) | exact Or.inr (Or.inr rfl)) (hd : (x == ("__debug__" : Str)) = false := by decide)
    (hcd : (x == ("__classdict__" : Str)) = false := by decide) : PX X bo W (.Subscript (.Name x pv) (.Slice none (some (.Constant (.int n) j2 pn)) none p2) pos) (eScSl i n) := by
  refine ⟨_, pe_slice sl_list (pe_var hN hv hd hcd) po_none (po_some pe_int), fun c fp F env σ H Q hc R g => ?_⟩
  obtain ⟨t, v, k1, k2, k3, g1⟩ := abAt_ok R g
  obtain ⟨ns, hns, g2⟩ := goes_lift_bnd g1
  cases t with
  | sc ns' =>
    cases hns
    obtain ⟨a, rfl, _, h3⟩ := k3
    refine ⟨.ref a, k2, ?_⟩
    refine ⟨n, rfl, a, ns.map V.int, rfl, ex_l R.fh h3, fun q hq => ?_⟩
    obtain ⟨F3, R3, e3, k3'⟩ := R.got (Got.lst (K := X.K) hq (dens_cut (lo := none) (hi := some n) (dens_ints' ns)))
    exact g2 fp F3 _ R3 e3 _ k3'
  | _ => cases hns
/-- {} , owned -/
theorem px_dtab : PX X bo W (.Dict [] [] pos) (ret (.tab (.dc []))) := by
  refine ⟨_, pe_dnewK, fun c fp F env σ H Q hc R g q hq => ?_⟩
  obtain ⟨n1, n2, n3⟩ := R.free hq
  refine g fp F _ (R.newH hq) (Ex.refl F) (.ref q) ⟨[q], ⟨q, [], [], rfl, rfl, by simp, upd_same, rfl, rfl⟩, fun a ha => ?_⟩
  have : a = q := by simpa using ha
  subst this
  exact ⟨n1, n2, n3⟩
end
end Pu

namespace Pu
open PySem PySem.Spec PyProof.Rows L2
/-! ### lists of lists -/
theorem rows_snoc {K : PySem.W.Frag} {F H : Hp} {p : Addr} {ds : List D} {ys : List V} : ∀ {cs : List (List D)} {vs : List V} {fr : List Addr}, RowsAt K F H cs vs fr → p ∉ fr → H p = some (.lst ys) → Dens K F ds ys → RowsAt K F H (cs ++ [ds]) (vs ++ [.ref p]) (fr ++ [p])
  | [], _, _, ⟨h1, h2⟩, hp, h3, h4 => by
    subst h1 h2
    exact ⟨p, [], [], ys, rfl, rfl, by simp, h3, h4, rfl, rfl⟩
  | ds' :: cs, _, _, ⟨b, r, fr, xs, h1, h2, h3, h4, h5, h6⟩, hp, k1, k2 => by
    subst h1 h2
    have hp1 : p ∉ fr := fun z => hp (List.mem_cons_of_mem _ z)
    have hne : p ≠ b := fun z => hp (z ▸ List.mem_cons_self ..)
    refine ⟨b, _, fr ++ [p], xs, rfl, rfl, fun z => ?_, h4, h5, rows_snoc h6 hp1 k1 k2⟩
    rcases List.mem_append.mp z with z | z
    · exact h3 z
    · have z' : b = p := by simpa using z
      exact hne z'.symm
def eNil : PM Opd := eLst (ret [])
section
variable {X : Cx} {bo : List Nat} {W : WX} {tg elt iter e : Expr} {ifs : List Expr} {pos : Pos}
theorem rd_ll {K : PySem.W.Frag} {c : Ct} {σ : L2.St} {F1 H1 : Hp} {fp1 : Nat → List Addr} {env1 : PEnv} {js vs : List Nat} {s : D → PEnv → Option PEnv} {ds : List D} {J : It} {Gp : Hp → Prop} {Y : Nat → Hp → V → Hp → Prop} {Q : VK}
    (hc : OkC c bo) (hb0 : ∀ b ∈ bo, b ∉ vs) (hjs : ∀ j ∈ js, j ∈ vs) (R1 : Rel K c fp1 F1 env1 σ H1) (wk : Walk J ds.length Gp Y) (st : ∀ c, Steady K c F1 ds Gp Y)
    (q : GL (goLc vs s (ret true) eNil ds [] (wipeE env1 vs)) fun acc env' => ∀ fp' F' H' v, Rel K c fp' F' (rst env1 env' vs) σ H' → Ex F1 F' → OpdOk K c fp' F' σ H' (.tab (.ll (acc.map fun _ => []))) v → Q v H') (Dd : Addr) (hD : H1 Dd = none) :
    ∃ W : Nat → Nat → Hp → Prop, (∃ m, W 0 m (upd H1 Dd (.lst []))) ∧ ∀ i m H, W i m H →
      (J.stop i H ∧ Q (.ref Dd) H) ∨ (J.go i H ∧ ∃ Nx : Hp → Prop, (∀ H', Nx H' → ∃ m', m' < m ∧ W (i + 1) m' H') ∧ ∀ x H', J.yld i H x H' → semG K bo js s x (wipe σ vs) H' fun σ2 H2 => wipe σ2 vs = wipe σ vs ∧ semT K bo W0 (ret true) σ2 H2 fun b H3 =>
        if b = true then semE K bo W0 eNil σ2 H3 fun y H4 => ∃ acc, H4 Dd = some (.lst acc) ∧ acc.length < sizeLine ∧ Nx (upd H4 Dd (.lst (acc ++ [y]))) else Nx H3) := by
  have h0 : ∀ q ∈ c.br, q.1 ∉ vs := fun q hq => hb0 _ (hc q hq)
  obtain ⟨n1, n2, n3⟩ := R1.free hD
  refine lc_it wk (fun i H => ∃ fp F env acc xs fr, Rel K c fp F env (wipe σ vs) H ∧ Ex F1 F ∧ H Dd = some (.lst xs) ∧ F Dd = none ∧ (∀ i, Dd ∉ fp i) ∧ RowsAt K F H (acc.map fun _ => []) xs fr ∧ xs.length = acc.length ∧ Dd ∉ fr ∧ (∀ b ∈ fr, H b ≠ none ∧ F b = none ∧ c.H0 b = none ∧ ∀ i, b ∉ fp i) ∧
    GL (goLc vs s (ret true) eNil (ds.drop i) acc env) fun acc env' => ∀ fp' F' H' v, Rel K c fp' F' (rst env1 env' vs) σ H' → Ex F1 F' → OpdOk K c fp' F' σ H' (.tab (.ll (acc.map fun _ => []))) v → Q v H')
    ⟨_, F1, _, [], [], [], (R1.newH hD).wiped vs h0, Ex.refl _, upd_same, n1, fun i hi => ?_, (show RowsAt K F1 (upd H1 Dd (.lst [])) (([] : List D).map fun _ => []) [] [] from ⟨rfl, rfl⟩), rfl, by simp, (fun b hb => nomatch hb), q⟩ (fun i H _ ⟨fp, F, env, acc, xs, fr, R, e, _⟩ => (st c).1 F H e R.fh) (fun i x H2 H3 hi ⟨fp, F, env, acc, xs, fr, R, e, d1, d2, d3, d4, d5, d6, d7, g⟩ y => ?_) (fun H2 ⟨fp, F, env, acc, xs, fr, R, e, d1, d2, d3, d4, d5, d6, d7, g⟩ => ?_)
  · split at hi
    · cases hi
    · exact n3 i hi
  · obtain ⟨F3, d, hd, R3, e3, den, eh⟩ := (st (c.sub fp F H2)).2 i fp F env (wipe σ vs) H2 x H3 hi R.into e y
    have hdr : ds.drop i = d :: ds.drop (i + 1) := by
      have hlt : i < ds.length := hi
      rw [List.drop_eq_getElem_cons hlt]
      rw [List.getElem?_eq_getElem hlt] at hd
      cases hd
      rfl
    rw [hdr] at g
    cases es : s d env with
    | none => simp only [goLc, es] at g; exact g.elim
    | some env2 =>
      simp only [goLc, es] at g
      have hc' : OkC (c.sub fp F H2) bo := hc
      refine ⟨c.sub fp F H2, fp, F3, env, d, env2, hc', R3, den, es, fun fp4 σ4 R4 k4 => ⟨(k4 vs hjs).trans (wipe_wipe σ vs), ?_⟩⟩
      refine ⟨c.sub fp F H2, fp4, F3, env2, hc', R4, ?_⟩
      have et : (ret true : PM Bool) env2 = .ok true env2 := rfl
      have ek : kept eNil env2 = .ok (.list []) env2 := rfl
      simp only [et, if_true, ek] at g
      rw [et]
      intro fp5 F5 H5 R5 e5
      show semE K bo W0 eNil σ4 H5 _
      refine ⟨c.sub fp F H2, fp5, F5, env2, hc', R5, ?_⟩
      show Goes K _ W0 σ4 F5 (Res.ok (Opd.tmp []) env2) _
      intro fp6 F6 H6 R6 e6 v hv
      obtain ⟨p1, p2, p3⟩ := R6.aside d1 d2 d3
      split at g
      · rename_i hl
        obtain ⟨p, ys, rfl, v2, v3, v4, v5, v6⟩ := hv
        have hys : ys = [] := by simpa only [Dens] using v6
        subst hys
        have hpn : H2 p = none := v4
        refine ⟨xs, p1, by rw [d5]; exact Nat.lt_trans hl big_line, ?_⟩
        have Rz := (R.outof R6).wiped vs h0
        rw [k4 vs hjs, wipe_wipe] at Rz
        have ef : Ex F F6 := e3.trans (e5.trans e6)
        have hpf : p ∉ fr := fun z => (d7 p z).1 hpn
        have hpD : p ≠ Dd := fun z => by rw [z, d1] at hpn; cases hpn
        have keepB : ∀ b ∈ fr, ∀ u, H2 b = some u → upd H6 Dd (.lst (xs ++ [.ref p])) b = some u := fun b hb u hu => by
          have hbD : b ≠ Dd := fun z => d6 (z ▸ hb)
          rw [upd_ne hbD]
          exact (R6.aside hu (d7 b hb).2.1 (d7 b hb).2.2.2).1
        refine ⟨_, F6, _, acc ++ [.list []], xs ++ [.ref p], fr ++ [p], Rel.over Rz p1 p2 (fun i hi => ?_) (n2c := n2), e.trans ef, upd_same, p2, fun i hi => ?_, ?_, ?_, ?_, fun b hb => ?_, g⟩
        · split at hi
          · cases hi
          · exact p3 i hi
        · split at hi
          · cases hi
          · exact p3 i hi
        · rw [List.map_append]
          refine rows_snoc (rows_keep ef d4 fun b u hb hu => keepB b hb u hu) hpf (by rw [upd_ne hpD]; exact v2) (by simp only [Dens])
        · rw [List.length_append, List.length_append, d5]
          rfl
        · intro z
          rcases List.mem_append.mp z with z | z
          · exact d6 z
          · have z' : Dd = p := by simpa using z
            exact hpD z'.symm
        · rcases List.mem_append.mp hb with hb | hb
          · obtain ⟨w1, w2, w3, w4⟩ := d7 b hb
            cases eb : H2 b with
            | none => exact absurd eb w1
            | some u =>
              obtain ⟨z1, z2, z3⟩ := R6.aside eb w2 w4
              refine ⟨by rw [keepB b hb u eb]; simp, z2, w3, fun i hi => ?_⟩
              split at hi
              · cases hi
              · exact z3 i hi
          · have : b = p := by simpa using hb
            subst this
            refine ⟨by rw [upd_ne hpD, v2]; simp, v3, ?_, fun i hi => ?_⟩
            · cases ec : c.H0 b with
              | none => rfl
              | some o => exact absurd hpn (R.al b (by rw [ec]; simp))
            · split at hi
              · cases hi
              · exact v5 i hi
      · exact g.elim
  · rw [List.drop_length] at g
    have R2 := Rel.restored R1 e vs h0 R
    refine g _ F H2 _ R2 e ⟨Dd :: fr, ⟨Dd, xs, fr, rfl, rfl, d6, d1, d4⟩, fun a ha => ?_⟩
    rcases List.mem_cons.mp ha with rfl | ha
    · refine ⟨d2, n2, fun i hi => ?_⟩
      have hi : a ∈ (if i ∈ vs then [] else fp i) := hi
      split at hi
      · cases hi
      · exact d3 i hi
    · obtain ⟨w1, w2, w3, w4⟩ := d7 a ha
      refine ⟨w2, w3, fun i hi => ?_⟩
      have hi : a ∈ (if i ∈ vs then [] else fp i) := hi
      split at hi
      · cases hi
      · exact w4 i hi
end
end Pu

namespace Pu
open PySem PySem.Spec PyProof.Rows L2
section
variable {X : Cx} {bo : List Nat} {W : WX} {tg elt iter e a b : Expr} {es : List Expr} {ifs : List Expr} {pos p pv pk apos cpos : Pos} {x : Str} {i j : Nat} {k : Str}
/-- name = [[] for ..] -/
def eLl (it : PM (List D)) (vs : List Nat) (s : D → PEnv → Option PEnv) : PM Opd := bnd it fun ds env => match goLc vs s (ret true) eNil ds [] (wipeE env vs) with
  | .ok acc env' => .ok (.tab (.ll (acc.map fun _ => []))) (rst env env' vs)
  | _ => .bad
theorem px_nil {pl : Pos} : PX X bo W (.List [] pl) eNil := px_lst paf_nil
theorem psx_setLl {scope : Scope} {own : List (Str × Nat)} {js : List Nat} {it : PM (List D)} {s : D → PEnv → Option PEnv} {i : Nat} {y : Str} {py spos pl : Pos} (hcalm : X.calm = true) (hN : X.N.Nodup) (hi : PIX X bo W tg iter it) (ok : BlkOk X.N X.env.scope scope own)
    (hg : ∀ (s₀ : Shared) (H : Hp) (C : Addr) (cl : List (Str × Addr)) (fp : List Addr), TGX (X.blk s₀ H scope (compEnvC scope cl C X.env) fp) bo tg js s) (hb0 : ∀ b ∈ bo, b ∉ own.map (·.2)) (hjs : ∀ j ∈ js, j ∈ own.map (·.2))
    (hy : X.N[i]? = some y) (hyl : X.env.scope.names.lookup y = some .local) (hb : bo.contains i = false)
    (hsw : swapsWith (.ListComp (.List [] pl) [⟨tg, iter, [], 0⟩] scope pos) (some (.Name y py)) spos.line X.env = pure true)
    (hs : ∀ x, foldedSetIterable iter X.env x = pure x := by intro _; rfl) : PSX X bo W (.Assign [.Name y py] (.ListComp (.List [] pl) [⟨tg, iter, [], 0⟩] scope pos) spos) (sSet i (eLl it (own.map (·.2)) s)) := by
  obtain ⟨wi, i1, i2⟩ := hi
  refine ⟨_, ps_setLc (g := semG X.K bo js s) (tt := semT X.K bo W0 (ret true)) (te := semE X.K bo W0 eNil) hcalm hN hy hyl hsw i1 ok (fun s₀ H C cl fp => tgx_sem (hg s₀ H C cl fp)) (fun s₀ H C cl fp => ptsx_sem ptsx_nil) (fun s₀ H C cl fp => px_sem px_nil) hs, fun c fp F env σ H D hc R g => ?_⟩
  have hi0 : ∀ q ∈ c.br, q.1 ≠ i := okc_ne hc hb
  have g0 := GoesS.bnd (σ := σ) g
  refine i2 c fp F env σ H _ hc R ((Goes.bnd g0).mono (Ex.refl F) fun fp1 F1 env1 H1 ds e1 R1 g1 J Gp Y wk st Dd hD => ?_)
  refine rd_ll (Q := fun x H1 => gName i x σ H1 D.nx) hc hb0 hjs R1 wk st ?_ Dd hD
  cases er : goLc (own.map (·.2)) s (ret true) eNil ds [] (wipeE env1 (own.map (·.2))) with
  | bad => simp only [er] at g1; exact g1.elim
  | exc x e => simp only [er] at g1; exact g1.elim
  | ok acc env' =>
    simp only [er] at g1
    intro fp' F' H' v R' e' hv
    have g2 := g1 fp' F' H' R' e'
    obtain ⟨fp2, F2, env2, R2, e2, g3⟩ := asg_ok hi0 R' hv g2
    exact g3 fp2 F2 _ H' R2 (Ex.refl F2)
/-! what changes nothing -/
def PQX (X : Cx) (e : Expr) (q : PEnv → Option D) : Prop := ∃ t, PE X e t ∧ ∀ c fp F env σ H (Q : VK) d, Rel X.K c fp F env σ H → q env = some d → (∀ v, Den X.K F d v → Q v H) → t σ H Q
def qVar (i : Nat) : PEnv → Option D := fun env => match env[i]? with
  | some (some (.im d)) => some d
  | _ => none
def qC (d : D) : PEnv → Option D := fun _ => some d
theorem pq_var (i : Nat) (hN : X.N[i]? = some x := by rfl) (hv : Vis X.env.scope x := by first | exact Or.inl rfl | exact Or.inr (Or.inl rfl) | exact Or.inr (Or.inr rfl)) (hd : (x == ("__debug__" : Str)) = false := by decide)
    (hcd : (x == ("__classdict__" : Str)) = false := by decide) : PQX X (.Name x pv) (qVar i) := by
  refine ⟨_, pe_var hN hv hd hcd, fun c fp F env σ H Q d R h q => ?_⟩
  unfold qVar at h
  cases e : env[i]? with
  | none => simp only [e] at h; cases h
  | some s =>
    cases s with
    | none => simp only [e] at h; cases h
    | some s =>
      cases s with
      | im d' =>
        simp only [e] at h
        cases h
        obtain ⟨v, h1, h2⟩ := R.sl i _ e
        exact ⟨v, h1, q v h2⟩
      | _ => simp only [e] at h; cases h
theorem pq_int {n : Int} : PQX X (.Constant (.int n) j pv) (qC (.int n)) := ⟨_, pe_int, fun c fp F env σ H Q d R h q => by cases h; exact q _ (by simp only [Den])⟩
/-- {'k1': [..], 'k2': e, 'k3': e} , owned -/
def eBag3 (k1 k2 k3 : Str) (f : PM Opd) (q2 q3 : PEnv → Option D) : PM Opd := bnd f fun o env => match o with
  | .tmp ds => match q2 env with
    | some d2 => match q3 env with
      | some d3 => .ok (.tab (.dc [(.inr k1, .fl ds), (.inr k2, .im d2), (.inr k3, .im d3)])) env
      | none => .bad
    | none => .bad
  | _ => .bad
theorem px_bag3 {k1 k2 k3 : Str} {j1 j2 j3 : Nat} {p1 p2 p3 : Pos} {e2 e3 : Expr} {f : PM Opd} {q2 q3 : PEnv → Option D} (h : PX X bo W e f) (h2 : PQX X e2 q2) (h3 : PQX X e3 q3) (n12 : k1 ≠ k2 := by decide) (n13 : k1 ≠ k3 := by decide) (n23 : k2 ≠ k3 := by decide) :
    PX X bo W (.Dict [some (.Constant (.str k1) j1 p1), some (.Constant (.str k2) j2 p2), some (.Constant (.str k3) j3 p3)] [e, e2, e3] pos) (eBag3 k1 k2 k3 f q2 q3) := by
  obtain ⟨t, a1, a2⟩ := h
  obtain ⟨t2, b1, b2⟩ := h2
  obtain ⟨t3, c1, c2⟩ := h3
  refine ⟨_, pe_disp (pps_cons pe_str a1 (pps_cons pe_str b1 (pps_cons pe_str c1 pps_nil))) rfl rfl (by simp) (by simp), fun c fp F env σ H Q hc R g q hq => ?_⟩
  obtain ⟨n1, n2, n3⟩ := R.free hq
  have R1 := R.newH (o := .dK []) hq
  show t σ (upd H q (.dK [])) _
  refine a2 (c.sub fp F (upd H q (.dK []))) fp F env σ _ _ hc R1.into ?_
  cases ef : f env with
  | bad => simp only [eBag3, bnd, ef] at g; exact g.elim
  | exc x' e' =>
    simp only [eBag3, bnd, ef] at g
    exact fun fp1 F1 H1 d R2 e2 hx => g fp1 F1 H1 d (R1.outof R2) e2 hx
  | ok o env1 =>
    intro fp1 F1 H1 R2 ex v hv
    simp only [eBag3, bnd, ef] at g
    cases o with
    | tmp ds =>
      simp only at g
      cases eq2 : q2 env1 with
      | none => simp only [eq2] at g; exact g.elim
      | some d2 =>
        simp only [eq2] at g
        cases eq3 : q3 env1 with
        | none => simp only [eq3] at g; exact g.elim
        | some d3 =>
          simp only [eq3] at g
          obtain ⟨bb, xs, rfl, v2, v3, v4, v5, v6⟩ := hv
          obtain ⟨p1', p2', p3'⟩ := R2.aside upd_same n1 n3
          show t2 σ H1 _
          refine b2 _ fp1 F1 env1 σ H1 _ d2 R2 eq2 fun w2 hw2 => ?_
          show t3 σ H1 _
          refine c2 _ fp1 F1 env1 σ H1 _ d3 R2 eq3 fun w3 hw3 => ?_
          refine ⟨p1', [(Sum.inr k1, .ref bb), (Sum.inr k2, w2), (Sum.inr k3, w3)], rfl, by simp, ?_⟩
          have hk : mergeK [] [((Sum.inr k1 : Key), V.ref bb), (Sum.inr k2, w2), (Sum.inr k3, w3)] = [(Sum.inr k1, .ref bb), (Sum.inr k2, w2), (Sum.inr k3, w3)] := by
            simp [mergeK, putK, n12, n13, n23]
          rw [hk]
          have hbq : bb ≠ q := fun z => by
            have v4' : upd H q (.dK []) bb = none := v4
            rw [z, upd_same] at v4'
            cases v4'
          have hb0 : c.H0 bb = none := by
            have v4' : upd H q (.dK []) bb = none := v4
            rw [upd_ne hbq] at v4'
            exact (R.free v4').2.1
          have R4 := (R1.outof R2).over (u := .dK [(Sum.inr k1, .ref bb), (Sum.inr k2, w2), (Sum.inr k3, w3)]) p1' p2' p3' n2
          refine g fp1 F1 _ R4 ex (.ref q) ⟨[q, bb], ⟨q, _, [bb], rfl, rfl, by simpa using hbq.symm, upd_same, ⟨bb, _, [], xs, rfl, rfl, by simp, by rw [upd_ne hbq]; exact v2, v6, w2, _, rfl, hw2, w3, [], rfl, hw3, rfl, rfl⟩⟩, fun z hz => ?_⟩
          rcases List.mem_cons.mp hz with rfl | hz
          · exact ⟨p2', n2, p3'⟩
          · have : z = bb := by simpa using hz
            subst this
            exact ⟨v3, hb0, v5⟩
    | _ => exact g.elim
/-! e in x, e not in x, sorted(x): x an owned dict -/
def inD (neg : Bool) (es : List (Key × Cell)) (k : Key) : Bool := if neg = true then !(es.any fun kv => decide (kv.1 = k)) else es.any fun kv => decide (kv.1 = k)
def eInD (neg : Bool) (i : Nat) (f : PM Opd) : PM Bool := bnd (opn f) fun o => bnd (rsv o) fun dk => bnd (lift (keyD dk)) fun k => bnd (dcAt i) fun es => ret (inD neg es k)
theorem din_ok {K : PySem.W.Frag} {F H : Hp} {es : List (Key × Cell)} {kvs : List (Key × V)} {fr : List Addr} {k : Key} (h : CellsAt K F H es kvs fr) : (valV kvs k).isSome = es.any fun kv => decide (kv.1 = k) := by
  rw [← cells_any h, valV_any]
theorem ptx_inD {f : PM Opd} (hu : X.A.units + 1 < cLine) (ha : PX X bo W a f) (hN : X.N[i]? = some x := by rfl) (hv : Vis X.env.scope x := by first | exact Or.inl rfl | exact Or.inr (Or.inl rfl) | exact Or.inr (Or.inr rfl)) (hd : (x == ("__debug__" : Str)) = false := by decide)
    (hcd : (x == ("__classdict__" : Str)) = false := by decide) (hm : behindInMarks .In (.Name x pv) = false := by rfl) : PTX X bo W (.Compare a [.In] [.Name x pv] pos) (eInD false i f) := by
  obtain ⟨t, h1, h2⟩ := px_opn ha
  refine ⟨_, pt_cmp (pc_din hu h1 (pe_var hN hv hd hcd)) hm, fun c fp F env σ H Q hc R g => ?_⟩
  refine h2 c fp F env σ H _ hc R ((Goes.bnd g).mono (Ex.refl F) fun fp1 F1 env1 H1 o e1 R1 g1 v hn hv => ?_)
  obtain ⟨dk, k1, g2⟩ := rsv_ok R1 hv g1
  obtain ⟨k, hk, g3⟩ := goes_lift_bnd g2
  obtain ⟨es, a', kvs, fr, z1, z2, z3, z4, z5, z6, g4⟩ := dcAt_ok R1 g3
  refine ⟨.ref a', z2, a', _, rfl, by rw [keyD_ok hk k1]; exact .inl ⟨kvs, k, .inl z5, rfl, rfl⟩, _, rfl, ?_⟩
  rw [din_ok z6]
  exact g4 fp1 F1 H1 R1 (Ex.refl F1)
theorem ptx_notInD {f : PM Opd} (hu : X.A.units + 1 < cLine) (ha : PX X bo W a f) (hN : X.N[i]? = some x := by rfl) (hv : Vis X.env.scope x := by first | exact Or.inl rfl | exact Or.inr (Or.inl rfl) | exact Or.inr (Or.inr rfl)) (hd : (x == ("__debug__" : Str)) = false := by decide)
    (hcd : (x == ("__classdict__" : Str)) = false := by decide) (hm : behindInMarks .NotIn (.Name x pv) = false := by rfl) : PTX X bo W (.Compare a [.NotIn] [.Name x pv] pos) (eInD true i f) := by
  obtain ⟨t, h1, h2⟩ := px_opn ha
  refine ⟨_, pt_cmp (pc_dnotin hu h1 (pe_var hN hv hd hcd)) hm, fun c fp F env σ H Q hc R g => ?_⟩
  refine h2 c fp F env σ H _ hc R ((Goes.bnd g).mono (Ex.refl F) fun fp1 F1 env1 H1 o e1 R1 g1 v hn hv => ?_)
  obtain ⟨dk, k1, g2⟩ := rsv_ok R1 hv g1
  obtain ⟨k, hk, g3⟩ := goes_lift_bnd g2
  obtain ⟨es, a', kvs, fr, z1, z2, z3, z4, z5, z6, g4⟩ := dcAt_ok R1 g3
  refine ⟨.ref a', z2, a', _, rfl, by rw [keyD_ok hk k1]; exact .inl ⟨kvs, k, .inl z5, rfl, rfl⟩, _, rfl, ?_⟩
  rw [din_ok z6]
  exact g4 fp1 F1 H1 R1 (Ex.refl F1)
def intKeys : List (Key × Cell) → Option (List Int)
  | [] => some []
  | (.inl n, _) :: es => (intKeys es).map (n :: ·)
  | _ :: _ => none
theorem intKeys_ok {K : PySem.W.Frag} {F H : Hp} : ∀ {es : List (Key × Cell)} {kvs : List (Key × V)} {fr : List Addr} {ks : List Int}, intKeys es = some ks → CellsAt K F H es kvs fr → kvs.map (·.1) = ks.map Sum.inl
  | [], _, _, _, h, ⟨h1, _⟩ => by cases h; subst h1; rfl
  | (.inl n, .im d) :: es, _, _, ks, h, ⟨v, r, h1, h2, h3⟩ => by
    simp only [intKeys] at h
    cases e : intKeys es with
    | none => rw [e] at h; cases h
    | some zs =>
      rw [e] at h
      cases h
      subst h1
      simp only [List.map_cons, intKeys_ok e h3]
  | (.inl n, .fl ds) :: es, _, _, ks, h, ⟨b, r, fr, xs, h1, h2, h3, h4, h5, h6⟩ => by
    simp only [intKeys] at h
    cases e : intKeys es with
    | none => rw [e] at h; cases h
    | some zs =>
      rw [e] at h
      cases h
      subst h1
      simp only [List.map_cons, intKeys_ok e h6]
  | (.inr z, .im d) :: es, _, _, ks, h, _ => by cases h
  | (.inr z, .fl d) :: es, _, _, ks, h, _ => by cases h
def srtI (ks : List Int) : List Int := ks.mergeSort (fun x y => decide (x ≤ y))
def eSortD (i : Nat) : PM Opd := bnd (dcAt i) fun es => bnd (lift (intKeys es)) fun ks => if ks.length < 64 then ret (.tmp ((srtI ks).map PyData.int)) else oops
theorem px_sortD {ps : Pos} (hcalm : X.calm = true) (hm : X.mg "sorted" = none) (hN : X.N[i]? = some x := by rfl) (hv : Vis X.env.scope x := by first | exact Or.inl rfl | exact Or.inr (Or.inl rfl) | exact Or.inr (Or.inr rfl)) (hd : (x == ("__debug__" : Str)) = false := by decide)
    (hcd : (x == ("__classdict__" : Str)) = false := by decide) (hg : Gl X "sorted" := by rfl) (he : starEach [.Name x pv] X.env = (false, eval (.Name x pv) X.env) :: starEach [] X.env := by rfl) (hpl : (backTo pos (starEach [] X.env)).any (·.1) = false := by rfl) :
    PX X bo W (.Call (.Name "sorted" ps) [.Name x pv] [] pos) (eSortD i) := by
  refine ⟨_, pe_callB (call_sortedDI hcalm) hg hm bt_sorted (pa_cons (pe_var hN hv hd hcd) pa_nil he) (by decide) (by decide) he hpl, fun c fp F env σ H Q hc R g => ?_⟩
  obtain ⟨es, a, kvs, fr, k1, k2, k3, k4, k5, k6, g1⟩ := dcAt_ok R g
  obtain ⟨ks, hks, g2⟩ := goes_lift_bnd g1
  split at g2
  · rename_i h64
    refine ⟨.ref a, k2, a, kvs, ks, rfl, .inl k5, intKeys_ok hks k6, h64, fun ys q hp hs hq => ?_⟩
    have ey : ys = srtI ks := PySem.W.os_sorted_mergeSort hp hs
    subst ey
    obtain ⟨F3, R3, e3, k3'⟩ := R.got (Got.lst (K := X.K) hq (dens_ints' (srtI ks)))
    exact g2 fp F3 _ R3 e3 _ k3'
  · exact g2.elim
/-- a, b = e, f : new lists stay the names' own -/
def slotOf : Opd → Option SV
  | .val d => some (.im d)
  | .tmp ds => some (.ls ds)
  | _ => none
def sPar2 (i j : Nat) (f g : PM Opd) : PM Out := bnd f fun o1 => bnd g fun o2 => bnd (lift (slotOf o1)) fun s1 => bnd (lift (slotOf o2)) fun s2 => bnd (putS i s1) fun _ => bnd (putS j s2) fun _ => ret .next
theorem psx_par2 {y : Str} {px py pt pt2 : Pos} {kt k2 : Nat} {f g : PM Opd} (hcalm : X.calm = true) (hN : X.N.Nodup) (h : PX X bo W a f) (h' : PX X bo W b g) (hij : i ≠ j := by decide) (hi : X.N[i]? = some x := by rfl) (hj : X.N[j]? = some y := by rfl) (hbi : bo.contains i = false := by rfl) (hbj : bo.contains j = false := by rfl)
    (hx : X.env.scope.names.lookup x = some .local := by rfl) (hy : X.env.scope.names.lookup y = some .local := by rfl) (hs1 : starEach [a, b] X.env = (false, eval a X.env) :: starEach [b] X.env := by rfl) (hs2 : starEach [b] X.env = (false, eval b X.env) :: starEach [] X.env := by rfl)
    (hw : swappedStores [.Tuple [.Name x px, .Name y py] kt pt] (.Tuple [a, b] k2 pt2) X.env = pure (some [x, y]) := by rfl) (hs : swapsWithSole [.Tuple [.Name x px, .Name y py] kt pt] (.Tuple [a, b] k2 pt2) pos.line X.env = pure false := by rfl) :
    PSX X bo W (.Assign [.Tuple [.Name x px, .Name y py] kt pt] (.Tuple [a, b] k2 pt2) pos) (sPar2 i j f g) := by
  obtain ⟨t, h1, h2⟩ := h
  obtain ⟨t', h3, h4⟩ := h'
  refine ⟨_, ps_par hcalm hN hi hj hij hx hy (pa_cons h1 (pa_cons h3 pa_nil hs2) hs1) hw hs, fun c fp F env σ H Dn hc R gg => ?_⟩
  have hi0 : ∀ q ∈ c.br, q.1 ≠ i := okc_ne hc hbi
  have hj0 : ∀ q ∈ c.br, q.1 ≠ j := okc_ne hc hbj
  refine h2 c fp F env σ H _ hc R ((GoesS.bnd (σ := σ) gg).mono (Ex.refl F) fun fp1 F1 env1 H1 o1 e1 R1 g1 v1 hv1 => ?_)
  refine h4 (c.sub fp1 F1 H1) fp1 F1 env1 σ H1 _ hc R1.into ?_
  cases eg : g env1 with
  | bad => simp only [bnd, eg] at g1; exact g1.elim
  | exc x' e' =>
    simp only [bnd, eg] at g1
    intro fp2 F2 H2 d R2 e2 hx
    exact g1 fp2 F2 σ H2 d (R1.outof R2) e2 hx
  | ok o2 env2 =>
    intro fp2 F2 H2 R2 e2 v2 hv2
    have R3 := R1.outof R2
    simp only [bnd, eg] at g1
    cases o1 with
    | val d1 =>
      have hd1 : Den X.K F2 d1 v1 := den_mono e2 d1 v1 hv1
      cases o2 with
      | val d2 => exact ⟨v1, v2, rfl, g1 _ F2 _ H2 ((R3.put hi0 hd1).put hj0 hv2) e2⟩
      | tmp ds2 =>
        obtain ⟨p2, xs2, rfl, w2, w3, w4, w5, w6⟩ := hv2
        have R4 := R3.put hi0 hd1
        have hp0 : c.H0 p2 = none := by
          cases z : c.H0 p2 with
          | none => rfl
          | some o => exact absurd w4 (R1.al p2 (by rw [z]; simp))
        refine ⟨v1, .ref p2, rfl, g1 _ F2 _ H2 (R4.putOwn (o := .ls ds2) (l := [p2]) hj0 ⟨p2, xs2, rfl, rfl, w2, w6⟩ fun q hq => ?_) e2⟩
        have : q = p2 := by simpa using hq
        subst this
        refine ⟨w3, by rw [w2]; simp, hp0, fun m hm => ?_⟩
        by_cases em : m = i
        · subst em; rw [fpSet_same] at hm; cases hm
        · rw [fpSet_ne em] at hm; exact w5 m hm
      | _ => exact g1.elim
    | tmp ds1 =>
      obtain ⟨p1, xs1, rfl, u2, u3, u4, u5, u6⟩ := hv1
      obtain ⟨z1, z2, z3⟩ := R2.aside u2 u3 u5
      have R4 := R3.putOwn (i := i) (o := .ls ds1) (v := .ref p1) (l := [p1]) hi0 ⟨p1, xs1, rfl, rfl, z1, dens_mono e2 _ _ u6⟩ fun q hq => by
        have : q = p1 := by simpa using hq
        subst this
        exact ⟨z2, by rw [z1]; simp, u4, z3⟩
      cases o2 with
      | val d2 => exact ⟨.ref p1, v2, rfl, g1 _ F2 _ H2 (R4.put hj0 hv2) e2⟩
      | tmp ds2 =>
        obtain ⟨p2, xs2, rfl, w2, w3, w4, w5, w6⟩ := hv2
        have hp0 : c.H0 p2 = none := by
          cases z : c.H0 p2 with
          | none => rfl
          | some o => exact absurd w4 (R1.al p2 (by rw [z]; simp))
        have hne : p2 ≠ p1 := fun z => by
          have w4' : H1 p2 = none := w4
          rw [z, u2] at w4'
          cases w4'
        refine ⟨.ref p1, .ref p2, rfl, g1 _ F2 _ H2 (R4.putOwn (o := .ls ds2) (l := [p2]) hj0 ⟨p2, xs2, rfl, rfl, w2, w6⟩ fun q hq => ?_) e2⟩
        have : q = p2 := by simpa using hq
        subst this
        refine ⟨w3, by rw [w2]; simp, hp0, fun m hm => ?_⟩
        by_cases em : m = i
        · subst em
          rw [fpSet_same] at hm
          exact hne (by simpa using hm)
        · rw [fpSet_ne em] at hm; exact w5 m hm
      | _ => exact g1.elim
    | _ => cases o2 <;> exact g1.elim
end
end Pu

namespace Pu
open PySem PySem.Spec PyProof.Rows L2
section
variable {K : PySem.W.Frag} {F H : Hp}
theorem rows_len : ∀ {cs : List (List D)} {vs : List V} {fr : List Addr}, RowsAt K F H cs vs fr → vs.length = cs.length
  | [], _, _, ⟨h, _⟩ => by subst h; rfl
  | ds :: cs, _, _, ⟨b, r, fr, xs, h1, h2, h3, h4, h5, h6⟩ => by
    subst h1
    rw [List.length_cons, List.length_cons, rows_len h6]
theorem rows_off {b : Addr} {o : HO} {cs : List (List D)} {vs : List V} {fr : List Addr} (h : RowsAt K F H cs vs fr) (hb : b ∉ fr) : RowsAt K F (upd H b o) cs vs fr :=
  rows_keep (Ex.refl F) h fun a u ha z => by
    have hne : a ≠ b := fun e => hb (e ▸ ha)
    rw [upd_ne hne]
    exact z
theorem rows_at : ∀ {cs : List (List D)} {vs : List V} {fr : List Addr} {j : Nat} {ds : List D}, RowsAt K F H cs vs fr → cs[j]? = some ds →
    ∃ b xs, vs[j]? = some (.ref b) ∧ b ∈ fr ∧ H b = some (.lst xs) ∧ Dens K F ds xs ∧ ∀ ds' ys, Dens K F ds' ys → RowsAt K F (upd H b (.lst ys)) (cs.set j ds') vs fr
  | [], _, _, j, ds, _, h => by simp at h
  | ds0 :: cs, _, _, 0, ds, ⟨b, r, fr, xs, h1, h2, h3, h4, h5, h6⟩, h => by
    subst h1 h2
    have : ds0 = ds := by simpa using h
    subst this
    exact ⟨b, xs, rfl, List.mem_cons_self .., h4, h5, fun ds' ys hd => ⟨b, r, fr, ys, rfl, rfl, h3, upd_same, hd, rows_off h6 h3⟩⟩
  | ds0 :: cs, _, _, j + 1, ds, ⟨b, r, fr, xs, h1, h2, h3, h4, h5, h6⟩, h => by
    subst h1 h2
    obtain ⟨b', xs', q1, q2, q3, q4, q5⟩ := rows_at h6 (j := j) (by simpa using h)
    have hne : b ≠ b' := fun z => h3 (z ▸ q2)
    exact ⟨b', xs', by simpa using q1, List.mem_cons_of_mem _ q2, q3, q4, fun ds' ys hd => ⟨b, r, fr, xs, rfl, rfl, h3, by rw [upd_ne hne]; exact h4, h5, q5 ds' ys hd⟩⟩
end
def llAt (i : Nat) : PM (List (List D)) := bnd (abAtE i) fun t => lift (llE t)
theorem llAt_ok {K : PySem.W.Frag} {c : Ct} {W : WX} {fp : Nat → List Addr} {F F0 : Hp} {env : PEnv} {σ : L2.St} {H : Hp} {i : Nat} {β : Type} {k : List (List D) → PM β} {G : (Nat → List Addr) → Hp → PEnv → Hp → β → Prop} (R : Rel K c fp F env σ H) (g : Goes K c W σ F0 (bnd (llAt i) k env) G) :
    ∃ cs a vs fr, env[i]? = some (some (.ab (.ll cs))) ∧ σ[i]? = some (some (.ref a)) ∧ fp i = a :: fr ∧ a ∉ fr ∧ H a = some (.lst vs) ∧ RowsAt K F H cs vs fr ∧ Goes K c W σ F0 (k cs env) G := by
  have e : bnd (llAt i) k = bnd (abAtE i) fun t => bnd (lift (llE t)) k := bnd_assoc _ _ _
  rw [e] at g
  obtain ⟨t, v, k1, k2, k3, g1⟩ := abAt_ok R g
  obtain ⟨es, he, g2⟩ := goes_lift_bnd g1
  cases t with
  | ll es' =>
    cases he
    obtain ⟨a, kvs, fr, rfl, h2, h3, h4, h5⟩ := k3
    exact ⟨es, a, kvs, fr, k1, k2, h2, h3, h4, h5, g2⟩
  | _ => cases he
def ixD (n : Nat) : D → Option Nat
  | .int z => ixN n z
  | _ => none
section
variable {X : Cx} {bo : List Nat} {W : WX} {e a b : Expr} {pos p pv apos cpos : Pos} {x : Str} {i j : Nat}
/-- x[e1].append(e2) at an owned list of lists; e2 knows nothing of x -/
def eLApp (i : Nat) (f1 f2 : PM Opd) : PM Opd := bnd (llAt i) fun _ => bnd (opn f1) fun o => bnd (rsv o) fun dk => bnd (llAt i) fun cs => bnd (lift (ixD cs.length dk)) fun j => bnd (lift cs[j]?) fun ds =>
  hid i (kept f2) fun d => if ds.length < bigLine then bnd (putS i (.ab (.ll (cs.set j (ds ++ [d]))))) fun _ => ret (.val .none) else oops
theorem px_lApp {f1 f2 : PM Opd} (ha : PX X bo W a f1) (h : PX X bo W e f2) (hpi : PlainIx a) (hN : X.N[i]? = some x := by rfl) (hv : Vis X.env.scope x := by first | exact Or.inl rfl | exact Or.inr (Or.inl rfl) | exact Or.inr (Or.inr rfl)) (hd : (x == ("__debug__" : Str)) = false := by decide)
    (hcd : (x == ("__classdict__" : Str)) = false := by decide) (hbase : attributeBase (.Subscript (.Name x pv) a p) "append" X.env (eval (.Subscript (.Name x pv) a p) X.env) = eval (.Subscript (.Name x pv) a p) X.env := by rfl)
    (hfew : ((backTo cpos (starEach [e] X.env)).all (fun x => !x.1) && (backToKw cpos (keywordEach [] X.env)).all (fun x => x.1.isSome)
      && decide ([e].length + ([] : List Keyword).length + (if ([] : List Keyword).isEmpty then 0 else 1) < 30)) = true := by rfl)
    (hline : (apos.endLine == cpos.line) = true := by rfl) (hs : starEach [e] X.env = (false, eval e X.env) :: starEach [] X.env := by rfl) (hplain : (backTo cpos (starEach [] X.env)).any (·.1) = false := by rfl) :
    PX X bo W (.Call (.Attribute (.Subscript (.Name x pv) a p) "append" apos) [e] [] cpos) (eLApp i f1 f2) := by
  obtain ⟨t, h1, h2⟩ := h
  obtain ⟨u, b1, b2⟩ := px_opn ha
  refine ⟨_, pe_bm PySem.F.plainAttrs_list PySem.F.slot_list_append PySem.F.type_list_append mt_append (pe_ix ix_list (pe_var hN hv hd hcd) b1 hpi) (pa_cons h1 pa_nil hs) hbase hfew hline hs hplain, fun c fp F env σ H Q hc R g => ?_⟩
  obtain ⟨cs0, a0, vs0, fr0, k1, k2, k3, k4, k5, k6, g1⟩ := llAt_ok R g
  refine ⟨.ref a0, k2, ?_⟩
  refine b2 c fp F env σ H _ hc R ((Goes.bnd g1).mono (Ex.refl F) fun fp1 F1 env1 H1 o e1 R1 g2 v hn hv => ?_)
  obtain ⟨dk, q1, g3⟩ := rsv_ok R1 hv g2
  obtain ⟨cs, a1, vs, fr, z1, z2, z3, z4, z5, z6, g4⟩ := llAt_ok R1 g3
  rw [k2] at z2
  cases z2
  obtain ⟨jj, hj, g5⟩ := goes_lift_bnd g4
  obtain ⟨ds, hds, g6⟩ := goes_lift_bnd g5
  obtain ⟨q, xs, w1, w2, w3, w4, w5⟩ := rows_at z6 hds
  cases dk with
  | int z =>
    have hat : atI vs z = some (.ref q) := by
      unfold atI
      rw [rows_len z6]
      have hj' : ixN cs.length z = some jj := hj
      rw [hj']
      exact w1
    refine ⟨a0, vs, z, .ref q, rfl, bd_int q1, .inl (.inl z5), hat, .inl ⟨rfl, xs, .inl (.inl w3)⟩, ?_⟩
    refine h2 (c.lend i fp1 F1 H1) _ F1 _ σ H1 _ (lend_ok hc) (R1.hide i) ((hid_ok R1 z1 (Ex.refl F1) g6).mono (Ex.refl F1) fun fp2 F2 env2 H2 o2 e2 R2 g7 v2 hv2 => ?_)
    obtain ⟨d, fp3, F3, env3, R3, kk, e3, den, g8⟩ := g7 v2 hv2
    have hq : q ∈ fp1 i := by rw [z3]; exact List.mem_cons_of_mem _ w2
    have hA : a0 ∈ fp1 i := by rw [z3]; exact List.mem_cons_self ..
    have w3' := kk q hq _ w3
    split at g8
    · rename_i hl
      refine ⟨q, xs, v2, rfl, rfl, w3', by rw [dens_len w4]; exact Nat.lt_trans hl big_line, ?_⟩
      have hne : a0 ≠ q := fun z => z4 (z ▸ w2)
      have k6' : RowsAt X.K F3 H2 cs vs fr := rows_keep e3 z6 fun b u hb hu => kk b (by rw [z3]; exact List.mem_cons_of_mem _ hb) u hu
      obtain ⟨q', xs', v1', v2', v3', v4', v5'⟩ := rows_at k6' hds
      rw [w1] at v1'
      cases v1'
      rw [w3'] at v3'
      cases v3'
      have hAb : AbAt X.K F3 (upd H2 q (.lst (xs ++ [v2]))) (.ll (cs.set jj (ds ++ [d]))) (.ref a0) (fpSet fp3 i (fp1 i) i) := by
        rw [fpSet_same]
        exact ⟨a0, vs, fr, rfl, z3, z4, by rw [upd_ne hne]; exact kk a0 hA _ z5, v5' _ _ (dens_app v4' (dens_one den))⟩
      have hlen : i < env3.length := by
        have e9 := R3.ln
        rw [List.length_set] at e9
        rw [e9, ← R1.ln]
        exact (List.getElem?_eq_some_iff.mp z1).1
      have R4 := R3.setAt (i := i) (t := .ll cs) (v := .ref a0) (by rw [List.getElem?_set_self hlen]) k2 (by rw [fpSet_same]; exact hq) hAb
      exact g8 _ F3 _ R4 e3 .non (by show Den _ _ _ _; simp only [Den])
    · exact g8.elim
  | _ => cases hj
end
/-! ### sorted(set(pairs)) -/
def prsD : List D → Option (List (Int × Int))
  | [] => some []
  | .tuple [.int a, .int b] :: ds => (prsD ds).map ((a, b) :: ·)
  | _ :: _ => none
def dedP : List (Int × Int) → List (Int × Int)
  | [] => []
  | p :: ps => if p ∈ ps then dedP ps else p :: dedP ps
theorem mem_dedP {q : Int × Int} : ∀ {ps : List (Int × Int)}, q ∈ dedP ps ↔ q ∈ ps
  | [] => Iff.rfl
  | p :: ps => by
    unfold dedP
    split
    · rename_i h
      rw [mem_dedP, List.mem_cons]
      exact ⟨.inr, fun z => z.elim (fun e => e ▸ h) id⟩
    · rw [List.mem_cons, List.mem_cons, mem_dedP]
theorem nodup_dedP : ∀ {ps : List (Int × Int)}, (dedP ps).Nodup
  | [] => List.nodup_nil
  | p :: ps => by
    unfold dedP
    split
    · exact nodup_dedP
    · rename_i h
      exact List.nodup_cons.mpr ⟨fun z => h (mem_dedP.mp z), nodup_dedP⟩
def inB (p : Int × Int) : Bool := decide (0 ≤ p.1) && decide (p.1 < 64) && decide (0 ≤ p.2) && decide (p.2 < 64)
def setD : D → Option (List D)
  | .list ds => (prsD ds).bind fun ps => if (ps.all inB && decide (ps.length < 64)) = true then some ((sortP (dedP ps)).map prD) else none
  | _ => none
theorem prsD_ok {K : PySem.W.Frag} {F : Hp} : ∀ {ds : List D} {ps : List (Int × Int)} {xs : List V}, prsD ds = some ps → Dens K F ds xs → ∃ ks : List (Addr × List Int), xs = ks.map (fun p => V.ref p.1) ∧ ks.map (·.2) = ps.map (fun p => [p.1, p.2]) ∧ ∀ p ∈ ks, SqT K F p.1 (p.2.map V.int)
  | [], ps, xs, h, hd => by
    cases h
    have : xs = [] := by simpa only [Dens] using hd
    subst this
    exact ⟨[], rfl, rfl, fun p hp => nomatch hp⟩
  | d :: ds, ps, xs, h, hd => by
    unfold prsD at h
    split at h
    · rename_i e; cases e
    · rename_i a b ds' e
      cases e
      cases e2 : prsD ds with
      | none => rw [e2] at h; cases h
      | some qs =>
        rw [e2] at h
        cases h
        simp only [Dens, Den] at hd
        obtain ⟨v, r, rfl, ⟨c, ys, rfl, h1, v1, r1, rfl, rfl, v2, r2, rfl, rfl, rfl⟩, h2⟩ := hd
        obtain ⟨ks, k1, k2, k3⟩ := prsD_ok e2 h2
        refine ⟨(c, [a, b]) :: ks, by rw [k1]; rfl, by simp [k2], fun p hp => ?_⟩
        rcases List.mem_cons.mp hp with rfl | hp
        · exact h1
        · exact k3 p hp
    · cases h
def toP (l : List Int) : Int × Int := (l.getD 0 0, l.getD 1 0)
theorem dens_pairs {K : PySem.W.Frag} {F : Hp} : ∀ (L : List (Addr × List Int)), (∀ p ∈ L, SqT K F p.1 (p.2.map V.int) ∧ p.2 = [(toP p.2).1, (toP p.2).2]) → Dens K F ((L.map fun q => toP q.2).map prD) (L.map fun q => V.ref q.1)
  | [], _ => by simp [Dens]
  | q :: L, h => by
    obtain ⟨h1, h2⟩ := h q (by simp)
    have ih := dens_pairs L fun p hp => h p (List.mem_cons_of_mem _ hp)
    simp only [List.map_cons, Dens]
    refine ⟨.ref q.1, _, rfl, ?_, ih⟩
    rw [h2] at h1
    show Den K F (.tuple [.int (toP q.2).1, .int (toP q.2).2]) (.ref q.1)
    simp only [Den]
    exact ⟨q.1, _, rfl, h1, by simp [Dens, Den]⟩
def eSortSet (f : PM Opd) : PM Opd := bnd (opn f) fun o => bnd (rsv o) fun d => bnd (lift (setD d)) fun ds => ret (.tmp ds)
section
variable {X : Cx} {bo : List Nat} {W : WX} {a : Expr} {pos pos2 p p2 : Pos}
theorem bt_set : bootBuiltins "set" = some (.type "set") := by decide +kernel
theorem px_sortSet {f : PM Opd} (hcalm : X.calm = true) (hu : X.A.units + 64 < cLine) (hms : X.mg "sorted" = none) (hmt : X.mg "set" = none) (h : PX X bo W a f) (hgs : Gl X "sorted" := by rfl) (hgt : Gl X "set" := by rfl)
    (he : starEach [a] X.env = (false, eval a X.env) :: starEach [] X.env := by rfl) (hpl : (backTo pos2 (starEach [] X.env)).any (·.1) = false := by rfl)
    (he2 : starEach [.Call (.Name "set" p2) [a] [] pos2] X.env = (false, eval (.Call (.Name "set" p2) [a] [] pos2) X.env) :: starEach [] X.env := by rfl) (hpl2 : (backTo pos (starEach [] X.env)).any (·.1) = false := by rfl) :
    PX X bo W (.Call (.Name "sorted" p) [.Call (.Name "set" p2) [a] [] pos2] [] pos) (eSortSet f) := by
  obtain ⟨t, h1, h2⟩ := px_opn h
  refine ⟨_, pe_callB (cr_sortedT hcalm) hgs hms bt_sorted (pa_cons (pe_callTy (cr_setOfT hcalm hu) hgt hmt bt_set (pa_cons h1 pa_nil he) (by decide) (by decide) he hpl) pa_nil he2) (by decide) (by decide) he2 hpl2, fun c fp F env σ H Q hc R g => ?_⟩
  refine h2 c fp F env σ H _ hc R ((Goes.bnd g).mono (Ex.refl F) fun fp1 F1 env1 H1 o e1 R1 g1 v hn hv => ?_)
  obtain ⟨d, k1, g2⟩ := rsv_ok R1 hv g1
  obtain ⟨out, hout, g3⟩ := goes_lift_bnd g2
  cases d with
  | list ds =>
    simp only [setD] at hout
    cases ep : prsD ds with
    | none => rw [ep] at hout; cases hout
    | some ps =>
      rw [ep] at hout
      simp only [Option.bind_some] at hout
      split at hout
      · rename_i hb
        cases hout
        rw [Bool.and_eq_true, decide_eq_true_eq] at hb
        obtain ⟨l, xs, rfl, w1, w2⟩ := bd_list k1
        obtain ⟨ks, q1, q2, q3⟩ := prsD_ok ep w2
        subst q1
        have hlen : ks.length = ps.length := by
          have := congrArg List.length q2
          simpa using this
        refine ⟨l, ks, rfl, .inl (.inl w1), fun p hp => ex_t R1.fh (q3 p hp), by rw [hlen]; exact hb.2, fun s L hs hL1 hL2 => ?_⟩
        have R2 := R1.newH (o := SetTO X.prog X.w s L) hs
        have shape : ∀ q ∈ ks, q.2 = [(toP q.2).1, (toP q.2).2] ∧ toP q.2 ∈ ps := fun q hq => by
          have hm : q.2 ∈ ks.map (·.2) := List.mem_map_of_mem hq
          rw [q2] at hm
          obtain ⟨pp, hp, e⟩ := List.mem_map.mp hm
          rw [← e]
          exact ⟨rfl, hp⟩
        have bnd64 : ∀ q ∈ ps, 0 ≤ q.1 ∧ q.1 < 64 ∧ 0 ≤ q.2 ∧ q.2 < 64 := fun q hq => by
          have := List.all_eq_true.mp hb.1 q hq
          simp only [inB, Bool.and_eq_true, decide_eq_true_eq] at this
          exact ⟨this.1.1.1, this.1.1.2, this.1.2, this.2⟩
        refine ⟨s, L, 2, 64, rfl, upd_same, fun p hp => ex_t (R2.fh) (q3 p (hL1 p hp)), by decide, fun p hp => ?_, fun L' r hperm hnd hfew hpw hr => ?_⟩
        · obtain ⟨s1, s2⟩ := shape p (hL1 p hp)
          obtain ⟨b1, b2, b3, b4⟩ := bnd64 _ s2
          rw [s1]
          refine ⟨rfl, fun y hy => ?_⟩
          simp only [List.mem_cons, List.not_mem_nil, or_false] at hy
          rcases hy with rfl | rfl
          · exact ⟨b1, b2⟩
          · exact ⟨b3, b4⟩
        · have inL : ∀ q ∈ L', q ∈ ks := fun q hq => hL1 q (hperm.mem_iff.mp hq)
          have hmap : (L'.map fun q => toP q.2) = sortP (dedP ps) := by
            refine (sortP_of ?_ ?_).symm
            · refine (List.perm_ext_iff_of_nodup nodup_dedP ?_).mpr fun q => ?_
              · refine List.pairwise_map.mpr ?_
                have hnd' : L'.Pairwise fun x y => x.2 ≠ y.2 := List.pairwise_map.mp hnd
                refine hnd'.imp_of_mem fun {x y} hx hy hxy e => hxy ?_
                rw [(shape x (inL x hx)).1, (shape y (inL y hy)).1, e]
              · rw [mem_dedP, List.mem_map]
                constructor
                · intro hq
                  have hm : [q.1, q.2] ∈ ks.map (·.2) := by rw [q2]; exact List.mem_map_of_mem (f := fun p : Int × Int => [p.1, p.2]) hq
                  obtain ⟨z, hz, ez⟩ := List.mem_map.mp hm
                  obtain ⟨y, hy, ey⟩ := List.mem_map.mp (hL2 z hz)
                  refine ⟨y, hperm.mem_iff.mpr hy, ?_⟩
                  rw [ey, ez]
                  rfl
                · rintro ⟨z, hz, rfl⟩
                  exact (shape z (inL z hz)).2
            · refine List.pairwise_map.mpr ?_
              have hnd' : L'.Pairwise fun x y => x.2 ≠ y.2 := List.pairwise_map.mp hnd
              refine (hpw.and hnd').imp_of_mem fun {x y} hx hy hxy => ?_
              obtain ⟨s1, s2⟩ := shape x (inL x hx)
              obtain ⟨t1, t2⟩ := shape y (inL y hy)
              obtain ⟨b1, b2, b3, b4⟩ := bnd64 _ s2
              obtain ⟨d1, d2, d3, d4⟩ := bnd64 _ t2
              have hc' := hxy.1
              have hne := hxy.2
              rw [s1, t1] at hc' hne
              have := pair_lt hc' hne ⟨b1, b2⟩ ⟨b3, b4⟩ ⟨d1, d2⟩ ⟨d3, d4⟩
              unfold leP
              simp only [Bool.or_eq_true, Bool.and_eq_true, decide_eq_true_eq]
              omega
          have dd := dens_pairs (K := X.K) (F := F1) L' fun p hp => ⟨q3 p (inL p hp), (shape p (inL p hp)).1⟩
          rw [hmap] at dd
          obtain ⟨F3, R3, e3, k3'⟩ := R2.got (Got.lst (K := X.K) hr dd)
          exact g3 fp1 F3 _ R3 e3 _ k3'
      · cases hout
  | _ => cases hout
end
end Pu

namespace Pu
open PySem PySem.Spec PyProof.Rows L2
/-! ### a def whose first argument and whose last, a list, are handed in to be changed -/
section
variable {K : PySem.W.Frag} {c : Ct} {fp : Nat → List Addr} {F F' : Hp} {env : PEnv} {σ : L2.St} {H H' : Hp}
theorem Rel.mutate2 (R : Rel K c fp F env σ H) {i k : Nat} (hik : i ≠ k) {t t' : Ab} {o o' : SV} {v w : V} (hi : env[i]? = some (some (.ab t))) (hv : σ[i]? = some (some v)) (hk : env[k]? = some (some o)) (hw : σ[k]? = some (some w)) (hF : Ex F F') (hFH : Ex F' H')
    (kk : ∀ q u, q ∉ fp i → q ∉ fp k → H q = some u → H' q = some u) (al : ∀ q, H q ≠ none → H' q ≠ none) (nw : ∀ q, F' q ≠ none → F q ≠ none ∨ (c.H0 q = none ∧ ∀ i, q ∉ fp i)) (h : Sl K F' H' (fp i) (.ab t') v) (h' : Sl K F' H' (fp k) o' w)
    (hab : (∃ t, o = .ab t) → ∃ t, o' = .ab t) (hls : (∃ l, o' = .ls l) → ∃ l, o = .ls l) : Rel K c fp F' ((env.set i (some (.ab t'))).set k (some o')) σ H' where
  f0 := R.f0.trans hF
  sy := R.sy.mono hF
  fh := hFH
  kp := fun q u h1 h2 => by
    have off : ∀ j, q ∉ fp j := fun j z => by
      rcases (R.ow j q z).2.2 with y | y
      · exact h2 y
      · rw [y] at h1; cases h1
    exact kk q u (off i) (off k) (R.kp q u h1 h2)
  al := fun q hq => al q (R.al q hq)
  nw := fun q hq => (nw q hq).elim (R.nw q) fun z => .inr (.inl z.1)
  ln := by simp [R.ln]
  sl := fun j u hj => by
    by_cases ek : j = k
    · subst ek
      obtain ⟨z, _⟩ := set_some hj
      cases z
      exact ⟨w, hw, h'⟩
    · rw [get_set_ne' ek] at hj
      by_cases ei : j = i
      · subst ei
        obtain ⟨z, _⟩ := set_some hj
        cases z
        exact ⟨v, hv, h⟩
      · rw [get_set_ne' ei] at hj
        obtain ⟨x, h1, h2⟩ := R.sl j u hj
        exact ⟨x, h1, sl_keep hF (fun a y ha z => kk a y (fun q => ei (R.ds j i a ha q)) (fun q => ek (R.ds j k a ha q)) z) h2⟩
  ow := fun j a ha => by
    obtain ⟨h1, h2, h3⟩ := R.ow j a ha
    refine ⟨?_, al a h2, h3⟩
    cases z : F' a with
    | none => rfl
    | some u =>
      rcases nw a (by rw [z]; simp) with q | q
      · exact absurd h1 q
      · exact absurd ha (q.2 j)
  lf := fun j ds a hj ha => by
    by_cases ek : j = k
    · subst ek
      obtain ⟨z, _⟩ := set_some hj
      cases z
      obtain ⟨l, hl⟩ := hls ⟨_, rfl⟩
      subst hl
      exact R.lf j l a hk ha
    · rw [get_set_ne' ek] at hj
      by_cases ei : j = i
      · subst ei
        obtain ⟨z, _⟩ := set_some hj
        cases z
      · rw [get_set_ne' ei] at hj
        exact R.lf j ds a hj ha
  ds := R.ds
  bb := fun p hp => by
    obtain ⟨h1, h2, t0, h3⟩ := R.bb p hp
    refine ⟨h1, h2, ?_⟩
    by_cases ek : p.1 = k
    · rw [ek] at h3 ⊢
      rw [hk] at h3
      obtain ⟨t1, ht⟩ := hab ⟨t0, Option.some.inj (Option.some.inj h3)⟩
      refine ⟨t1, ?_⟩
      rw [ht, List.getElem?_set_self]
      rw [List.length_set]
      exact (List.getElem?_eq_some_iff.mp hk).1
    · rw [get_set_ne' ek]
      by_cases ei : p.1 = i
      · rw [ei]
        exact ⟨t', List.getElem?_set_self (List.getElem?_eq_some_iff.mp hi).1⟩
      · rw [get_set_ne' ei]
        exact ⟨t0, h3⟩
end
def SpW (K : PySem.W.Frag) (n : Nat) (S : Ab → List D → List D → FR × Ab × List D) : Sp := fun vs H Q E => ∃ F t a bw vs' ds b ws xs, vs = .ref a :: (vs' ++ [.ref b]) ∧ vs'.length = n ∧ Ex F H ∧ SyF F ∧ AbAt K F H t (.ref a) bw ∧ (∀ q ∈ bw, F q = none) ∧ Dens K F ds vs' ∧ H b = some (.lst xs) ∧ F b = none ∧ b ∉ bw ∧ Dens K F ws xs ∧ match S t ds ws with
  | (.ok r, t', ws') => ∀ F' H' v ys, Grown F H F' H' → (∀ q o, H q = some o → q ∉ bw → q ≠ b → H' q = some o) → (∀ q ∈ bw, F' q = none) → F' b = none → AbAt K F' H' t' (.ref a) bw → H' b = some (.lst ys) → Dens K F' ws' ys → RetOk K F' H H' r v → Q v H'
  | _ => False
theorem spW_len {K : PySem.W.Frag} {n : Nat} {S : Ab → List D → List D → FR × Ab × List D} {vs : List V} {H : Hp} {Q : VK} {E : XK} (h : SpW K n S vs H Q E) : vs.length = n + 2 := by
  obtain ⟨F, t, a, bw, vs', ds, b, ws, xs, rfl, hl, _⟩ := h
  simp [hl]
def fin2 (env : PEnv) (i : Nat) (t : Ab) (ws : List D) (r : FR) : FR × Ab × List D := match env[0]? with
  | some (some (SV.ab t')) => match env[i]? with
    | some (some (SV.ab (.fl ws'))) => (r, t', ws')
    | _ => (.bad, t, ws)
  | _ => (.bad, t, ws)
def runW (N i : Nat) (body : PM Out) (t : Ab) (ds ws : List D) : FR × Ab × List D := match body (envOf N (.ab t :: (ds.map .im ++ [.ab (.fl ws)]))) with
  | .ok .next env => fin2 env i t ws (.ok (.val .none))
  | .ok (.ret o) env => fin2 env i t ws (finR [0, i] o env)
  | _ => (.bad, t, ws)
section
variable {P : Program} {w : World} {K : PySem.W.Frag} {mg : Str → Option Value} {base : Heap} {CX : CXT} {k : Nat} {f : Addr} {fd : FuncData} {ps N : List Str} {x qual : Str} {st : Stmt}
def ctW (F H : Hp) (a : Addr) (bw : List Addr) (i : Nat) (b : Addr) : Ct := ⟨H, F, fun q => q ∈ bw ∨ q = b, fun _ => False, [(0, a, bw), (i, b, [b])]⟩
theorem rel_startW {F H : Hp} {t : Ab} {a b : Addr} {bw : List Addr} {ds ws : List D} {vs xs : List V} {i : Nat} (hi : i = ds.length + 1) (e : Ex F H) (sy : SyF F) (hab : AbAt K F H t (.ref a) bw) (hF : ∀ q ∈ bw, F q = none) (hd : Dens K F ds vs)
    (hb : H b = some (.lst xs)) (hFb : F b = none) (hbw : b ∉ bw) (hws : Dens K F ws xs) (hl : (V.ref a :: (vs ++ [.ref b])).length ≤ N.length) :
    Rel K (ctW F H a bw i b) (fpSet (fpSet (fun _ => []) 0 bw) i [b]) F (envOf N.length (.ab t :: (ds.map .im ++ [.ab (.fl ws)]))) (L2.start N (.ref a :: (vs ++ [.ref b]))) H := by
  have hd' := dens_len hd
  have i0 : (0 : Nat) ≠ i := by omega
  have hlen : (SV.ab t :: (ds.map SV.im ++ [SV.ab (.fl ws)])).length ≤ N.length := by
    simp only [List.length_cons, List.length_append, List.length_map, List.length_nil] at hl ⊢
    omega
  have s0 : (L2.start N (.ref a :: (vs ++ [.ref b])))[0]? = some (some (.ref a)) := by rw [start_get (by simp)]; rfl
  have si : (L2.start N (.ref a :: (vs ++ [.ref b])))[i]? = some (some (.ref b)) := by
    rw [start_get (by simp; omega), hi, List.getElem?_cons_succ, List.getElem?_append_right (by omega), hd']
    simp
  have e0 : (envOf N.length (SV.ab t :: (ds.map SV.im ++ [SV.ab (.fl ws)])))[0]? = some (some (.ab t)) := by unfold envOf; rfl
  have ei : (envOf N.length (SV.ab t :: (ds.map SV.im ++ [SV.ab (.fl ws)])))[i]? = some (some (.ab (.fl ws))) := by
    unfold envOf
    rw [List.getElem?_append_left (by simp; omega), List.getElem?_map, hi, List.getElem?_cons_succ, List.getElem?_append_right (by simp)]
    simp
  refine ⟨Ex.refl F, sy, e, fun q o h _ => h, fun q h => h, fun q h => .inl h, ?_, fun j o h => ?_, fun j q h => ?_, fun j l q h1 h2 => ?_, fun j m q h1 h2 => ?_, fun p hp => ?_⟩
  · rw [start_len hl, envOf_len hlen]
  · by_cases j0 : j = 0
    · subst j0
      rw [e0] at h
      cases h
      exact ⟨.ref a, s0, by rw [fpSet_ne i0, fpSet_same]; exact hab⟩
    · by_cases ji : j = i
      · subst ji
        rw [ei] at h
        cases h
        exact ⟨.ref b, si, by rw [fpSet_same]; exact ⟨b, xs, rfl, rfl, hb, hws⟩⟩
      · have h' := envOf_get h
        cases j with
        | zero => exact absurd rfl j0
        | succ j =>
          rw [List.getElem?_cons_succ] at h'
          by_cases jl : j < ds.length
          · rw [List.getElem?_append_left (by simpa using jl), List.getElem?_map] at h'
            cases e1 : ds[j]? with
            | none => rw [e1] at h'; cases h'
            | some d =>
              rw [e1] at h'
              cases h'
              obtain ⟨v, h1, h2⟩ := dens_get' hd e1
              refine ⟨v, ?_, h2⟩
              rw [start_get (by simp; omega), List.getElem?_cons_succ, List.getElem?_append_left (by omega), h1]
          · have : j ≠ ds.length := fun z => ji (by omega)
            rw [List.getElem?_eq_none (by simp; omega)] at h'
            cases h'
  · by_cases ji : j = i
    · subst ji
      rw [fpSet_same] at h
      have : q = b := by simpa using h
      subst this
      exact ⟨hFb, by rw [hb]; simp, .inl (.inr rfl)⟩
    · rw [fpSet_ne ji] at h
      by_cases j0 : j = 0
      · subst j0
        rw [fpSet_same] at h
        exact ⟨hF q h, abAt_in hab q h, .inl (.inl h)⟩
      · rw [fpSet_ne j0] at h; cases h
  · by_cases ji : j = i
    · subst ji
      rw [ei] at h1
      cases h1
    · rw [fpSet_ne ji] at h2
      by_cases j0 : j = 0
      · subst j0
        rw [e0] at h1
        cases h1
      · rw [fpSet_ne j0] at h2; cases h2
  · have two : ∀ m, q ∈ fpSet (fpSet (fun _ => []) 0 bw) i [b] m → (m = i ∧ q = b) ∨ (m = 0 ∧ q ∈ bw) := fun m hm => by
      by_cases mi : m = i
      · subst mi
        rw [fpSet_same] at hm
        exact .inl ⟨rfl, by simpa using hm⟩
      · rw [fpSet_ne mi] at hm
        by_cases m0 : m = 0
        · subst m0
          rw [fpSet_same] at hm
          exact .inr ⟨rfl, hm⟩
        · rw [fpSet_ne m0] at hm; cases hm
    rcases two j h1 with ⟨x1, x2⟩ | ⟨x1, x2⟩ <;> rcases two m h2 with ⟨y1, y2⟩ | ⟨y1, y2⟩
    · rw [x1, y1]
    · rw [x2] at y2; exact absurd y2 hbw
    · rw [y2] at x2; exact absurd x2 hbw
    · rw [x1, y1]
  · rcases List.mem_cons.mp hp with rfl | hp
    · exact ⟨s0, by rw [fpSet_ne i0, fpSet_same], t, e0⟩
    · rw [List.mem_singleton.mp hp]
      exact ⟨si, fpSet_same, _, ei⟩
theorem spW_body {F H : Hp} {t : Ab} {a b : Addr} {bw : List Addr} {ds ws : List D} {i : Nat} {g : PM Out} {Q : VK} {E : XK} (hi : i = ds.length + 1) (hbw : b ∉ bw)
    (h : match runW N.length i g t ds ws with
      | (.ok r, t', ws') => ∀ F' H' v ys, Grown F H F' H' → (∀ q o, H q = some o → q ∉ bw → q ≠ b → H' q = some o) → (∀ q ∈ bw, F' q = none) → F' b = none → AbAt K F' H' t' (.ref a) bw → H' b = some (.lst ys) → Dens K F' ws' ys → RetOk K F' H H' r v → Q v H'
      | _ => False) : GoesS K (ctW F H a bw i b) (WD E) F (g (envOf N.length (.ab t :: (ds.map .im ++ [.ab (.fl ws)])))) { nx := fun _ H' => Q .non H', rt := Q } := by
  have fin : ∀ {fp' : Nat → List Addr} {F' H' : Hp} {env' : PEnv} {σ' : L2.St} {r : FR}, Rel K (ctW F H a bw i b) fp' F' env' σ' H' →
      Grown F H F' H' ∧ (∀ q o, H q = some o → q ∉ bw → q ≠ b → H' q = some o) ∧ (∀ q ∈ bw, F' q = none) ∧ F' b = none ∧ fp' 0 = bw ∧ fp' i = [b] ∧ (fin2 env' i t ws r = (.bad, t, ws) ∨ ∃ t' ws' ys, fin2 env' i t ws r = (r, t', ws') ∧ AbAt K F' H' t' (.ref a) bw ∧ H' b = some (.lst ys) ∧ Dens K F' ws' ys) := by
    intro fp' F' H' env' σ' r R
    obtain ⟨h1, h2, t', h3⟩ := R.bb (0, a, bw) (List.mem_cons_self ..)
    obtain ⟨k1, k2, t2, k3⟩ := R.bb (i, b, [b]) (List.mem_cons_of_mem _ (List.mem_singleton.mpr rfl))
    refine ⟨⟨R.f0, R.fh, fun q hq => (R.nw q hq).imp id fun z => z.elim id fun y => y.elim⟩, fun q o z y1 y2 => R.kp q o z fun y => y.elim y1 y2, fun q hq => (R.ow 0 q (by rw [h2]; exact hq)).1, (R.ow i b (by rw [k2]; simp)).1, h2, k2, ?_⟩
    obtain ⟨v, z1, z2⟩ := R.sl 0 _ h3
    rw [h1] at z1
    cases z1
    rw [h2] at z2
    obtain ⟨v, y1, y2⟩ := R.sl i _ k3
    rw [k1] at y1
    cases y1
    rw [k2] at y2
    simp only [fin2, h3, k3]
    cases t2 with
    | fl ws' =>
      obtain ⟨b', ys, q1, q2, q3, q4⟩ := y2
      cases q1
      exact .inr ⟨t', ws', ys, rfl, z2, q3, q4⟩
    | _ => exact .inl rfl
  unfold runW at h
  cases eg : g (envOf N.length (.ab t :: (ds.map .im ++ [.ab (.fl ws)]))) with
  | bad => rw [eg] at h; exact h.elim
  | exc x env' => rw [eg] at h; exact h.elim
  | ok out env' =>
    rw [eg] at h
    intro fp' F' σ' H' R e1
    cases out with
    | next =>
      obtain ⟨z1, z2, z3, z4, _, _, zf⟩ := fin (r := .ok (.val .none)) R
      simp only at h
      rcases zf with zf | ⟨t', ws', ys, zf, y1, y2, y3⟩
      · rw [zf] at h; exact h.elim
      · rw [zf] at h
        exact h F' H' .non ys z1 z2 z3 z4 y1 y2 y3 (by show Den _ _ _ _; simp only [Den])
    | brk => exact h.elim
    | cont => exact h.elim
    | ret o =>
      intro v hv
      obtain ⟨z1, z2, z3, z4, f0, fi, zf⟩ := fin (r := finR [0, i] o env') R
      simp only at h
      rcases zf with zf | ⟨t', ws', ys, zf, y1, y2, y3⟩
      · rw [zf] at h; exact h.elim
      · rw [zf] at h
        have hb : finR [0, i] o env' ≠ .bad := fun z => by rw [z] at h; exact h
        obtain ⟨r, hr1, hr2⟩ := fin_ret (bo := [0, i]) R (fun _ z => z) (fun q z => by
          rcases z with z | z
          · exact ⟨0, by simp, by rw [f0]; exact z⟩
          · exact ⟨i, by simp, by rw [fi, z]; simp⟩) hv hb
        rw [hr1] at h
        exact h F' H' v ys z1 z2 z3 z4 y1 y2 y3 hr2
theorem fnW_of {n m i : Nat} {g : PM Out} (F : Fun K x qual st f fd) (S : FnScope N ps (defScope st)) (hn : ps.length = n + 2) (hi : i = n + 1) (hm : N.length = m)
    (hder : ∀ (cdv : Value) (A : Around) (outer : List Env) (s : Shared) (H : Hp) (E : XK), Room k (A.deeper (envOfC qual (defScope st) s.heap.objs.size f cdv)) → A.guards = some [] → PSsX (Ctx0 P w K mg base N qual st f cdv A outer s H E) [0, i] (WD E) (defBody st) g) :
    FnG P w K mg base CX0 (k + 1) f fd ps (SpW K n (runW m i g)) := by
  subst hm
  refine fng_of F S (fun vs H Q E h => (spW_len h).trans hn.symm) ?_
  rintro cdv A outer s H vs Q E hr hgu ⟨F0, t, a, bw, vs', ds, b, ws, xs, rfl, hl, e, sy, hab, hF, hd, hb, hFb, hbw, hws, h⟩
  obtain ⟨tt, h1, h2⟩ := hder cdv A outer s H E hr hgu
  refine ⟨tt, h1.nox, ?_⟩
  have hN : (V.ref a :: (vs' ++ [.ref b])).length ≤ N.length := by
    have := congrArg List.length S.pre
    rw [List.length_take] at this
    simp only [List.length_cons, List.length_append, List.length_nil]
    omega
  have hii : i = ds.length + 1 := by rw [hi, ← hl, dens_len hd]
  exact h2 (ctW F0 H a bw i b) _ F0 _ _ H _ (fun q hq => by
    rcases List.mem_cons.mp hq with rfl | hq
    · simp
    · rw [List.mem_singleton.mp hq]; simp) (rel_startW hii e sy hab hF hd hb hFb hbw hws hN) (spW_body hii hbw h)
end
/-! the call -/
def PAW (X : Cx) (bo : List Nat) (W : WX) (es : List Expr) (f : PM (List D × Opd)) : Prop :=
  ∃ t, PA X es t ∧ ∀ c fp F env σ H (Q : List V → Hp → Prop), OkC c bo → Rel X.K c fp F env σ H →
    Goes X.K c W σ F (f env) (fun fp' F' env' H' r => ∀ vs v, vs.length + 1 = es.length → Dens X.K F' r.1 vs → OpdOk X.K c fp' F' σ H' r.2 v → Q (vs ++ [v]) H') → t σ H Q
section
variable {X : Cx} {bo : List Nat} {W : WX} {e : Expr} {es : List Expr} {pos p : Pos} {x : Str} {CX : CXT} {k n : Nat} {f : Addr} {fd : FuncData} {ps : List Str}
theorem paw_one {f : PM Opd} (h : PX X bo W e f) (hs : starEach [e] X.env = (false, eval e X.env) :: starEach [] X.env := by rfl) : PAW X bo W [e] (bnd f fun o => ret ([], o)) := by
  obtain ⟨t, h1, h2⟩ := h
  refine ⟨_, pa_cons h1 pa_nil hs, fun c fp F env σ H Q hc R g => ?_⟩
  refine h2 c fp F env σ H _ hc R ((Goes.bnd g).mono (Ex.refl F) fun fp1 F1 env1 H1 o e1 R1 g1 v hv => ?_)
  exact g1 fp1 F1 H1 R1 (Ex.refl F1) [] v rfl (by simp only [Dens]) hv
theorem paw_cons {f : PM Opd} {fs : PM (List D × Opd)} (ha : PX X bo W e f) (hr : PAW X bo W es fs) (hs : starEach (e :: es) X.env = (false, eval e X.env) :: starEach es X.env := by rfl) : PAW X bo W (e :: es) (bnd (kept f) fun d => bnd fs fun r => ret (d :: r.1, r.2)) := by
  obtain ⟨t1, h1, h2⟩ := ha
  obtain ⟨t2, h3, h4⟩ := hr
  refine ⟨_, pa_cons h1 h3 hs, fun c fp F env σ H Q hc R g => ?_⟩
  rw [kept_bnd] at g
  refine h2 c fp F env σ H _ hc R ((Goes.bnd g).mono (Ex.refl F) fun fp1 F1 env1 H1 o e1 R1 g1 v hv => ?_)
  obtain ⟨d, fp2, F2, env2, R2, e2, hd, g2⟩ := frz_ok R1 hv g1
  refine h4 c fp2 F2 env2 σ H1 _ hc R2 ((Goes.bnd g2).mono e2 fun fp3 F3 env3 H3 r e3 R3 g3 vs u hl hds hu => ?_)
  refine g3 fp3 F3 H3 R3 (Ex.refl F3) (v :: vs) u (by simp only [List.length_cons]; omega) ?_ hu
  simp only [Dens]
  exact ⟨v, vs, rfl, den_mono e3 d v hd, hds⟩
def wAt (k : Nat) : PM (List D) := fun env => match env[k]? with
  | some (some (.ls ds)) => .ok ds env
  | some (some (.ab (.fl ds))) => .ok ds env
  | _ => .bad
def wPut (k : Nat) (ds : List D) : PM Unit := fun env => match env[k]? with
  | some (some (.ls _)) => .ok () (env.set k (some (.ls ds)))
  | some (some (.ab _)) => .ok () (env.set k (some (.ab (.fl ds))))
  | _ => .bad
def endW (i : Nat) (o : Opd) (S : List D → FR × Ab × List D) : PM Opd := match o with
  | .slot k => if i = k then oops else bnd (wAt k) fun ws => match S ws with
    | (.ok r, t', ws') => bnd (putS i (.ab t')) fun _ => bnd (wPut k ws') fun _ => ret r
    | _ => oops
  | .tmp ws => match S ws with
    | (.ok r, t', _) => bnd (putS i (.ab t')) fun _ => ret r
    | _ => oops
  | _ => oops
def eCallW (i : Nat) (S : Ab → List D → List D → FR × Ab × List D) (fw : PM (List D × Opd)) : PM Opd := bnd (abAtE i) fun _ => bnd fw fun r => bnd (abAtE i) fun t => endW i r.2 (S t r.1)
theorem px_callW {S : Ab → List D → List D → FR × Ab × List D} {fw : PM (List D × Opd)} {i : Nat} {x0 : Str} {p0 : Pos} (F : FnG X.prog X.w X.K X.mg X.base CX k f fd ps (SpW X.K n S)) (hr : Room k X.A) (hgu : X.A.guards = some []) (hm : X.mg x = some (.ref f)) (hk : PySem.W.keepIn X.K (.ref f) = true) (hb : Binds X.K fd ps []) (hx : ∀ σ, PassesAt CX X σ (WE W σ))
    (ha : PAW X bo W es fw) (hN : X.N[i]? = some x0 := by rfl) (hv : Vis X.env.scope x0 := by first | exact Or.inl rfl | exact Or.inr (Or.inl rfl) | exact Or.inr (Or.inr rfl)) (hg : Gl X x := by rfl) (hn : es.length = n + 1 := by rfl) (hdb : (x == ("__debug__" : Str)) = false := by decide)
    (hd0 : (x0 == ("__debug__" : Str)) = false := by decide) (hcd0 : (x0 == ("__classdict__" : Str)) = false := by decide)
    (he : starEach (.Name x0 p0 :: es) X.env = (false, eval (.Name x0 p0) X.env) :: starEach es X.env := by rfl) (hpl : (backTo pos (starEach es X.env)).any (·.1) = false := by rfl) :
    PX X bo W (.Call (.Name x p) (.Name x0 p0 :: es) [] pos) (eCallW i S fw) := by
  obtain ⟨t, h1, h2⟩ := ha
  refine ⟨_, pe_g F hr hgu hg hm hk hb hx (pa_cons (pe_var hN hv hd0 hcd0) h1 he) hdb he hpl, fun c fp F0 env σ H Q hc R g => ?_⟩
  obtain ⟨t0, v0, k1, k2, k3, g1⟩ := abAt_ok R g
  obtain ⟨a, rfl⟩ := abAt_ref k3
  refine ⟨.ref a, k2, ?_⟩
  refine h2 c fp F0 env σ H _ hc R ((Goes.bnd g1).mono (Ex.refl F0) fun fp1 F1 env1 H1 r e1 R1 g2 vs v hl hd hv' => ?_)
  obtain ⟨t1, v1, q1, q2, q3, g3⟩ := abAt_ok R1 g2
  rw [k2] at q2
  cases q2
  obtain ⟨ds, o⟩ := r
  have hln : vs.length = n := by omega
  cases o with
  | slot kk =>
    simp only [endW] at g3
    split at g3
    · exact g3.elim
    · rename_i hik
      have hv2 : σ[kk]? = some (some v) := hv'
      cases ek : env1[kk]? with
      | none => simp only [bnd, wAt, ek] at g3; exact g3.elim
      | some s =>
        cases s with
        | none => simp only [bnd, wAt, ek] at g3; exact g3.elim
        | some s =>
          obtain ⟨u, z1, z2⟩ := R1.sl kk _ ek
          rw [hv2] at z1
          cases z1
          have core : ∀ ws : List D, (∃ b xs, v = .ref b ∧ fp1 kk = [b] ∧ H1 b = some (.lst xs) ∧ Dens X.K F1 ws xs) → (wAt kk env1 = .ok ws env1) → (∀ ws', ∃ s', wPut kk ws' (env1.set i (some (.ab t1))) = .ok () ((env1.set i (some (.ab t1))).set kk (some s')) ∧
              (∀ t', wPut kk ws' (env1.set i (some (.ab t'))) = .ok () ((env1.set i (some (.ab t'))).set kk (some s'))) ∧ (∀ F' H' b ys, v = .ref b → fp1 kk = [b] → H' b = some (.lst ys) → Dens X.K F' ws' ys → Sl X.K F' H' (fp1 kk) s' v) ∧ ((∃ t, s = .ab t) → ∃ t, s' = .ab t) ∧ ((∃ l, s' = .ls l) → ∃ l, s = .ls l)) →
              SpW X.K n S (.ref a :: (vs ++ [v])) H1 Q (WE W σ) := by
            rintro ws ⟨b, xs, rfl, w2, w3, w4⟩ hwat hput
            simp only [bnd, hwat] at g3
            have hbi : b ∈ fp1 kk := by rw [w2]; simp
            have hbw : b ∉ fp1 i := fun z => hik (R1.ds i kk b z hbi)
            refine ⟨F1, t1, a, fp1 i, vs, ds, b, ws, xs, rfl, hln, R1.fh, R1.sy, q3, fun q hq => (R1.ow i q hq).1, hd, w3, (R1.ow kk b hbi).1, hbw, w4, ?_⟩
            cases eS : S t1 ds ws with
            | mk r tw =>
              obtain ⟨t', ws'⟩ := tw
              rw [eS] at g3
              cases r with
              | bad => exact g3.elim
              | exc x => exact g3.elim
              | ok r =>
                intro F' H' v' ys gr kp nn nb ab hb' dws hr'
                obtain ⟨s', p1, p2, p3, p4, p5⟩ := hput ws'
                simp only [bnd, putS, p2 t', ret] at g3
                have R2 : Rel X.K c fp1 F' ((env1.set i (some (.ab t'))).set kk (some s')) σ H' := by
                  refine R1.mutate2 hik q1 k2 ek hv2 gr.1 gr.2.1 (fun q u h1 h2 z => kp q u z h1 fun e => h2 (by rw [w2, e]; simp)) (fun q hq => ?_) (fun q hq => (gr.2.2 q hq).imp id fun z => ⟨(R1.free z).2.1, (R1.free z).2.2⟩) ab (p3 F' H' b ys rfl w2 hb' dws) p4 p5
                  by_cases hm1 : q ∈ fp1 i
                  · exact abAt_in ab q hm1
                  · by_cases hm2 : q = b
                    · rw [hm2, hb']; simp
                    · cases z : H1 q with
                      | none => exact absurd z hq
                      | some o => rw [kp q o z hm1 hm2]; simp
                exact g3 fp1 F' H' R2 gr.1 v' (ret_opd R1 hr' |> fun z => by
                  cases r with
                  | val d => exact z
                  | slot j => exact hr'.elim
                  | tmp l => exact z
                  | tab tt => exact z)
          have hlen : kk < (env1.set i (some (SV.ab t1))).length := by
            rw [List.length_set]
            exact (List.getElem?_eq_some_iff.mp ek).1
          cases s with
          | im d => simp only [bnd, wAt, ek] at g3; exact g3.elim
          | ls ws =>
            obtain ⟨b, xs, w1, w2, w3, w4⟩ := z2
            have get : ∀ t' : Ab, (env1.set i (some (.ab t')))[kk]? = some (some (.ls ws)) := fun t' => by rw [get_set_ne' (Ne.symm hik)]; exact ek
            exact core ws ⟨b, xs, w1, w2, w3, w4⟩ (by simp only [wAt, ek]) fun ws' => ⟨.ls ws', by simp only [wPut, get], fun t' => by simp only [wPut, get], fun F' H' b' ys h1 h2 h3 h4 => ⟨b', ys, h1, h2, h3, h4⟩, (fun ⟨t, z⟩ => nomatch z), fun _ => ⟨_, rfl⟩⟩
          | ab tt =>
            cases tt with
            | fl ws =>
              obtain ⟨b, xs, w1, w2, w3, w4⟩ := z2
              have get : ∀ t' : Ab, (env1.set i (some (.ab t')))[kk]? = some (some (.ab (.fl ws))) := fun t' => by rw [get_set_ne' (Ne.symm hik)]; exact ek
              exact core ws ⟨b, xs, w1, w2, w3, w4⟩ (by simp only [wAt, ek]) fun ws' => ⟨.ab (.fl ws'), by simp only [wPut, get], fun t' => by simp only [wPut, get], fun F' H' b' ys h1 h2 h3 h4 => ⟨b', ys, h1, h2, h3, h4⟩, fun _ => ⟨_, rfl⟩, (fun ⟨l, z⟩ => nomatch z)⟩
            | _ => simp only [bnd, wAt, ek] at g3; exact g3.elim
  | tmp ws =>
    simp only [endW] at g3
    obtain ⟨b, xs, rfl, w2, w3, w4, w5, w6⟩ := hv'
    refine ⟨F1, t1, a, fp1 i, vs, ds, b, ws, xs, rfl, hln, R1.fh, R1.sy, q3, fun q hq => (R1.ow i q hq).1, hd, w2, w3, w5 i, w6, ?_⟩
    cases eS : S t1 ds ws with
    | mk r tw =>
      obtain ⟨t', ws'⟩ := tw
      rw [eS] at g3
      cases r with
      | bad => exact g3.elim
      | exc x => exact g3.elim
      | ok r =>
        intro F' H' v' ys gr kp nn nb ab hb' dws hr'
        have R2 : Rel X.K c fp1 F' (env1.set i (some (.ab t'))) σ H' := by
          -- the list that was made for the call is forgotten
          have R1b := R1.over (u := .lst ys) w2 w3 w5 w4
          have e3' : ∀ q u, q ∉ fp1 i → upd H1 b (.lst ys) q = some u → H' q = some u := fun q u hq z => by
            by_cases hqb : q = b
            · subst hqb
              rw [upd_same] at z
              cases z
              exact hb'
            · rw [upd_ne hqb] at z
              exact kp q u z hq hqb
          refine R1b.mutate q1 k2 gr.1 gr.2.1 e3' (fun q hq => ?_) (fun q hq => ?_) ab (fun _ => ⟨t', rfl⟩) (fun ⟨l, z⟩ => nomatch z)
          · by_cases hm1 : q ∈ fp1 i
            · exact abAt_in ab q hm1
            · cases z : upd H1 b (.lst ys) q with
              | none => exact absurd z hq
              | some o => rw [e3' q o hm1 z]; simp
          · exact (gr.2.2 q hq).imp id fun z => ⟨(R1.free z).2.1, (R1.free z).2.2⟩
        have g4 : Goes X.K c W σ F1 (Res.ok r (env1.set i (some (.ab t')))) (fun fp' F' env' H' o => ∀ v, OpdOk X.K c fp' F' σ H' o v → Q v H') := g3
        refine g4 fp1 F' H' R2 gr.1 v' ?_
        have z := ret_opd R1 hr'
        cases r with
        | val d => exact z
        | slot j => exact hr'.elim
        | tmp l => exact z
        | tab tt => exact z
  | _ => exact g3.elim
end
end Pu

namespace Pu
open PySem PySem.Spec PyProof.Rows L2
section
variable {X : Cx}
def gMax2 : List D → Option Opd
  | [.int i, .int j] => some (.val (.int (if j > i then j else i)))
  | _ => none
def gMin2 : List D → Option Opd
  | [.int i, .int j] => some (.val (.int (if j < i then j else i)))
  | _ => none
theorem bdens2 {K : PySem.W.Frag} {F H : Hp} {d d' : D} {xs : List V} (h : BDens K F H [d, d'] xs) : ∃ v w, xs = [v, w] ∧ BDen K F H d v ∧ BDen K F H d' w := by
  obtain ⟨v, r, rfl, h1, w, r', rfl, h2, h3⟩ := h
  have h3' : r' = [] := h3
  subst h3'
  exact ⟨v, w, rfl, h1, h2⟩
theorem bi_max2 (hc : X.calm = true) : Bi X (.builtin "max") gMax2 := by
  refine ⟨_, call_max2 hc, fun F H xs ds o Q e sy hx hg q => ?_⟩
  unfold gMax2 at hg
  split at hg
  · cases hg
    obtain ⟨v, w, rfl, h1, h2⟩ := bdens2 hx
    exact ⟨_, _, by rw [bd_int h1, bd_int h2], q _ _ (.same den_int)⟩
  · cases hg
theorem bi_min2 (hc : X.calm = true) : Bi X (.builtin "min") gMin2 := by
  refine ⟨_, call_min2 hc, fun F H xs ds o Q e sy hx hg q => ?_⟩
  unfold gMin2 at hg
  split at hg
  · cases hg
    obtain ⟨v, w, rfl, h1, h2⟩ := bdens2 hx
    exact ⟨_, _, by rw [bd_int h1, bd_int h2], q _ _ (.same den_int)⟩
  · cases hg
theorem bt_max : bootBuiltins "max" = some (.builtin "max") := by decide +kernel
theorem bt_min : bootBuiltins "min" = some (.builtin "min") := by decide +kernel
end
section
variable {X : Cx} {bo : List Nat} {W : WX} {e a b : Expr} {pos p pv pk apos cpos : Pos} {x : Str} {i j : Nat} {k : Str}
/-- x['k'].pop(0) -/
def eCPop0 (i : Nat) (k : Str) : PM Opd := bnd (dcAt i) fun es => bnd (lift (flAt es (.inr k))) fun ds => bnd (lift ds.head?) fun d => bnd (putS i (.ab (.dc (setC es (.inr k) (.fl ds.tail))))) fun _ => ret (.val d)
theorem px_cPop0 {j0 : Nat} {p0 : Pos} (hu1 : X.A.units + 1 < cLine) (hN : X.N[i]? = some x := by rfl) (hv : Vis X.env.scope x := by first | exact Or.inl rfl | exact Or.inr (Or.inl rfl) | exact Or.inr (Or.inr rfl)) (hd : (x == ("__debug__" : Str)) = false := by decide)
    (hcd : (x == ("__classdict__" : Str)) = false := by decide) (hbase : attributeBase (.Subscript (.Name x pv) (.Constant (.str k) j pk) p) "pop" X.env (eval (.Subscript (.Name x pv) (.Constant (.str k) j pk) p) X.env) = eval (.Subscript (.Name x pv) (.Constant (.str k) j pk) p) X.env := by rfl)
    (hfew : ((backTo cpos (starEach [.Constant (.int 0) j0 p0] X.env)).all (fun x => !x.1) && (backToKw cpos (keywordEach [] X.env)).all (fun x => x.1.isSome)
      && decide (([.Constant (.int 0) j0 p0] : List Expr).length + ([] : List Keyword).length + (if ([] : List Keyword).isEmpty then 0 else 1) < 30)) = true := by rfl)
    (hline : (apos.endLine == cpos.line) = true := by rfl) (hs : starEach [.Constant (.int 0) j0 p0] X.env = (false, eval (.Constant (.int 0) j0 p0) X.env) :: starEach [] X.env := by rfl) (hplain : (backTo cpos (starEach [] X.env)).any (·.1) = false := by rfl) :
    PX X bo W (.Call (.Attribute (.Subscript (.Name x pv) (.Constant (.str k) j pk) p) "pop" apos) [.Constant (.int 0) j0 p0] [] cpos) (eCPop0 i k) := by
  refine ⟨_, pe_bm PySem.F.plainAttrs_list PySem.F.slot_list_pop PySem.F.type_list_pop mt_popAt (pe_dget hu1 (pe_var hN hv hd hcd) pe_str (fun _ _ => rfl)) (pa_cons pe_int pa_nil hs) hbase hfew hline hs hplain, fun c fp F env σ H Q hc R g => ?_⟩
  obtain ⟨es, a, kvs, fr, k1, k2, k3, k4, k5, k6, g1⟩ := dcAt_ok R g
  obtain ⟨ds, hd', g2⟩ := goes_lift_bnd g1
  obtain ⟨d, hd2, g3⟩ := goes_lift_bnd g2
  obtain ⟨q, xs, w1, w2, w3, w4, w5⟩ := cells_fl k6 (flAt_ok hd')
  cases ds with
  | nil => cases hd2
  | cons d0 ds =>
    cases hd2
    simp only [Dens] at w4
    obtain ⟨y, ys, rfl, y1, y2⟩ := w4
    refine ⟨.ref a, k2, a, .ref q, rfl, .inl ⟨kvs, .inr k, .inl k5, rfl, w1.symm⟩, .inl ⟨rfl, y :: ys, .inl (.inl w3)⟩, q, y :: ys, 0, 0, y, rfl, rfl, w3, by decide, by decide, ?_, rfl, ?_⟩
    · unfold seqIndex?
      simp
    · have hne : a ≠ q := fun z => k4 (z ▸ w2)
      have hAb : AbAt X.K F (upd H q (.lst ys)) (.dc (setC es (.inr k) (.fl ds))) (.ref a) (fp i) := ⟨a, kvs, fr, rfl, k3, k4, by rw [upd_ne hne]; exact k5, w5 _ _ y2⟩
      exact g3 fp F _ (R.setAt k1 k2 (by rw [k3]; exact List.mem_cons_of_mem _ w2) hAb) (Ex.refl F) y y1
/-- x['k'].insert(0, e) : e knows nothing of x -/
def eCIns (i : Nat) (k : Str) (f : PM Opd) : PM Opd := bnd (dcAt i) fun es => bnd (lift (flAt es (.inr k))) fun ds => hid i (kept f) fun d => if ds.length < bigLine then bnd (putS i (.ab (.dc (setC es (.inr k) (.fl (d :: ds)))))) fun _ => ret (.val .none) else oops
theorem px_cIns {j0 : Nat} {p0 : Pos} {f : PM Opd} (hu1 : X.A.units + 1 < cLine) (h : PX X bo W e f) (hN : X.N[i]? = some x := by rfl) (hv : Vis X.env.scope x := by first | exact Or.inl rfl | exact Or.inr (Or.inl rfl) | exact Or.inr (Or.inr rfl)) (hd : (x == ("__debug__" : Str)) = false := by decide)
    (hcd : (x == ("__classdict__" : Str)) = false := by decide) (hbase : attributeBase (.Subscript (.Name x pv) (.Constant (.str k) j pk) p) "insert" X.env (eval (.Subscript (.Name x pv) (.Constant (.str k) j pk) p) X.env) = eval (.Subscript (.Name x pv) (.Constant (.str k) j pk) p) X.env := by rfl)
    (hfew : ((backTo cpos (starEach [.Constant (.int 0) j0 p0, e] X.env)).all (fun x => !x.1) && (backToKw cpos (keywordEach [] X.env)).all (fun x => x.1.isSome)
      && decide (([.Constant (.int 0) j0 p0, e] : List Expr).length + ([] : List Keyword).length + (if ([] : List Keyword).isEmpty then 0 else 1) < 30)) = true := by rfl)
    (hline : (apos.endLine == cpos.line) = true := by rfl) (hs : starEach [.Constant (.int 0) j0 p0, e] X.env = (false, eval (.Constant (.int 0) j0 p0) X.env) :: starEach [e] X.env := by rfl) (hs2 : starEach [e] X.env = (false, eval e X.env) :: starEach [] X.env := by rfl) (hplain : (backTo cpos (starEach [e] X.env)).any (·.1) = false := by rfl) :
    PX X bo W (.Call (.Attribute (.Subscript (.Name x pv) (.Constant (.str k) j pk) p) "insert" apos) [.Constant (.int 0) j0 p0, e] [] cpos) (eCIns i k f) := by
  obtain ⟨t, h1, h2⟩ := h
  refine ⟨_, pe_bm PySem.F.plainAttrs_list PySem.F.slot_list_insert PySem.F.type_list_insert mt_insert (pe_dget hu1 (pe_var hN hv hd hcd) pe_str (fun _ _ => rfl)) (pa_cons pe_int (pa_cons h1 pa_nil hs2) hs) hbase hfew hline hs hplain, fun c fp F env σ H Q hc R g => ?_⟩
  obtain ⟨es, a, kvs, fr, k1, k2, k3, k4, k5, k6, g1⟩ := dcAt_ok R g
  obtain ⟨ds, hd', g2⟩ := goes_lift_bnd g1
  obtain ⟨q, xs, w1, w2, w3, w4, w5⟩ := cells_fl k6 (flAt_ok hd')
  refine ⟨.ref a, k2, a, .ref q, rfl, .inl ⟨kvs, .inr k, .inl k5, rfl, w1.symm⟩, .inl ⟨rfl, xs, .inl (.inl w3)⟩, ?_⟩
  show t σ H _
  refine h2 (c.lend i fp F H) _ F _ σ H _ (lend_ok hc) (R.hide i) ((hid_ok R k1 (Ex.refl F) g2).mono (Ex.refl F) fun fp1 F1 env1 H1 o e1 R1 g3 v hv => ?_)
  obtain ⟨d, fp2, F2, env2, R2, kk, e2, den, g4⟩ := g3 v hv
  have hq : q ∈ fp i := by rw [k3]; exact List.mem_cons_of_mem _ w2
  have ha : a ∈ fp i := by rw [k3]; exact List.mem_cons_self ..
  have w3' := kk q hq _ w3
  split at g4
  · rename_i hl
    refine ⟨q, xs, 0, v, rfl, rfl, w3', by rw [dens_len w4]; exact Nat.lt_trans hl big_line, by decide, by decide, ?_⟩
    have hne : a ≠ q := fun z => k4 (z ▸ w2)
    have k6' : CellsAt X.K F2 H1 es kvs fr := cells_keep e2 k6 fun b u hb hu => kk b (by rw [k3]; exact List.mem_cons_of_mem _ hb) u hu
    obtain ⟨q', xs', v1, v2, v3, v4, v5⟩ := cells_fl k6' (flAt_ok hd')
    rw [w1] at v1
    cases v1
    rw [w3'] at v3
    cases v3
    have ex : xs.take (0 : Int).toNat ++ [v] ++ xs.drop (0 : Int).toNat = v :: xs := by simp
    rw [ex]
    have dd : Dens X.K F2 (d :: ds) (v :: xs) := by
      simp only [Dens]
      exact ⟨v, xs, rfl, den, v4⟩
    have hAb : AbAt X.K F2 (upd H1 q (.lst (v :: xs))) (.dc (setC es (.inr k) (.fl (d :: ds)))) (.ref a) (fpSet fp2 i (fp i) i) := by
      rw [fpSet_same]
      exact ⟨a, kvs, fr, rfl, k3, k4, by rw [upd_ne hne]; exact kk a ha _ k5, v5 _ _ dd⟩
    have hlen : i < env2.length := by
      have e9 := R2.ln
      rw [List.length_set] at e9
      rw [e9, ← R.ln]
      exact (List.getElem?_eq_some_iff.mp k1).1
    have R3 := R2.setAt (i := i) (t := .dc es) (v := .ref a) (by rw [List.getElem?_set_self hlen]) k2 (by rw [fpSet_same]; exact hq) hAb
    exact g4 _ F2 _ R3 e2 .non (by show Den _ _ _ _; simp only [Den])
  · exact g4.elim
/-- x[i] = e at a list that was handed in -/
def flX (i : Nat) : PM (List D) := bnd (abAtE i) fun t => match t with
  | .fl ds => ret ds
  | _ => oops
theorem flX_ok {K : PySem.W.Frag} {c : Ct} {W : WX} {fp : Nat → List Addr} {F F0 : Hp} {env : PEnv} {σ : L2.St} {H : Hp} {i : Nat} {β : Type} {k : List D → PM β} {G : (Nat → List Addr) → Hp → PEnv → Hp → β → Prop} (R : Rel K c fp F env σ H) (g : Goes K c W σ F0 (bnd (flX i) k env) G) :
    ∃ ds a xs, env[i]? = some (some (.ab (.fl ds))) ∧ σ[i]? = some (some (.ref a)) ∧ fp i = [a] ∧ H a = some (.lst xs) ∧ Dens K F ds xs ∧ Goes K c W σ F0 (k ds env) G := by
  have e : bnd (flX i) k = bnd (abAtE i) fun t => bnd (match t with | .fl ds => ret ds | _ => oops) k := bnd_assoc _ _ _
  rw [e] at g
  obtain ⟨t, v, k1, k2, k3, g1⟩ := abAt_ok R g
  cases t with
  | fl ds =>
    obtain ⟨a, xs, rfl, h2, h3, h4⟩ := k3
    exact ⟨ds, a, xs, k1, k2, h2, h3, h4, g1⟩
  | _ => exact g1.elim
def sPutFl (i : Nat) (fe fi : PM Opd) : PM Out := bnd (kept fe) fun d => bnd (flX i) fun _ => bnd (opn fi) fun o => bnd (rsv o) fun k => bnd (flX i) fun ds => bnd (lift (ixD ds.length k)) fun j => bnd (putS i (.ab (.fl (ds.set j d)))) fun _ => ret .next
theorem psx_putFl {pt : Pos} {fe fi : PM Opd} (he : PX X bo W e fe) (hk : PX X bo W a fi) (hN : X.N[i]? = some x := by rfl) (hv : Vis X.env.scope x := by first | exact Or.inl rfl | exact Or.inr (Or.inl rfl) | exact Or.inr (Or.inr rfl)) (hd : (x == ("__debug__" : Str)) = false := by decide)
    (hcd : (x == ("__classdict__" : Str)) = false := by decide)
    (ha : ∀ v, assign (.Subscript (.Name x pv) a pt) X.env v = (do
      let ov ← holding [v] (eval (.Name x pv) X.env)
      let iv ← holding [v, ov] (eval a X.env)
      standAt pt
      holding [v, ov, iv] (setItem ov iv v)
      release [v, ov, iv] []) := by intro _; rfl)
    (hs : swapsWithSole [.Subscript (.Name x pv) a pt] e pos.line X.env = pure false := by rfl) (hw : swappedStores [.Subscript (.Name x pv) a pt] e X.env = pure none := by rfl)
    (h1 : (assignEach [.Subscript (.Name x pv) a pt] X.env).map (·.2) = [assign (.Subscript (.Name x pv) a pt) X.env] := by rfl) : PSX X bo W (.Assign [.Subscript (.Name x pv) a pt] e pos) (sPutFl i fe fi) := by
  obtain ⟨t, a1, a2⟩ := he
  obtain ⟨u, b1, b2⟩ := px_opn hk
  refine ⟨_, ps_asg a1 (pg_sub (pe_var hN hv hd hcd) b1 set_list ha) hs hw h1, fun c fp F env σ H Dn hc R g => ?_⟩
  unfold sPutFl at g
  rw [kept_bnd] at g
  refine a2 c fp F env σ H _ hc R ((GoesS.bnd (σ := σ) g).mono (Ex.refl F) fun fp1 F1 env1 H1 o e1 R1 g1 v hv => ?_)
  obtain ⟨d, fp2, F2, env2, R2, e2, hden, g2⟩ := frz_okS R1 hv g1
  obtain ⟨ds, ad, xs, k1, k2, k3, k4, k5, g3⟩ := flX_ok R2 (GoesS.at σ (g2.mono e2))
  refine ⟨.ref ad, k2, ?_⟩
  refine b2 c fp2 F2 env2 σ H1 _ hc R2 ((Goes.bnd g3).mono (Ex.refl F2) fun fp3 F3 env3 H3 oi e3 R3 g4 u hn hu => ?_)
  obtain ⟨dk, q1, g5⟩ := rsv_ok R3 hu g4
  obtain ⟨ds2, ad2, xs2, z1, z2, z3, z4, z5, g6⟩ := flX_ok R3 g5
  rw [k2] at z2
  cases z2
  obtain ⟨jj, hj, g7⟩ := goes_lift_bnd g6
  cases dk with
  | int z =>
    refine ⟨ad, xs2, z, jj, rfl, bd_int q1, z4, by rw [dens_len z5]; exact hj, ?_⟩
    have hAb : AbAt X.K F3 (upd H3 ad (.lst (xs2.set jj v))) (.fl (ds2.set jj d)) (.ref ad) (fp3 i) := ⟨ad, _, rfl, z3, upd_same, dens_set (den_mono e3 _ _ hden) jj z5⟩
    exact g7 fp3 F3 _ (R3.setAt z1 k2 (by rw [z3]; simp) hAb) (Ex.refl F3)
  | _ => cases hj
end
end Pu
namespace Pu
open PySem PySem.Spec PyProof.Rows L2
section
variable {X : Cx}
def gMin3 : List D → Option Opd
  | [.int i, .int j, .int k] => some (.val (.int (if k < (if j < i then j else i) then k else if j < i then j else i)))
  | _ => none
theorem bdens3 {K : PySem.W.Frag} {F H : Hp} {d d' d2 : D} {xs : List V} (h : BDens K F H [d, d', d2] xs) : ∃ v w u, xs = [v, w, u] ∧ BDen K F H d v ∧ BDen K F H d' w ∧ BDen K F H d2 u := by
  obtain ⟨v, r, rfl, h1, h2⟩ := h
  obtain ⟨w, u, rfl, h3, h4⟩ := bdens2 h2
  exact ⟨v, w, u, rfl, h1, h3, h4⟩
theorem nuMin3_int (i j k : Int) : nuMin3 (.int i) (.int j) (.int k) = some (.int (if k < (if j < i then j else i) then k else if j < i then j else i)) := by
  have h2 : ∀ a b : Int, nuMin2 (.int a) (.int b) = some (.int (if b < a then b else a)) := fun a b => by
    show (some (decide (b < a))).map (fun c => if c = true then V.int b else V.int a) = _
    by_cases h : b < a
    · simp [h]
    · simp [h]
  unfold nuMin3
  rw [h2]
  show nuMin2 _ _ = _
  rw [h2]
theorem bi_min3 (hc : X.calm = true) : Bi X (.builtin "min") gMin3 := by
  refine ⟨_, call_min3Nu hc, fun F H xs ds o Q e sy hx hg q => ?_⟩
  unfold gMin3 at hg
  split at hg
  · cases hg
    obtain ⟨v, w, u, rfl, h1, h2, h3⟩ := bdens3 hx
    exact ⟨_, _, _, _, by rw [bd_int h1, bd_int h2, bd_int h3], nuMin3_int _ _ _, q _ _ (.same den_int)⟩
  · cases hg
end
/-! no fuel: a promise of nothing -/
section
variable {P : Program} {w : World} {K : PySem.W.Frag} {mg : Str → Option Value} {base : Heap} {CX : CXT} {k n : Nat} {f : Addr} {fd : FuncData} {ps : List Str}
theorem fng_none {sp : Sp} (h : ∀ vs H Q E, ¬ sp vs H Q E) : FnG P w K mg base CX k f fd ps sp := ⟨fun vs H Q E z => absurd z (h vs H Q E), fun A outer s H args us vs Q E _ _ _ _ _ z => absurd z (h vs H Q E)⟩
def badA : List D → FR := fun _ => .bad
def badB : Ab → List D → FR × Ab := fun t _ => (.bad, t)
def badW : Ab → List D → List D → FR × Ab × List D := fun t _ ws => (.bad, t, ws)
theorem fn0A : FnG P w K mg base CX k f fd ps (SpA K n badA) := fng_none fun vs H Q E ⟨_, _, _, _, _, _, z⟩ => z
theorem fn0B : FnG P w K mg base CX k f fd ps (SpB K n badB) := fng_none fun vs H Q E ⟨_, _, _, _, _, _, _, _, _, _, _, _, _, z⟩ => z
theorem fn0W : FnG P w K mg base CX k f fd ps (SpW K n badW) := fng_none fun vs H Q E ⟨_, _, _, _, _, _, _, _, _, _, _, _, _, _, _, _, _, _, _, _, z⟩ => z
end
end Pu

namespace Pu
open PySem PySem.Spec PyProof.Rows L2
section
variable {X : Cx} {bo : List Nat} {W : WX} {a b : Expr} {pos : Pos} {x y : Str} {i j : Nat}
theorem pair_core {K : PySem.W.Frag} {c : Ct} {fp1 fp2 : Nat → List Addr} {F1 F2 : Hp} {env1 env2 : PEnv} {σ : L2.St} {H1 H2 H3 : Hp} {Dn : Ends} {o1 o2 : Opd} {v1 v2 : V} (hi0 : ∀ q ∈ c.br, q.1 ≠ i) (hj0 : ∀ q ∈ c.br, q.1 ≠ j) (R1 : Rel K c fp1 F1 env1 σ H1) (hv1 : OpdOk K c fp1 F1 σ H1 o1 v1) (R2 : Rel K (c.sub fp1 F1 H1) fp2 F2 env2 σ H2) (e2 : Ex F1 F2) (hv2 : OpdOk K (c.sub fp1 F1 H1) fp2 F2 σ H2 o2 v2)
    (R3 : Rel K c fp2 F2 env2 σ H3) (k3 : Ex H2 H3)
    (g1 : GoesS K c W F1 (bnd (lift (slotOf o1)) (fun s1 => bnd (lift (slotOf o2)) fun s2 => bnd (putS i s1) fun _ => bnd (putS j s2) fun _ => ret .next) env2) Dn) : Dn.nx ((σ.set i (some v1)).set j (some v2)) H3 := by
  cases o1 with
  | val d1 =>
    have hd1 : Den K F2 d1 v1 := den_mono e2 d1 v1 hv1
    cases o2 with
    | val d2 => exact g1 _ F2 _ H3 ((R3.put hi0 hd1).put hj0 hv2) e2
    | tmp ds2 =>
      obtain ⟨p2, xs2, rfl, w2, w3, w4, w5, w6⟩ := hv2
      have R4 := R3.put hi0 hd1
      have hp0 : c.H0 p2 = none := by
        cases z : c.H0 p2 with
        | none => rfl
        | some o => exact absurd w4 (R1.al p2 (by rw [z]; simp))
      have w2' := k3 _ _ w2
      refine g1 _ F2 _ H3 (R4.putOwn (o := .ls ds2) (l := [p2]) hj0 ⟨p2, xs2, rfl, rfl, w2', w6⟩ fun q hq => ?_) e2
      have : q = p2 := by simpa using hq
      subst this
      refine ⟨w3, by rw [w2']; simp, hp0, fun m hm => ?_⟩
      by_cases em : m = i
      · subst em; rw [fpSet_same] at hm; cases hm
      · rw [fpSet_ne em] at hm; exact w5 m hm
    | _ => exact g1.elim
  | tmp ds1 =>
    obtain ⟨p1, xs1, rfl, u2, u3, u4, u5, u6⟩ := hv1
    obtain ⟨z1, z2, z3⟩ := R2.aside u2 u3 u5
    have z1' := k3 _ _ z1
    have R4 := R3.putOwn (i := i) (o := .ls ds1) (v := .ref p1) (l := [p1]) hi0 ⟨p1, xs1, rfl, rfl, z1', dens_mono e2 _ _ u6⟩ fun q hq => by
      have : q = p1 := by simpa using hq
      subst this
      exact ⟨z2, by rw [z1']; simp, u4, z3⟩
    cases o2 with
    | val d2 => exact g1 _ F2 _ H3 (R4.put hj0 hv2) e2
    | tmp ds2 =>
      obtain ⟨p2, xs2, rfl, w2, w3, w4, w5, w6⟩ := hv2
      have hp0 : c.H0 p2 = none := by
        cases z : c.H0 p2 with
        | none => rfl
        | some o => exact absurd w4 (R1.al p2 (by rw [z]; simp))
      have hne : p2 ≠ p1 := fun z => by
        have w4' : H1 p2 = none := w4
        rw [z, u2] at w4'
        cases w4'
      have w2' := k3 _ _ w2
      refine g1 _ F2 _ H3 (R4.putOwn (o := .ls ds2) (l := [p2]) hj0 ⟨p2, xs2, rfl, rfl, w2', w6⟩ fun q hq => ?_) e2
      have : q = p2 := by simpa using hq
      subst this
      refine ⟨w3, by rw [w2']; simp, hp0, fun m hm => ?_⟩
      by_cases em : m = i
      · subst em
        rw [fpSet_same] at hm
        exact hne (by simpa using hm)
      · rw [fpSet_ne em] at hm; exact w5 m hm
    | _ => exact g1.elim
  | _ => cases o2 <;> exact g1.elim
/-- a, b = e, f, where a name is kept in a cell: the pair is made, and taken apart -/
theorem psx_par2C {px py pt pt2 : Pos} {kt k2 : Nat} {f g : PM Opd} (hcalm : X.calm = true) (hN : X.N.Nodup) (h : PX X bo W a f) (h' : PX X bo W b g) (hi : X.N[i]? = some x := by rfl) (hj : X.N[j]? = some y := by rfl) (hbi : bo.contains i = false := by rfl) (hbj : bo.contains j = false := by rfl)
    (hx : Loc X.env.scope x := by first | exact Or.inl rfl | exact Or.inr rfl) (hy : Loc X.env.scope y := by first | exact Or.inl rfl | exact Or.inr rfl) (hfx : X.fn x = true ∨ X.env.scope.names.lookup x = some .local := by first | exact .inl rfl | exact .inr rfl | assumption) (hfy : X.fn y = true ∨ X.env.scope.names.lookup y = some .local := by first | exact .inl rfl | exact .inr rfl | assumption)
    (hs1 : starEach [a, b] X.env = (false, eval a X.env) :: starEach [b] X.env := by rfl) (hs2 : starEach [b] X.env = (false, eval b X.env) :: starEach [] X.env := by rfl)
    (he1 : (assignEach [.Name x px, .Name y py] X.env).map (·.2) = assign (.Name x px) X.env :: (assignEach [.Name y py] X.env).map (·.2) := by rfl) (he2 : (assignEach [.Name y py] X.env).map (·.2) = assign (.Name y py) X.env :: (assignEach [] X.env).map (·.2) := by rfl)
    (hn : (assignEach [.Name x px, .Name y py] X.env).length = 2 := by rfl) (hst : (assignEach [.Name x px, .Name y py] X.env).findIdx? (·.1) = none := by rfl)
    (hs : swapsWithSole [.Tuple [.Name x px, .Name y py] kt pt] (.Tuple [a, b] k2 pt2) pos.line X.env = pure false := by rfl) (hw : swappedStores [.Tuple [.Name x px, .Name y py] kt pt] (.Tuple [a, b] k2 pt2) X.env = pure none := by rfl)
    (h1 : (assignEach [.Tuple [.Name x px, .Name y py] kt pt] X.env).map (·.2) = [assign (.Tuple [.Name x px, .Name y py] kt pt) X.env] := by rfl) :
    PSX X bo W (.Assign [.Tuple [.Name x px, .Name y py] kt pt] (.Tuple [a, b] k2 pt2) pos) (sPar2 i j f g) := by
  obtain ⟨t, a1, a2⟩ := h
  obtain ⟨t', a3, a4⟩ := h'
  refine ⟨_, ps_asg (pe_tup (pa_cons a1 (pa_cons a3 pa_nil hs2) hs1)) (pg_tup hcalm (pgs_cons (pg_name hN hi hx hfx) (pgs_cons (pg_name hN hj hy hfy) pgs_nil he2) he1) hn hst) hs hw h1, fun c fp F env σ H Dn hc R gg => ?_⟩
  have hi0 : ∀ q ∈ c.br, q.1 ≠ i := okc_ne hc hbi
  have hj0 : ∀ q ∈ c.br, q.1 ≠ j := okc_ne hc hbj
  refine a2 c fp F env σ H _ hc R ((GoesS.bnd (σ := σ) gg).mono (Ex.refl F) fun fp1 F1 env1 H1 o1 e1 R1 g1 v1 hv1 => ?_)
  refine a4 (c.sub fp1 F1 H1) fp1 F1 env1 σ H1 _ hc R1.into ?_
  cases eg : g env1 with
  | bad => simp only [bnd, eg] at g1; exact g1.elim
  | exc x' e' =>
    simp only [bnd, eg] at g1
    intro fp2 F2 H2 d R2 e2 hx
    exact g1 fp2 F2 σ H2 d (R1.outof R2) e2 hx
  | ok o2 env2 =>
    intro fp2 F2 H2 R2 e2 v2 hv2
    have R3 := R1.outof R2
    have g2 : GoesS X.K c W F1 (bnd (lift (slotOf o1)) (fun s1 => bnd (lift (slotOf o2)) fun s2 => bnd (putS i s1) fun _ => bnd (putS j s2) fun _ => ret .next) env2) Dn := by
      have := g1
      rw [show bnd g (fun o2 => bnd (lift (slotOf o1)) fun s1 => bnd (lift (slotOf o2)) fun s2 => bnd (putS i s1) fun _ => bnd (putS j s2) fun _ => (ret Out.next : PM Out)) env1 = bnd (lift (slotOf o1)) (fun s1 => bnd (lift (slotOf o2)) fun s2 => bnd (putS i s1) fun _ => bnd (putS j s2) fun _ => (ret Out.next : PM Out)) env2 from by unfold bnd; rw [eg]] at this
      exact this
    refine ⟨by show 2 ≤ sizeLine; decide, fun q hq => ⟨q, [v1, v2], rfl, .inl (.inl upd_same), rfl, v1, [v2], rfl, v2, [], rfl, rfl, ?_⟩⟩
    exact pair_core hi0 hj0 R1 hv1 R2 e2 hv2 (R3.newH hq) (Ex.new hq) g2
end
end Pu

namespace Pu
open PySem PySem.Spec PyProof.Rows L2
/-! ### dead slots are forgotten -/
def sWipe (is : List Nat) : PM Out := fun e => .ok .next (wipeE e is)
theorem pssx_wipe {X : Cx} {bo : List Nat} {W : WX} {sts : List Stmt} {is : List Nat} {g : PM Out} (h0 : ∀ i ∈ bo, i ∉ is) (h : PSsX X bo W sts g) : PSsX X bo W sts (sSeq (sWipe is) g) := by
  obtain ⟨t, h1, h2⟩ := h
  refine ⟨t, h1, fun c fp F env σ H D hc R gg => ?_⟩
  have R' : Rel X.K c (fun i => if i ∈ is then [] else fp i) F (wipeE env is) σ H := by
    refine R.patch is (fun q hq => h0 _ (hc q hq)) (by rw [len_wipeE]; exact R.ln) (fun i hi => ⟨by rw [get_wipeE, if_neg hi], rfl⟩) fun i hi o h => ?_
    rw [get_wipeE, if_pos hi] at h
    split at h <;> cases h
  exact h2 c _ F (wipeE env is) σ H D hc R' gg
/-- an owned list becomes a value -/
def sFrz (i : Nat) : PM Out := fun e => match e[i]? with
  | some (some (.ls ds)) => .ok .next (e.set i (some (.im (.list ds))))
  | _ => .bad
theorem pssx_frz {X : Cx} {bo : List Nat} {W : WX} {sts : List Stmt} {i : Nat} {g : PM Out} (h : PSsX X bo W sts g) : PSsX X bo W sts (sSeq (sFrz i) g) := by
  obtain ⟨t, h1, h2⟩ := h
  refine ⟨t, h1, fun c fp F env σ H D hc R gg => ?_⟩
  unfold sSeq sFrz bnd at gg
  cases e : env[i]? with
  | none => simp only [e] at gg; exact gg.elim
  | some s =>
    cases s with
    | none => simp only [e] at gg; exact gg.elim
    | some s =>
      cases s with
      | ls ds =>
        simp only [e] at gg
        obtain ⟨v, hv, _⟩ := R.sl i _ e
        obtain ⟨F', R', e', _⟩ := R.freeze e hv
        exact h2 c _ F' _ σ H D hc R' (gg.mono e')
      | im d => simp only [e] at gg; exact gg.elim
      | ab t => simp only [e] at gg; exact gg.elim
/-! ### what is wished of typed runs -/
abbrev EP := Exn → Prop
abbrev WP (α : Type) : Type := (α → Prop) → EP → Prop
section
variable {α β γ σ τ ρ : Type}
def wpure (a : α) : WP α := fun Q _ => Q a
def wbind (m : WP α) (f : α → WP β) : WP β := fun Q E => m (fun a => f a Q E) E
def wasrt (p : Prop) : WP Unit := fun Q _ => p ∧ Q ()
def wfind (p : α → Prop) : WP α := fun Q _ => ∃ a, p a ∧ Q a
def wraise (x : Exn) : WP α := fun _ E => E x
def wfail : WP α := fun _ _ => False
inductive Ctl (σ ρ : Type) where
  | nx (s : σ)
  | rt (r : ρ)
def wseq (m : WP (Ctl σ ρ)) (f : σ → WP (Ctl τ ρ)) : WP (Ctl τ ρ) := fun Q E => m (fun c => match c with | .nx s => f s Q E | .rt r => Q (.rt r)) E
def wdone (m : WP (Ctl Empty ρ)) : WP ρ := fun Q E => m (fun c => match c with | .nx s => nomatch s | .rt r => Q r) E
def wfor (b : α → σ → WP (Ctl σ ρ)) : List α → σ → WP (Ctl σ ρ)
  | [], s => wpure (.nx s)
  | x :: xs, s => wseq (b x s) (wfor b xs)
def wwhile (c : σ → WP Bool) (b : σ → WP (Ctl σ ρ)) : Nat → σ → WP (Ctl σ ρ)
  | 0, _ => wfail
  | n + 1, s => wbind (c s) fun k => if k = true then wseq (b s) (wwhile c b n) else wpure (.nx s)
def wlcs (wt : α → WP Bool) (wf : α → WP β) : List α → (List β → Prop) → Prop
  | [], Q => Q []
  | x :: xs, Q => wt x (fun k => if k = true then wf x (fun y => wlcs wt wf xs fun ys => Q (y :: ys)) (fun _ => False) else wlcs wt wf xs Q) (fun _ => False)
def wlc (wt : α → WP Bool) (wf : α → WP β) (xs : List α) : WP (List β) := fun Q _ => xs.length ≤ bigLine ∧ wlcs wt wf xs Q
end
/-! ### the judgements -/
section
variable {B : Ab → Prop} {XE : PEnv → Prop} {α β γ δ σ τ ρ : Type} {V V' V1 V2 : Ab → PEnv}
def J (B : Ab → Prop) (XE : PEnv → Prop) (f : PM α) (K : β → α → Prop) (w : WP β) (V V' : Ab → PEnv) : Prop :=
  ∀ t (Q : β → Prop) (E : EP), B t → w Q E → match f (V t) with
    | .ok a e => ∃ b t', K b a ∧ e = V' t' ∧ B t' ∧ Q b
    | .exc x e => E x ∧ XE e
    | .bad => False
def JP (B : Ab → Prop) (f : PM α) (K : α → Prop) (V : Ab → PEnv) : Prop := ∀ t, B t → ∃ a, f (V t) = .ok a (V t) ∧ K a
def JS (B : Ab → Prop) (XE : PEnv → Prop) (RK : ρ → Opd → PEnv → Prop) (g : PM Out) (w : WP (Ctl σ ρ)) (V : Ab → PEnv) (V' : σ → Ab → PEnv) : Prop :=
  ∀ t (Q : Ctl σ ρ → Prop) (E : EP), B t → w Q E → match g (V t) with
    | .ok .next e => ∃ s t', e = V' s t' ∧ B t' ∧ Q (.nx s)
    | .ok (.ret o) e => ∃ r, RK r o e ∧ Q (.rt r)
    | .exc x e => E x ∧ XE e
    | _ => False
theorem jup {f : PM α} {K : β → α → Prop} {b : β} (h : JP B f (K b) V) : J B XE f K (wpure b) V V := by
  intro t Q E ht hw
  obtain ⟨a, e, k⟩ := h t ht
  rw [e]
  exact ⟨b, t, k, rfl, ht, hw⟩
theorem jbnd {f : PM α} {k : α → PM γ} {K : β → α → Prop} {K2 : δ → γ → Prop} {w : WP β} {w2 : β → WP δ} (h : J B XE f K w V V1) (h2 : ∀ b a, K b a → J B XE (k a) K2 (w2 b) V1 V2) : J B XE (bnd f k) K2 (wbind w w2) V V2 := by
  intro t Q E ht hw
  have h1 := h t _ E ht hw
  unfold Pu.bnd
  cases q : f (V t) with
  | ok a e =>
    rw [q] at h1
    obtain ⟨b, t1, k1, rfl, b1, q1⟩ := h1
    exact h2 b a k1 t1 Q E b1 q1
  | exc x e => rw [q] at h1; exact h1
  | bad => rw [q] at h1; exact h1.elim
theorem jpbnd {f : PM α} {k : α → PM γ} {K : α → Prop} {K2 : δ → γ → Prop} {w : WP δ} (h : JP B f K V) (h2 : ∀ a, K a → J B XE (k a) K2 w V V2) : J B XE (bnd f k) K2 w V V2 := by
  intro t Q E ht hw
  obtain ⟨a, e, k1⟩ := h t ht
  unfold Pu.bnd
  rw [e]
  exact h2 a k1 t Q E ht hw
theorem jpbndP {f : PM α} {k : α → PM γ} {K : α → Prop} {K2 : γ → Prop} (h : JP B f K V) (h2 : ∀ a, K a → JP B (k a) K2 V) : JP B (bnd f k) K2 V := by
  intro t ht
  obtain ⟨a, e, k1⟩ := h t ht
  obtain ⟨c, e2, k2⟩ := h2 a k1 t ht
  refine ⟨c, ?_, k2⟩
  unfold Pu.bnd
  rw [e]
  exact e2
theorem jp_ret {a : α} {K : α → Prop} (h : K a) : JP B (ret a) K V := fun t _ => ⟨a, rfl, h⟩
theorem jmono {f : PM α} {K K2 : β → α → Prop} {w : WP β} (h : J B XE f K w V V1) (k : ∀ b a, K b a → K2 b a) : J B XE f K2 w V V1 := by
  intro t Q E ht hw
  have h1 := h t Q E ht hw
  cases q : f (V t) with
  | ok a e =>
    rw [q] at h1
    obtain ⟨b, t1, k1, r⟩ := h1
    exact ⟨b, t1, k b a k1, r⟩
  | exc x e => rw [q] at h1; exact h1
  | bad => rw [q] at h1; exact h1.elim
theorem jpmono {f : PM α} {K K2 : α → Prop} (h : JP B f K V) (k : ∀ a, K a → K2 a) : JP B f K2 V := fun t ht =>
  let ⟨a, e, ka⟩ := h t ht
  ⟨a, e, k a ka⟩
/-- what is known of the result becomes a typed one -/
theorem jdown {f : PM α} {K : β → α → Prop} {K2 : γ → α → Prop} {w : WP β} {p : β → γ → Prop} (h : J B XE f K w V V1) (k : ∀ b a c, K b a → p b c → K2 c a) : J B XE f K2 (wbind w fun b => wfind (p b)) V V1 := by
  intro t Q E ht hw
  have h1 := h t _ E ht hw
  cases q : f (V t) with
  | ok a e =>
    rw [q] at h1
    obtain ⟨b, t1, k1, k2, k3, c, k4, k5⟩ := h1
    exact ⟨c, t1, k b a c k1 k4, k2, k3, k5⟩
  | exc x e => rw [q] at h1; exact h1
  | bad => rw [q] at h1; exact h1.elim
theorem jpdown {f : PM α} {K : β → α → Prop} {K2 : γ → α → Prop} {b : β} {p : γ → Prop} (h : JP B f (K b) V) (k : ∀ a c, K b a → p c → K2 c a) : J B XE f K2 (wfind p) V V := by
  intro t Q E ht hw
  obtain ⟨a, e, k1⟩ := h t ht
  obtain ⟨c, k4, k5⟩ := hw
  rw [e]
  exact ⟨c, t, k a c k1 k4, rfl, ht, k5⟩
/-! operands -/
abbrev kV (e : α → D) (a : α) (o : Opd) : Prop := o = .val (e a)
abbrev kT (e : α → D) (xs : List α) (o : Opd) : Prop := o = .tmp (xs.map e)
abbrev kEq (a b : α) : Prop := b = a
abbrev kD' (e : α → D) (a : α) (d : D) : Prop := d = e a
abbrev kDs (e : α → List D) (a : α) (d : List D) : Prop := d = e a
def eL (e : α → D) (xs : List α) : D := .list (xs.map e)
def eT (e : α → D) (xs : List α) : D := .tuple (xs.map e)
def kA (e : α → D) (xs : List α) (o : Opd) : Prop := o = .tmp (xs.map e) ∨ o = .val (eL e xs)
/-- an operand that is read as d, now and later -/
def kO (V : Ab → PEnv) (d : D) (o : Opd) : Prop := ∀ t, rsv o (V t) = .ok d (V t)
abbrev JO (B : Ab → Prop) (XE : PEnv → Prop) (f : PM Opd) (e : α → D) (w : WP α) (V : Ab → PEnv) : Prop := J B XE (opn f) (fun a => kO V (e a)) w V V
abbrev JOP (B : Ab → Prop) (f : PM Opd) (d : D) (V : Ab → PEnv) : Prop := JP B (opn f) (kO V d) V
abbrev JK (B : Ab → Prop) (XE : PEnv → Prop) (f : PM Opd) (e : α → D) (w : WP α) (V V' : Ab → PEnv) : Prop := J B XE (kept f) (kD' e) w V V'
abbrev JKP (B : Ab → Prop) (f : PM Opd) (d : D) (V : Ab → PEnv) : Prop := JP B (kept f) (kEq d) V
theorem opn_split {f : PM Opd} {env : PEnv} : opn f env = bnd f thaw env := rfl
theorem jo_v {f : PM Opd} {e : α → D} {w : WP α} (h : J B XE f (kV e) w V V) : JO B XE f e w V := by
  intro t Q E ht hw
  have h1 := h t Q E ht hw
  rw [opn_split]
  unfold Pu.bnd
  cases q : f (V t) with
  | ok a e =>
    rw [q] at h1
    obtain ⟨b, t1, rfl, rfl, k3, k4⟩ := h1
    exact ⟨b, t1, fun t => rfl, rfl, k3, k4⟩
  | exc x e => rw [q] at h1; exact h1
  | bad => rw [q] at h1; exact h1.elim
theorem jo_a {f : PM Opd} {e : α → D} {w : WP (List α)} (h : J B XE f (kA e) w V V) : JO B XE f (eL e) w V := by
  intro t Q E ht hw
  have h1 := h t Q E ht hw
  rw [opn_split]
  unfold Pu.bnd
  cases q : f (V t) with
  | ok a e =>
    rw [q] at h1
    obtain ⟨b, t1, k, rfl, k3, k4⟩ := h1
    rcases k with rfl | rfl
    · exact ⟨b, t1, fun t => rfl, rfl, k3, k4⟩
    · exact ⟨b, t1, fun t => rfl, rfl, k3, k4⟩
  | exc x e => rw [q] at h1; exact h1
  | bad => rw [q] at h1; exact h1.elim
theorem ka_t {f : PM Opd} {e : α → D} {w : WP (List α)} (h : J B XE f (kT e) w V V') : J B XE f (kA e) w V V' := jmono h fun _ _ k => .inl k
theorem ka_v {f : PM Opd} {e : α → D} {w : WP (List α)} (h : J B XE f (kV (eL e)) w V V') : J B XE f (kA e) w V V' := jmono h fun _ _ k => .inr k
theorem jo_t {f : PM Opd} {e : α → D} {w : WP (List α)} (h : J B XE f (kT e) w V V) : JO B XE f (eL e) w V := jo_a (ka_t h)
theorem jop_v {f : PM Opd} {d : D} (h : JP B f (fun o => o = .val d) V) : JOP B f d V := by
  intro t ht
  obtain ⟨a, e, rfl⟩ := h t ht
  refine ⟨.val d, ?_, fun t => rfl⟩
  rw [opn_split]
  unfold Pu.bnd
  rw [e]
  rfl
theorem jop_t {f : PM Opd} {e : α → D} {xs : List α} (h : JP B f (kT e xs) V) : JOP B f (eL e xs) V := by
  intro t ht
  obtain ⟨a, q, rfl⟩ := h t ht
  refine ⟨.val (eL e xs), ?_, fun t => rfl⟩
  rw [opn_split]
  unfold Pu.bnd
  rw [q]
  rfl
/-- an owned list stands in slot i -/
theorem jop_s {i : Nat} {e : α → D} {xs : List α} (h : ∀ t, (V t)[i]? = some (some (.ls (xs.map e)))) : JOP B (eVar i) (eL e xs) V := by
  intro t ht
  refine ⟨.slot i, ?_, fun t => ?_⟩
  · rw [opn_split]
    unfold Pu.bnd eVar
    rw [h t]
    rfl
  · unfold rsv
    simp only [h t, eL]
theorem jk_v {f : PM Opd} {e : α → D} {w : WP α} (h : J B XE f (kV e) w V V') : JK B XE f e w V V' := by
  intro t Q E ht hw
  have h1 := h t Q E ht hw
  unfold kept Pu.bnd
  cases q : f (V t) with
  | ok a e =>
    rw [q] at h1
    obtain ⟨b, t1, rfl, rfl, k3, k4⟩ := h1
    exact ⟨b, t1, rfl, rfl, k3, k4⟩
  | exc x e => rw [q] at h1; exact h1
  | bad => rw [q] at h1; exact h1.elim
theorem jk_a {f : PM Opd} {e : α → D} {w : WP (List α)} (h : J B XE f (kA e) w V V') : JK B XE f (eL e) w V V' := by
  intro t Q E ht hw
  have h1 := h t Q E ht hw
  unfold kept Pu.bnd
  cases q : f (V t) with
  | ok a e =>
    rw [q] at h1
    obtain ⟨b, t1, k, rfl, k3, k4⟩ := h1
    rcases k with rfl | rfl
    · exact ⟨b, t1, rfl, rfl, k3, k4⟩
    · exact ⟨b, t1, rfl, rfl, k3, k4⟩
  | exc x e => rw [q] at h1; exact h1
  | bad => rw [q] at h1; exact h1.elim
theorem jk_t {f : PM Opd} {e : α → D} {w : WP (List α)} (h : J B XE f (kT e) w V V') : JK B XE f (eL e) w V V' := jk_a (ka_t h)
theorem jkp_v {f : PM Opd} {d : D} (h : JP B f (fun o => o = .val d) V) : JKP B f d V := by
  intro t ht
  obtain ⟨a, e, rfl⟩ := h t ht
  refine ⟨d, ?_, rfl⟩
  unfold kept Pu.bnd
  rw [e]
  rfl
theorem jkp_t {f : PM Opd} {e : α → D} {xs : List α} (h : JP B f (kT e xs) V) : JKP B f (eL e xs) V := by
  intro t ht
  obtain ⟨a, q, rfl⟩ := h t ht
  refine ⟨eL e xs, ?_, rfl⟩
  unfold kept Pu.bnd
  rw [q]
  rfl
/-- an owned list is handed on: it becomes a value -/
theorem jk_s {i : Nat} {e : α → D} {xs : List α} (h : ∀ t, (V t)[i]? = some (some (.ls (xs.map e)))) (h' : ∀ t, (V t).set i (some (.im (.list (xs.map e)))) = V' t) : JK B XE (eVar i) (eL e) (wpure xs) V V' := by
  intro t Q E ht hw
  unfold kept Pu.bnd eVar
  rw [h t]
  simp only [frz, h t, h' t]
  exact ⟨xs, t, rfl, rfl, ht, hw⟩
theorem jp_var {i : Nat} {d : D} (h : ∀ t, (V t)[i]? = some (some (.im d))) : JP B (eVar i) (fun o => o = .val d) V := fun t _ => ⟨.val d, by unfold eVar; rw [h t], rfl⟩
theorem jp_val {d : D} : JP B (ret (.val d)) (fun o => o = Opd.val d) V := jp_ret rfl
end
/-! ### operations -/
section
variable {B : Ab → Prop} {XE : PEnv → Prop} {α β γ δ σ τ ρ : Type} {V V' V1 V2 : Ab → PEnv} {f fa fb fc : PM Opd} {e1 : α → D} {e2 : β → D} {wa : WP α} {wb : WP β}
theorem jl {o : Opd} {oo : Option Opd} {K : γ → Opd → Prop} {w : WP γ} (h : ∀ Q E, w Q E → ∃ o r, oo = some o ∧ K r o ∧ Q r) : J B XE (lift oo) K w V V := by
  intro t Q E ht hw
  obtain ⟨o, r, rfl, k, q⟩ := h Q E hw
  exact ⟨r, t, k, rfl, ht, q⟩
theorem jlP {oo : Option Opd} {K : Opd → Prop} (h : ∃ o, oo = some o ∧ K o) : JP B (lift oo) K V := by
  obtain ⟨o, rfl, k⟩ := h
  exact fun t _ => ⟨o, rfl, k⟩
theorem jrsv {d : D} {o : Opd} (h : kO V d o) : JP B (rsv o) (kEq d) V := fun t _ => ⟨d, h t, rfl⟩
def OpW (g : D → D → Option Opd) (e1 : α → D) (e2 : β → D) (K : γ → Opd → Prop) (w : α → β → WP γ) : Prop := ∀ a b Q E, w a b Q E → ∃ o r, g (e1 a) (e2 b) = some o ∧ K r o ∧ Q r
def OpP (g : D → D → Option Opd) (d1 d2 : D) (K : Opd → Prop) : Prop := ∃ o, g d1 d2 = some o ∧ K o
def UnW (g : D → Option Opd) (e1 : α → D) (K : γ → Opd → Prop) (w : α → WP γ) : Prop := ∀ a Q E, w a Q E → ∃ o r, g (e1 a) = some o ∧ K r o ∧ Q r
theorem j_bin {g : D → D → Option Opd} {K : γ → Opd → Prop} {w : α → β → WP γ} (hg : OpW g e1 e2 K w) (ha : JO B XE fa e1 wa V) (hb : JO B XE fb e2 wb V) : J B XE (eBin g fa fb) K (wbind wa fun a => wbind wb fun b => w a b) V V :=
  jbnd ha fun a x kx => jbnd hb fun b y ky => jpbnd (jrsv kx) fun dx ex => jpbnd (jrsv ky) fun dy ey => by
    subst ex; subst ey
    exact jl (o := Opd.val PyData.none) (hg a b)
theorem j_binP {g : D → D → Option Opd} {K : γ → Opd → Prop} {w : α → β → WP γ} {a : α} {b : β} (hg : OpW g e1 e2 K w) (ha : JOP B fa (e1 a) V) (hb : JOP B fb (e2 b) V) : J B XE (eBin g fa fb) K (w a b) V V :=
  jpbnd ha fun x kx => jpbnd hb fun y ky => jpbnd (jrsv kx) fun dx ex => jpbnd (jrsv ky) fun dy ey => by
    subst ex; subst ey
    exact jl (o := Opd.val PyData.none) (hg a b)
theorem jp_bin {g : D → D → Option Opd} {K : Opd → Prop} {da db : D} (hg : OpP g da db K) (ha : JOP B fa da V) (hb : JOP B fb db V) : JP B (eBin g fa fb) K V :=
  jpbndP ha fun x kx => jpbndP hb fun y ky => jpbndP (jrsv kx) fun dx ex => jpbndP (jrsv ky) fun dy ey => by
    subst ex; subst ey
    exact jlP hg
theorem j_un {g : D → Option Opd} {K : γ → Opd → Prop} {w : α → WP γ} (hg : UnW g e1 K w) (ha : JO B XE fa e1 wa V) : J B XE (eUn g fa) K (wbind wa w) V V :=
  jbnd ha fun a x kx => jpbnd (jrsv kx) fun dx ex => by
    subst ex
    exact jl (o := Opd.val PyData.none) (hg a)
theorem jp_un {g : D → Option Opd} {K : Opd → Prop} {da : D} (hg : ∃ o, g da = some o ∧ K o) (ha : JOP B fa da V) : JP B (eUn g fa) K V :=
  jpbndP ha fun x kx => jpbndP (jrsv kx) fun dx ex => by
    subst ex
    exact jlP hg
/-! built-ins of one and two values -/
abbrev a1 (f : PM Opd) : PM (List Opd) := bnd (opn f) fun o => bnd (ret []) fun os => ret (o :: os)
abbrev a2 (f g : PM Opd) : PM (List Opd) := bnd (opn f) fun o => bnd (a1 g) fun os => ret (o :: os)
def kOs (V : Ab → PEnv) (ds : List D) (os : List Opd) : Prop := ∀ t, rsvs os (V t) = .ok ds (V t)
theorem kos1 {d : D} {o : Opd} (h : kO V d o) : kOs V [d] [o] := fun t => by
  show bnd (rsv o) _ (V t) = _
  unfold bnd
  rw [h t]
  rfl
theorem kos2 {d d' : D} {o o' : Opd} (h : kO V d o) (h' : kO V d' o') : kOs V [d, d'] [o, o'] := fun t => by
  show bnd (rsv o) _ (V t) = _
  unfold bnd
  rw [h t]
  show bnd (rsvs [o']) _ (V t) = _
  unfold bnd
  rw [kos1 h' t]
  rfl
theorem j_biOs {g : List D → Option Opd} {K : γ → Opd → Prop} {os : List Opd} {ds : List D} {w : WP γ} (h : kOs V ds os) (hg : ∀ Q E, w Q E → ∃ o r, g ds = some o ∧ K r o ∧ Q r) : J B XE (bnd (rsvs os) fun ds => lift (g ds)) K w V V :=
  jpbnd (K := kEq ds) (fun t _ => ⟨ds, h t, rfl⟩) fun dx ex => by
    subst ex
    exact jl (o := Opd.val PyData.none) hg
theorem jp_biOs {g : List D → Option Opd} {K : Opd → Prop} {os : List Opd} {ds : List D} (h : kOs V ds os) (hg : ∃ o, g ds = some o ∧ K o) : JP B (bnd (rsvs os) fun ds => lift (g ds)) K V :=
  jpbndP (K := kEq ds) (fun t _ => ⟨ds, h t, rfl⟩) fun dx ex => by
    subst ex
    exact jlP hg
theorem j_bi1 {g : List D → Option Opd} {K : γ → Opd → Prop} {w : α → WP γ} (hg : UnW (fun d => g [d]) e1 K w) (ha : JO B XE fa e1 wa V) : J B XE (eBi g (a1 fa)) K (wbind wa w) V V :=
  jbnd (jbnd ha (K2 := fun a os => kOs V [e1 a] os) (w2 := fun a => wpure a) fun a x kx => jup (jpbndP (jp_ret (K := fun os => os = []) rfl) fun os eo => jp_ret (by subst eo; exact kos1 kx))) fun a os ko => j_biOs ko (hg a)
theorem jp_bi1 {g : List D → Option Opd} {K : Opd → Prop} {da : D} (hg : ∃ o, g [da] = some o ∧ K o) (ha : JOP B fa da V) : JP B (eBi g (a1 fa)) K V :=
  jpbndP (jpbndP ha (K2 := fun os => kOs V [da] os) fun x kx => jpbndP (jp_ret (K := fun os => os = []) rfl) fun os eo => jp_ret (by subst eo; exact kos1 kx)) fun os ko => jp_biOs ko hg
theorem j_bi1P {g : List D → Option Opd} {K : γ → Opd → Prop} {w : α → WP γ} {a : α} (hg : UnW (fun d => g [d]) e1 K w) (ha : JOP B fa (e1 a) V) : J B XE (eBi g (a1 fa)) K (w a) V V :=
  jpbnd (jpbndP ha (K2 := fun os => kOs V [e1 a] os) fun x kx => jpbndP (jp_ret (K := fun os => os = []) rfl) fun os eo => jp_ret (by subst eo; exact kos1 kx)) fun os ko => j_biOs ko (hg a)
theorem jp_bi2 {g : List D → Option Opd} {K : Opd → Prop} {da db : D} (hg : ∃ o, g [da, db] = some o ∧ K o) (ha : JOP B fa da V) (hb : JOP B fb db V) : JP B (eBi g (a2 fa fb)) K V :=
  jpbndP (jpbndP ha (K2 := fun os => kOs V [da, db] os) fun x kx => jpbndP (jpbndP hb (K2 := fun os => ∃ o, os = [o] ∧ kO V db o) fun y ky => jpbndP (jp_ret (K := fun os => os = []) rfl) fun os eo => jp_ret ⟨y, by rw [eo], ky⟩) fun os ⟨o, eo, ko⟩ => jp_ret (by subst eo; exact kos2 kx ko)) fun os ko => jp_biOs ko hg
theorem j_bi2 {g : List D → Option Opd} {K : γ → Opd → Prop} {w : α → β → WP γ} (hg : OpW (fun d d' => g [d, d']) e1 e2 K w) (ha : JO B XE fa e1 wa V) (hb : JO B XE fb e2 wb V) : J B XE (eBi g (a2 fa fb)) K (wbind wa fun a => wbind wb fun b => w a b) V V := by
  have h : J B XE (a2 fa fb) (fun p os => kOs V [e1 p.1, e2 p.2] os) (wbind wa fun a => wbind wb fun b => wpure (a, b)) V V :=
    jbnd ha fun a x kx => jbnd (jbnd hb (K2 := fun b os => ∃ o, os = [o] ∧ kO V (e2 b) o) (w2 := wpure) fun b y ky => jup (jpbndP (jp_ret (K := fun os => os = []) rfl) fun os eo => jp_ret ⟨y, by rw [eo], ky⟩)) fun b os ⟨o, eo, ko⟩ => jup (jp_ret (by subst eo; exact kos2 kx ko))
  exact jbnd h (w2 := fun p => w p.1 p.2) fun p os ko => j_biOs ko (hg p.1 p.2)
end
end Pu

namespace Pu
open PySem PySem.Spec PyProof.Rows L2
/-! ### types -/
abbrev eI : Int → D := PyData.int
abbrev eB : Bool → D := PyData.bool
abbrev eS : Str → D := PyData.str
abbrev eN : Unit → D := fun _ => PyData.none
abbrev eD : D → D := fun d => d
def eO {α : Type} (e : α → D) : Option α → D
  | none => .none
  | some a => e a
abbrev c1 {α : Type} (e : α → D) : α → List D := fun a => [e a]
abbrev cc {α β : Type} (e : α → D) (es : β → List D) : α × β → List D := fun p => e p.1 :: es p.2
def eTp {α : Type} (es : α → List D) : α → D := fun a => .tuple (es a)
abbrev eP {α β : Type} (e1 : α → D) (e2 : β → D) : α × β → D := eTp (cc e1 (c1 e2))
section
variable {B : Ab → Prop} {XE : PEnv → Prop} {α β γ δ σ τ ρ : Type} {V V' V1 V2 : Ab → PEnv} {f g fa fb fc : PM Opd} {c d : PM Bool} {e1 : α → D} {e2 : β → D} {wa : WP α} {wb : WP β} {w1 w2 : WP Bool} {b b' : Bool}
/-! tests -/
theorem jt_e (h : J B XE f (kV eB) w1 V V') : J B XE (eTest f) kEq w1 V V' := by
  intro t Q E ht hw
  have h1 := h t Q E ht hw
  unfold eTest bnd
  cases q : f (V t) with
  | ok a e =>
    rw [q] at h1
    obtain ⟨b, t1, rfl, rfl, k3, k4⟩ := h1
    exact ⟨b, t1, rfl, rfl, k3, k4⟩
  | exc x e => rw [q] at h1; exact h1
  | bad => rw [q] at h1; exact h1.elim
theorem jtp_e (h : JP B f (kV eB b) V) : JP B (eTest f) (kEq b) V := by
  intro t ht
  obtain ⟨a, e, rfl⟩ := h t ht
  refine ⟨b, ?_, rfl⟩
  unfold eTest bnd
  rw [e]
  rfl
theorem jtp_truth {dd : D} (h : JOP B f dd V) (ht : truth dd = some b) : JP B (eTruth f) (kEq b) V :=
  jpbndP h fun o ko => jpbndP (jrsv ko) fun x ex => by subst ex; rw [ht]; exact jp_ret rfl
theorem jt_truth {wt : α → WP Bool} (h : JO B XE f e1 wa V) (ht : ∀ a Q E, wt a Q E → ∃ b, truth (e1 a) = some b ∧ Q b) : J B XE (eTruth f) kEq (wbind wa wt) V V :=
  jbnd h fun a o ko => jpbnd (jrsv ko) fun x ex => by
    subst ex
    intro t Q E hb hw
    obtain ⟨b, e, q⟩ := ht a Q E hw
    rw [e]
    exact ⟨b, t, rfl, rfl, hb, q⟩
theorem jtp_not (h : JP B c (kEq b) V) : JP B (bNot c) (kEq (!b)) V := jpbndP h fun k ek => by subst ek; exact jp_ret rfl
theorem jt_not (h : J B XE c kEq w1 V V') : J B XE (bNot c) kEq (wbind w1 fun k => wpure (!k)) V V' := jbnd h fun a k ek => by subst ek; exact jup (jp_ret rfl)
theorem jtp_and (h : JP B c (kEq b) V) (h2 : JP B d (kEq b') V) : JP B (bAnd c d) (kEq (b && b')) V := jpbndP h fun k ek => by
  subst ek
  cases k with
  | true => exact h2
  | false => exact jp_ret rfl
theorem jtp_or (h : JP B c (kEq b) V) (h2 : JP B d (kEq b') V) : JP B (bOr c d) (kEq (b || b')) V := jpbndP h fun k ek => by
  subst ek
  cases k with
  | true => exact jp_ret rfl
  | false => exact h2
theorem jt_and (h : J B XE c kEq w1 V V) (h2 : J B XE d kEq w2 V V) : J B XE (bAnd c d) kEq (wbind w1 fun k => if k = true then w2 else wpure false) V V := jbnd h fun a k ek => by
  subst ek
  cases k with
  | true => exact h2
  | false => exact jup (jp_ret rfl)
theorem jt_or (h : J B XE c kEq w1 V V) (h2 : J B XE d kEq w2 V V) : J B XE (bOr c d) kEq (wbind w1 fun k => if k = true then wpure true else w2) V V := jbnd h fun a k ek => by
  subst ek
  cases k with
  | true => exact jup (jp_ret rfl)
  | false => exact h2
theorem jt_andP (h : JP B c (kEq b) V) (h2 : J B XE d kEq w2 V V) : J B XE (bAnd c d) kEq (if b = true then w2 else wpure false) V V := jpbnd h fun k ek => by
  subst ek
  cases k with
  | true => exact h2
  | false => exact jup (jp_ret rfl)
theorem jt_orP (h : JP B c (kEq b) V) (h2 : J B XE d kEq w2 V V) : J B XE (bOr c d) kEq (if b = true then wpure true else w2) V V := jpbnd h fun k ek => by
  subst ek
  cases k with
  | true => exact jup (jp_ret rfl)
  | false => exact h2
theorem jp_vnot (h : JP B f (kV eB b) V) : JP B (vNot f) (kV eB (!b)) V := jpbndP (jtp_e h) fun k ek => by subst ek; exact jp_ret rfl
theorem j_vnot (h : J B XE f (kV eB) w1 V V') : J B XE (vNot f) (kV eB) (wbind w1 fun k => wpure (!k)) V V' := jbnd (jt_e h) fun a k ek => by subst ek; exact jup (jp_ret rfl)
theorem jp_vand (h : JP B f (kV eB b) V) (h2 : JP B g (kV eB b') V) : JP B (vAnd f g) (kV eB (b && b')) V := jpbndP (jtp_e h) fun k ek => by
  subst ek
  cases k with
  | true => exact h2
  | false => exact jp_ret rfl
theorem jp_vor (h : JP B f (kV eB b) V) (h2 : JP B g (kV eB b') V) : JP B (vOr f g) (kV eB (b || b')) V := jpbndP (jtp_e h) fun k ek => by
  subst ek
  cases k with
  | true => exact jp_ret rfl
  | false => exact h2
theorem j_vand (h : J B XE f (kV eB) w1 V V) (h2 : J B XE g (kV eB) w2 V V) : J B XE (vAnd f g) (kV eB) (wbind w1 fun k => if k = true then w2 else wpure false) V V := jbnd (jt_e h) fun a k ek => by
  subst ek
  cases k with
  | true => exact h2
  | false => exact jup (jp_ret rfl)
theorem j_vor (h : J B XE f (kV eB) w1 V V) (h2 : J B XE g (kV eB) w2 V V) : J B XE (vOr f g) (kV eB) (wbind w1 fun k => if k = true then wpure true else w2) V V := jbnd (jt_e h) fun a k ek => by
  subst ek
  cases k with
  | true => exact jup (jp_ret rfl)
  | false => exact h2
theorem j_vandP (h : JP B f (kV eB b) V) (h2 : J B XE g (kV eB) w2 V V) : J B XE (vAnd f g) (kV eB) (if b = true then w2 else wpure false) V V := jpbnd (jtp_e h) fun k ek => by
  subst ek
  cases k with
  | true => exact h2
  | false => exact jup (jp_ret rfl)
theorem j_vorP (h : JP B f (kV eB b) V) (h2 : J B XE g (kV eB) w2 V V) : J B XE (vOr f g) (kV eB) (if b = true then wpure true else w2) V V := jpbnd (jtp_e h) fun k ek => by
  subst ek
  cases k with
  | true => exact jup (jp_ret rfl)
  | false => exact h2
/-! one of two -/
theorem jp_if {K : γ → Opd → Prop} {x y : γ} (h : JP B c (kEq b) V) (h1 : JP B f (K x) V) (h2 : JP B g (K y) V) : JP B (eIf c f g) (K (if b = true then x else y)) V := jpbndP h fun k ek => by
  subst ek
  cases k with
  | true => exact h1
  | false => exact h2
theorem j_ifP {K : γ → Opd → Prop} {u v : WP γ} (h : JP B c (kEq b) V) (h1 : J B XE f K u V V') (h2 : J B XE g K v V V') : J B XE (eIf c f g) K (if b = true then u else v) V V' := jpbnd h fun k ek => by
  subst ek
  cases k with
  | true => exact h1
  | false => exact h2
theorem j_if {K : γ → Opd → Prop} {u v : WP γ} (h : J B XE c kEq w1 V V) (h1 : J B XE f K u V V') (h2 : J B XE g K v V V') : J B XE (eIf c f g) K (wbind w1 fun k => if k = true then u else v) V V' := jbnd h fun a k ek => by
  subst ek
  cases k with
  | true => exact h1
  | false => exact h2
/-! items that are kept -/
variable {fs : PM (List D)} {es : β → List D} {wg : WP β}
abbrev kcons (f : PM Opd) (fs : PM (List D)) : PM (List D) := bnd (kept f) fun d => bnd fs fun ds => ret (d :: ds)
theorem jks_nil : JP B (ret ([] : List D)) (kEq []) V := jp_ret rfl
theorem jks_consP {x : D} {ds : List D} (h : JKP B f x V) (h2 : JP B fs (kEq ds) V) : JP B (kcons f fs) (kEq (x :: ds)) V := jpbndP h fun a ea => jpbndP h2 fun q eq => jp_ret (by subst ea; subst eq; rfl)
theorem jks_one (h : JK B XE f e1 wa V V1) : J B XE (kcons f (ret [])) (kDs (c1 e1)) wa V V1 := by
  have h1 : J B XE (kcons f (ret [])) (kDs (c1 e1)) (wbind wa fun a => wpure a) V V1 := jbnd h fun a x ex => jpbnd (K := kEq []) (jp_ret rfl) fun q eq => jup (jp_ret (by subst ex; subst eq; rfl))
  exact h1
theorem jks_cons (h : JK B XE f e1 wa V V1) (h2 : J B XE fs (kDs es) wg V1 V2) : J B XE (kcons f fs) (kDs (cc e1 es)) (wbind wa fun a => wbind wg fun b => wpure (a, b)) V V2 :=
  jbnd h fun a x ex => jbnd h2 fun b q eq => jup (jp_ret (by subst ex; subst eq; rfl))
/-- kept values known as such -/
theorem jks_up {ds : β → List D} {x : β} (h : JP B fs (kEq (ds x)) V) : J B XE fs (kDs ds) (wpure x) V V := jup (jpmono h fun a ea => ea)
theorem jp_tup {ds : List D} (h : JP B fs (kEq ds) V) : JP B (eTup fs) (fun o => o = Opd.val (.tuple ds)) V := jpbndP h fun a ea => jp_ret (by subst ea; rfl)
theorem j_tup (h : J B XE fs (kDs es) wg V V') : J B XE (eTup fs) (kV (eTp es)) wg V V' := by
  have h1 : J B XE (eTup fs) (kV (eTp es)) (wbind wg fun b => wpure b) V V' := jbnd h fun b q eq => jup (jp_ret (by subst eq; rfl))
  exact h1
theorem jp_lst {xs : List α} (h : JP B fs (kEq (xs.map e1)) V) : JP B (eLst fs) (kT e1 xs) V := jpbndP h fun a ea => jp_ret (by subst ea; rfl)
theorem j_lst {φ : β → List α} (h : J B XE fs (kDs es) wg V V') (hφ : ∀ b, es b = (φ b).map e1) : J B XE (eLst fs) (kT e1) (wbind wg fun b => wpure (φ b)) V V' := jbnd h fun b q eq => jup (jp_ret (by subst eq; rw [hφ]))
/-- the same data, told otherwise -/
theorem j_co {φ : α → γ} {e3 : γ → D} (hφ : ∀ a, e1 a = e3 (φ a)) (h : J B XE f (kV e1) wa V V') : J B XE f (kV e3) (wbind wa fun a => wpure (φ a)) V V' := by
  intro t Q E ht hw
  have h1 := h t _ E ht hw
  cases q : f (V t) with
  | ok a e =>
    rw [q] at h1
    obtain ⟨b, t1, k1, k2, k3, k4⟩ := h1
    exact ⟨φ b, t1, by rw [k1, hφ], k2, k3, k4⟩
  | exc x e => rw [q] at h1; exact h1
  | bad => rw [q] at h1; exact h1.elim
theorem jk_co {φ : α → γ} {e3 : γ → D} (hφ : ∀ a, e1 a = e3 (φ a)) (h : JK B XE f e1 wa V V') : JK B XE f e3 (wbind wa fun a => wpure (φ a)) V V' := by
  intro t Q E ht hw
  have h1 := h t _ E ht hw
  cases q : kept f (V t) with
  | ok a e =>
    rw [q] at h1
    obtain ⟨b, t1, k1, k2, k3, k4⟩ := h1
    exact ⟨φ b, t1, by show a = e3 (φ b); rw [← hφ]; exact k1, k2, k3, k4⟩
  | exc x e => rw [q] at h1; exact h1
  | bad => rw [q] at h1; exact h1.elim
/-- data that is of a type -/
theorem j_dn {e3 : γ → D} (h : J B XE f (kV e1) wa V V') : J B XE f (kV e3) (wbind wa fun a => wfind fun g => e1 a = e3 g) V V' := jdown h fun a o g k p => by show o = _; rw [k, p]
theorem j_dnP {e3 : γ → D} {x : D} (h : JP B f (fun o => o = Opd.val x) V) : J B XE f (kV e3) (wfind fun g => x = e3 g) V V := jpdown (K := fun x o => o = Opd.val x) h fun o g k p => by show o = _; rw [k, p]
/-! slices -/
theorem jp_none : JP B (ret (none : Option Int)) (kEq none) V := jp_ret rfl
theorem jp_part {i : Int} (h : JP B f (kV eI i) V) : JP B (bnd f toPart) (kEq (some i)) V := jpbndP h fun o eo => by subst eo; exact jp_ret rfl
theorem j_part {wi : WP Int} (h : J B XE f (kV eI) wi V V') : J B XE (bnd f toPart) (fun i => kEq (some i)) wi V V' := by
  have h1 : J B XE (bnd f toPart) (fun i => kEq (some i)) (wbind wi fun i => wpure i) V V' := jbnd h fun i o eo => by subst eo; exact jup (jp_ret rfl)
  exact h1
theorem jp_sl {g : D → Option Int → Option Int → Option Opd} {lo hi : PM (Option Int)} {l h : Option Int} {x : D} {K : Opd → Prop} (hg : ∃ o, g x l h = some o ∧ K o) (hf : JOP B f x V) (hl : JP B lo (kEq l) V) (hh : JP B hi (kEq h) V) : JP B (eSl g f lo hi) K V :=
  jpbndP hf fun o ko => jpbndP hl fun l' el => jpbndP hh fun h' eh => jpbndP (jrsv ko) fun y ey => by
    subst el; subst eh; subst ey
    exact jlP hg
theorem j_sl {g : D → Option Int → Option Int → Option Opd} {lo hi : PM (Option Int)} {κl : β → Option Int} {K : γ → Opd → Prop} {w : α → β → δ → WP γ} {wl : WP β} {wh : WP δ} {κh : δ → Option Int} (hg : ∀ a b d Q E, w a b d Q E → ∃ o r, g (e1 a) (κl b) (κh d) = some o ∧ K r o ∧ Q r) (hf : JO B XE f e1 wa V) (hl : J B XE lo (fun b => kEq (κl b)) wl V V) (hh : J B XE hi (fun d => kEq (κh d)) wh V V) :
    J B XE (eSl g f lo hi) K (wbind wa fun a => wbind wl fun b => wbind wh fun d => w a b d) V V :=
  jbnd hf fun a o ko => jbnd hl fun b l' el => jbnd hh fun d h' eh => jpbnd (jrsv ko) fun y ey => by
    subst el; subst eh; subst ey
    exact jl (o := Opd.val PyData.none) (hg a b d)
/-! a op b op c -/
theorem jp_chain {g g' : D → D → Option Opd} {da db dc : D} (h1 : OpP g da db (kV eB b)) (h2 : OpP g' db dc (kV eB b')) (ha : JOP B fa da V) (hb : JOP B fb db V) (hc : JOP B fc dc V) : JP B (eChain g g' fa fb fc) (kV eB (b && b')) V :=
  jpbndP ha fun x kx => jpbndP hb fun y ky => jpbndP (jrsv kx) fun dx ex => jpbndP (jrsv ky) fun dy ey => by
    subst ex; subst ey
    refine jpbndP (jlP h1) fun o eo => ?_
    subst eo
    refine jpbndP (jp_ret (K := kEq b) rfl) fun k ek => ?_
    subst ek
    cases k with
    | false => exact jp_ret rfl
    | true =>
      refine jpbndP hc fun z kz => jpbndP (jrsv ky) fun dy ey => jpbndP (jrsv kz) fun dz ez => ?_
      subst ey
      subst ez
      exact jlP h2
theorem j_chain {g g' : D → D → Option Opd} {e3 : γ → D} {wc : WP γ} {r : α → β → Bool} {r' : β → γ → Bool} (h1 : ∀ a b, OpP g (e1 a) (e2 b) (kV eB (r a b))) (h2 : ∀ b c, OpP g' (e2 b) (e3 c) (kV eB (r' b c))) (ha : JO B XE fa e1 wa V) (hb : JO B XE fb e2 wb V) (hc : JO B XE fc e3 wc V) :
    J B XE (eChain g g' fa fb fc) (kV eB) (wbind wa fun a => wbind wb fun b => if r a b = true then wbind wc fun c => wpure (r' b c) else wpure false) V V :=
  jbnd ha fun a x kx => jbnd hb fun b y ky => jpbnd (jrsv kx) fun dx ex => jpbnd (jrsv ky) fun dy ey => by
    subst ex; subst ey
    refine jpbnd (jlP (h1 a b)) fun o eo => ?_
    subst eo
    refine jpbnd (jp_ret (K := kEq (r a b)) rfl) fun k ek => ?_
    subst ek
    cases hr : r a b with
    | false => exact jup (jp_ret rfl)
    | true =>
      rw [if_pos rfl]
      refine jbnd (w2 := fun c => wpure (r' b c)) hc fun c z kz => jpbnd (jrsv ky) fun dy ey => jpbnd (jrsv kz) fun dz ez => ?_
      subst ey
      subst ez
      exact jup (jlP (h2 b c))
/-! calls -/
def TR (r : FR) (K : γ → Opd → Prop) (Q : γ → Prop) (E : EP) : Prop := match r with
  | .ok o => ∃ b, K b o ∧ Q b
  | .exc x => E x
  | .bad => False
def TRB (B : Ab → Prop) (r : FR × Ab) (K : γ → Opd → Prop) (Q : γ → Prop) (E : EP) : Prop := match r with
  | (.ok o, t) => ∃ b, K b o ∧ B t ∧ Q b
  | (.exc x, t) => E x ∧ B t
  | (.bad, _) => False
abbrev XOk (B : Ab → Prop) (XE : PEnv → Prop) (V : Ab → PEnv) : Prop := ∀ t, B t → XE (V t)
theorem xok_t : XOk B (fun _ => True) V := fun _ _ => trivial
theorem j_fr {r : FR} {K : γ → Opd → Prop} {w : WP γ} (hx : XOk B XE V) (h : ∀ Q E, w Q E → TR r K Q E) : J B XE (frOf r) K w V V := by
  intro t Q E ht hw
  have h1 := h Q E hw
  cases r with
  | ok o =>
    obtain ⟨b, k, q⟩ := h1
    exact ⟨b, t, k, rfl, ht, q⟩
  | exc x => exact ⟨h1, hx t ht⟩
  | bad => exact h1.elim
theorem jc_AP {F : List D → FR} {ds : List D} {K : γ → Opd → Prop} {w : WP γ} (hx : XOk B XE V) (hF : ∀ Q E, w Q E → TR (F ds) K Q E) (h : JP B fs (kEq ds) V) : J B XE (eCallA F fs) K w V V := jpbnd h fun q eq => by subst eq; exact j_fr hx hF
theorem jc_A {F : List D → FR} {K : γ → Opd → Prop} {w : β → WP γ} (hx : XOk B XE V') (hF : ∀ b Q E, w b Q E → TR (F (es b)) K Q E) (h : J B XE fs (kDs es) wg V V') : J B XE (eCallA F fs) K (wbind wg w) V V' := jbnd h fun b q eq => by subst eq; exact j_fr hx (hF b)
theorem jc_KP {F : List D → FR} {is : List Nat} {ds : List D} {K : γ → Opd → Prop} {w : WP γ} (hx : XOk B XE V) (h : JP B fs (kEq ds) V) (hF : ∀ Q E, w Q E → TR (F (permV is ds)) K Q E) : J B XE (eCallK is F fs) K w V V := jpbnd h fun q eq => by subst eq; exact j_fr hx hF
theorem jc_K {F : List D → FR} {is : List Nat} {K : γ → Opd → Prop} {w : β → WP γ} (hx : XOk B XE V') (h : J B XE fs (kDs es) wg V V') (hF : ∀ b Q E, w b Q E → TR (F (permV is (es b))) K Q E) : J B XE (eCallK is F fs) K (wbind wg w) V V' := jbnd h fun b q eq => by subst eq; exact j_fr hx (hF b)
theorem ab_e {i : Nat} {k : Ab → PM γ} {t : Ab} {e : PEnv} (h : e[i]? = some (some (.ab t))) : bnd (abAtE i) k e = k t e := by
  unfold bnd abAtE
  rw [h]
theorem j_frB {i : Nat} {F : Ab → List D → FR × Ab} {ds : List D} {K : γ → Opd → Prop} {w : WP γ} (hx : XOk B XE V) (h1 : ∀ t, (V t)[i]? = some (some (.ab t))) (h2 : ∀ t t', (V t).set i (some (.ab t')) = V t') (hF : ∀ t Q E, B t → w Q E → TRB B (F t ds) K Q E) : J B XE (bnd (abAtE i) fun t => frB i (F t ds)) K w V V := by
  intro t Q E ht hw
  have hf := hF t Q E ht hw
  rw [ab_e (h1 t)]
  revert hf
  generalize F t ds = r
  intro hf
  obtain ⟨r, t'⟩ := r
  cases r with
  | ok o =>
    obtain ⟨b, k, hb, hq⟩ := hf
    have e : frB i (.ok o, t') (V t) = .ok o (V t') := by
      show bnd (putS i (.ab t')) (fun _ => ret o) (V t) = _
      unfold bnd putS
      rw [h2 t t']
      rfl
    rw [e]
    exact ⟨b, t', k, rfl, hb, hq⟩
  | exc x =>
    have e : frB i (.exc x, t') (V t) = .exc x (V t') := by
      show bnd (putS i (.ab t')) (fun _ env => .exc x env) (V t) = _
      unfold bnd putS
      rw [h2 t t']
    rw [e]
    exact ⟨hf.1, hx t' hf.2⟩
  | bad => exact hf.elim
theorem j_ab0 {i : Nat} {k : PM γ} {K : δ → γ → Prop} {w : WP δ} (h1 : ∀ t, (V t)[i]? = some (some (.ab t))) (h : J B XE k K w V V') : J B XE (bnd (abAtE i) fun _ => k) K w V V' := by
  intro t Q E ht hw
  have := h t Q E ht hw
  rw [ab_e (h1 t)]
  exact this
theorem jc_BP {i : Nat} {F : Ab → List D → FR × Ab} {ds : List D} {K : γ → Opd → Prop} {w : WP γ} (hx : XOk B XE V) (h1 : ∀ t, (V t)[i]? = some (some (.ab t))) (h2 : ∀ t t', (V t).set i (some (.ab t')) = V t') (hF : ∀ t Q E, B t → w Q E → TRB B (F t ds) K Q E) (h : JP B fs (kEq ds) V) : J B XE (eCallB i F fs) K w V V :=
  j_ab0 h1 (jpbnd h fun q eq => by subst eq; exact j_frB hx h1 h2 hF)
theorem jc_B {i : Nat} {F : Ab → List D → FR × Ab} {K : γ → Opd → Prop} {w : β → WP γ} (hx : XOk B XE V') (h0 : ∀ t, (V t)[i]? = some (some (.ab t))) (h1 : ∀ t, (V' t)[i]? = some (some (.ab t))) (h2 : ∀ t t', (V' t).set i (some (.ab t')) = V' t') (hF : ∀ b t Q E, B t → w b Q E → TRB B (F t (es b)) K Q E) (h : J B XE fs (kDs es) wg V V') : J B XE (eCallB i F fs) K (wbind wg w) V V' :=
  j_ab0 h0 (jbnd h fun b q eq => by subst eq; exact j_frB hx h1 h2 (hF b))
/-! items that are gone through -/
abbrev kI (e : α → D) (xs : List α) (ds : List D) : Prop := ds = xs.map e
theorem ji_l {wl : WP (List α)} (h : JK B XE f (eL e1) wl V V') : J B XE (eIter f) (kI e1) wl V V' := by
  have h1 : J B XE (eIter f) (kI e1) (wbind wl fun b => wpure b) V V' := jbnd h fun b q eq => by
    have eq : q = eL e1 b := eq
    subst eq
    exact jup (jp_ret rfl)
  exact h1
theorem ji_t {wl : WP (List α)} (h : JK B XE f (eT e1) wl V V') : J B XE (eIter f) (kI e1) wl V V' := by
  have h1 : J B XE (eIter f) (kI e1) (wbind wl fun b => wpure b) V V' := jbnd h fun b q eq => by
    have eq : q = eT e1 b := eq
    subst eq
    exact jup (jp_ret rfl)
  exact h1
theorem jip_l {xs : List α} (h : JKP B f (eL e1 xs) V) : JP B (eIter f) (kI e1 xs) V := jpbndP h fun q eq => by
  subst eq
  exact jp_ret rfl
theorem jip_t {xs : List α} (h : JKP B f (eT e1 xs) V) : JP B (eIter f) (kI e1 xs) V := jpbndP h fun q eq => by
  subst eq
  exact jp_ret rfl
def enumL (xs : List α) : List (Int × α) := xs.zipIdx.map fun p => ((p.2 : Nat), p.1)
theorem enumD_map (xs : List α) : enumD (xs.map e1) = (enumL xs).map (eP eI e1) := by
  unfold enumD enumL
  rw [List.zipIdx_map, List.map_map, List.map_map]
  rfl
theorem jip_enum {xs : List α} (h : JP B (eIter f) (kI e1 xs) V) : JP B (eEnum f) (kI (eP eI e1) (enumL xs)) V := jpbndP h fun q eq => by
  have eq : q = xs.map e1 := eq
  subst eq
  exact jp_ret (enumD_map xs)
theorem ji_enum {wl : WP (List α)} (h : J B XE (eIter f) (kI e1) wl V V') : J B XE (eEnum f) (kI (eP eI e1)) (wbind wl fun xs => wpure (enumL xs)) V V' := jbnd h fun xs q eq => by
  have eq : q = xs.map e1 := eq
  subst eq
  exact jup (jp_ret (enumD_map xs))
def rngL (lo : Int) (n : Nat) : List Int := (List.range n).map fun i => lo + (i : Nat)
theorem rangeD_map (lo : Int) (n : Nat) : rangeD lo n = (rngL lo n).map eI := by
  unfold rangeD rngL
  rw [List.map_map]
  rfl
abbrev inL (n : Int) : Prop := n.natAbs < 4611686018427387904
def wrng1 (n : Int) : WP (List Int) := fun Q _ => inL n ∧ Q (rngL 0 n.toNat)
def wrng2 (a b : Int) : WP (List Int) := fun Q _ => (inL a ∧ inL b) ∧ Q (rngL a (b - a).toNat)
theorem ji_rng1P {n : Int} (h : JP B fs (kEq [.int n]) V) : J B XE (eRng1 fs) (kI eI) (wrng1 n) V V := jpbnd h fun q eq => by
  subst eq
  rintro t Q E ht ⟨h1, h2⟩
  have h3 : inLine n = true := decide_eq_true h1
  have e : int1 [.int n] = some n := if_pos h3
  unfold bnd
  rw [e]
  exact ⟨_, t, rangeD_map _ _, rfl, ht, h2⟩
theorem ji_rng1 {wi : WP Int} (h : J B XE fs (kDs (c1 eI)) wi V V') : J B XE (eRng1 fs) (kI eI) (wbind wi wrng1) V V' := jbnd h fun n q eq => by
  have eq : q = [.int n] := eq
  subst eq
  rintro t Q E ht ⟨h1, h2⟩
  have h3 : inLine n = true := decide_eq_true h1
  have e : int1 [.int n] = some n := if_pos h3
  unfold bnd
  rw [e]
  exact ⟨_, t, rangeD_map _ _, rfl, ht, h2⟩
theorem ji_rng2P {a b : Int} (h : JP B fs (kEq [.int a, .int b]) V) : J B XE (eRng2 fs) (kI eI) (wrng2 a b) V V := jpbnd h fun q eq => by
  subst eq
  rintro t Q E ht ⟨h1, h2⟩
  have h3 : inLine a = true ∧ inLine b = true := ⟨decide_eq_true h1.1, decide_eq_true h1.2⟩
  have e : int2 [.int a, .int b] = some (a, b) := if_pos h3
  unfold bnd
  rw [e]
  exact ⟨_, t, rangeD_map _ _, rfl, ht, h2⟩
theorem ji_rng2 {wi : WP (Int × Int)} (h : J B XE fs (kDs (cc eI (c1 eI))) wi V V') : J B XE (eRng2 fs) (kI eI) (wbind wi fun p => wrng2 p.1 p.2) V V' := jbnd h fun p q eq => by
  have eq : q = [.int p.1, .int p.2] := eq
  subst eq
  rintro t Q E ht ⟨h1, h2⟩
  have h3 : inLine p.1 = true ∧ inLine p.2 = true := ⟨decide_eq_true h1.1, decide_eq_true h1.2⟩
  have e : int2 [.int p.1, .int p.2] = some (p.1, p.2) := if_pos h3
  unfold bnd
  rw [e]
  exact ⟨_, t, rangeD_map _ _, rfl, ht, h2⟩
/-! comprehensions -/
theorem goLc_ok {vs : List Nat} {s : D → PEnv → Option PEnv} {wt : α → WP Bool} {wf : α → WP β} {Vx : α → Ab → PEnv}
    (hs : ∀ x t, s (e1 x) (V t) = some (Vx x t)) (ht : ∀ x, J B XE c kEq (wt x) (Vx x) (Vx x)) (hf : ∀ x, J B XE (kept f) (kD' e2) (wf x) (Vx x) (Vx x)) (hw : ∀ x t, wipeE (Vx x t) vs = V t) :
    ∀ (xs : List α) (acc : List D) (t : Ab) (Q : List β → Prop), B t → acc.length + xs.length ≤ bigLine → wlcs wt wf xs Q → ∃ ys t', goLc vs s c f (xs.map e1) acc (V t) = .ok (acc ++ ys.map e2) (V t') ∧ B t' ∧ Q ys
  | [], acc, t, Q, hb, _, hq => ⟨[], t, by simp [goLc], hb, hq⟩
  | x :: xs, acc, t, Q, hb, hl, hq => by
    rw [List.length_cons] at hl
    have h1 := ht x t _ _ hb hq
    rw [List.map_cons]
    unfold goLc
    simp only [hs x t]
    cases q1 : c (Vx x t) with
    | ok k e =>
      rw [q1] at h1
      obtain ⟨k', t1, ek, rfl, hb1, q2⟩ := h1
      subst ek
      cases k with
      | false =>
        simp only [Bool.false_eq_true, if_false] at q2
        obtain ⟨ys, t', z1, z2, z3⟩ := goLc_ok hs ht hf hw xs acc t1 Q hb1 (by omega) q2
        refine ⟨ys, t', ?_, z2, z3⟩
        show goLc vs s c f (xs.map e1) acc (wipeE (Vx x t1) vs) = _
        rw [hw, z1]
      | true =>
        simp only [if_true] at q2
        have h2 := hf x t1 _ _ hb1 q2
        cases q3 : kept f (Vx x t1) with
        | ok d e =>
          rw [q3] at h2
          obtain ⟨y, t2, ed, rfl, hb2, q4⟩ := h2
          have ed : d = e2 y := ed
          subst ed
          have hlt : acc.length < bigLine := by omega
          obtain ⟨ys, t', z1, z2, z3⟩ := goLc_ok hs ht hf hw xs (acc ++ [e2 y]) t2 (fun ys => Q (y :: ys)) hb2 (by rw [List.length_append, List.length_singleton]; omega) q4
          refine ⟨y :: ys, t', ?_, z2, z3⟩
          simp only [q3, if_pos hlt, hw, z1, List.map_cons, List.append_assoc, List.singleton_append]
        | exc x e => rw [q3] at h2; exact h2.1.elim
        | bad => rw [q3] at h2; exact h2.elim
    | exc x e => rw [q1] at h1; exact h1.1.elim
    | bad => rw [q1] at h1; exact h1.elim
theorem j_lc {it : PM (List D)} {vs : List Nat} {s : D → PEnv → Option PEnv} {wi : WP (List α)} {wt : α → WP Bool} {wf : α → WP β} {Vx : α → Ab → PEnv} (hit : J B XE it (kI e1) wi V V1)
    (hs : ∀ x t, s (e1 x) (wipeE (V1 t) vs) = some (Vx x t)) (ht : ∀ x, J B XE c kEq (wt x) (Vx x) (Vx x)) (hf : ∀ x, J B XE (kept f) (kD' e2) (wf x) (Vx x) (Vx x)) (hw : ∀ x t, wipeE (Vx x t) vs = wipeE (V1 t) vs) (hr : ∀ t0 t, rst (V1 t0) (wipeE (V1 t) vs) vs = V1 t) :
    J B XE (eLc it vs s c f) (kT e2) (wbind wi fun xs => wlc wt wf xs) V V1 := jbnd hit fun xs q eq => by
  have eq : q = xs.map e1 := eq
  subst eq
  rintro t Q E hb ⟨hl, hq⟩
  obtain ⟨ys, t', z1, z2, z3⟩ := goLc_ok (V := fun t => wipeE (V1 t) vs) hs ht hf hw xs [] t Q hb (by rw [List.length_nil]; omega) hq
  simp only [z1, List.nil_append]
  exact ⟨ys, t', rfl, hr t t', z2, z3⟩
end
end Pu

namespace Pu
open PySem PySem.Spec PyProof.Rows L2
section
variable {B : Ab → Prop} {XE : PEnv → Prop} {α β γ δ σ τ ρ : Type} {V V1 : Ab → PEnv} {RK : ρ → Opd → PEnv → Prop} {g g1 g2 : PM Out} {f : PM Opd} {c : PM Bool} {b : Bool} {wc : WP Bool} {K : β → Opd → Prop} {w : WP β} {e1 : α → D} {e2 : β → D}
/-! ### statements -/
theorem js_seq {w1 : WP (Ctl σ ρ)} {w2 : σ → WP (Ctl τ ρ)} {V' : σ → Ab → PEnv} {V2 : τ → Ab → PEnv} (h1 : JS B XE RK g1 w1 V V') (h2 : ∀ s, JS B XE RK g2 (w2 s) (V' s) V2) : JS B XE RK (sSeq g1 g2) (wseq w1 w2) V V2 := by
  intro t Q E ht hw
  have h := h1 t _ E ht hw
  unfold sSeq bnd
  cases q : g1 (V t) with
  | ok o e =>
    rw [q] at h
    cases o with
    | next =>
      obtain ⟨s, t1, rfl, hb, hq⟩ := h
      exact h2 s t1 Q E hb hq
    | ret o => exact h
    | brk => exact h.elim
    | cont => exact h.elim
  | exc x e => rw [q] at h; exact h
  | bad => rw [q] at h; exact h.elim
theorem js_nil {V' : σ → Ab → PEnv} (s : σ) (h : ∀ t, V t = V' s t) : JS B XE RK (ret .next) (wpure (.nx s)) V V' := fun t Q E ht hw => ⟨s, t, h t, ht, hw⟩
/-- forget dead slots, then go on -/
theorem js_wipe {is : List Nat} {w1 : WP (Ctl τ ρ)} {V2 : τ → Ab → PEnv} (h : JS B XE RK g w1 (fun t => wipeE (V t) is) V2) : JS B XE RK (sSeq (sWipe is) g) w1 V V2 := fun t Q E ht hw => h t Q E ht hw
theorem js_frz {i : Nat} {xs : List α} {w1 : WP (Ctl τ ρ)} {V2 : τ → Ab → PEnv} (h0 : ∀ t, (V t)[i]? = some (some (.ls (xs.map e1)))) (h : JS B XE RK g w1 (fun t => (V t).set i (some (.im (eL e1 xs)))) V2) : JS B XE RK (sSeq (sFrz i) g) w1 V V2 := by
  intro t Q E ht hw
  have e : sSeq (sFrz i) g (V t) = g ((V t).set i (some (.im (eL e1 xs)))) := by
    unfold sSeq sFrz bnd
    simp only [h0 t, eL]
  rw [e]
  exact h t Q E ht hw
/-- a value in some slots -/
theorem js_asg {s : D → PEnv → Option PEnv} {V' : β → Ab → PEnv} (hs : ∀ a t, s (e2 a) (V1 t) = some (V' a t)) (h : JK B XE f e2 w V V1) : JS B XE RK (sAsg s f) (wbind w fun a => wpure (.nx a)) V V' := by
  intro t Q E ht hw
  have h1 := h t _ E ht hw
  unfold sAsg
  simp only [bnd]
  cases q : kept f (V t) with
  | ok d e =>
    rw [q] at h1
    obtain ⟨a, t1, k1, rfl, k3, k4⟩ := h1
    have k1 : d = e2 a := k1
    subst k1
    simp only [hs]
    exact ⟨a, t1, rfl, k3, k4⟩
  | exc x e => rw [q] at h1; exact h1
  | bad => rw [q] at h1; exact h1.elim
theorem js_asgP {s : D → PEnv → Option PEnv} {x : D} {V2 : Ab → PEnv} {τ : Type} {V' : Unit → Ab → PEnv} (hs : ∀ t, s x (V t) = some (V' () t)) (h : JKP B f x V) : JS B XE RK (sAsg s f) (wpure (.nx ())) V V' := by
  intro t Q E ht hw
  obtain ⟨a, q, k⟩ := h t ht
  have k : a = x := k
  subst k
  unfold sAsg
  simp only [bnd]
  rw [q]
  simp only [hs]
  exact ⟨(), t, rfl, ht, hw⟩
/-- a result in a slot, as it comes -/
theorem js_set {i : Nat} {V' : β → Ab → PEnv} (hs : ∀ a o t, K a o → asg i o (V1 t) = .ok () (V' a t)) (h : J B XE f K w V V1) : JS B XE RK (sSet i f) (wbind w fun a => wpure (.nx a)) V V' := by
  intro t Q E ht hw
  have h1 := h t _ E ht hw
  unfold sSet
  simp only [bnd]
  cases q : f (V t) with
  | ok d e =>
    rw [q] at h1
    obtain ⟨a, t1, k1, rfl, k3, k4⟩ := h1
    simp only [bnd, hs a d t1 k1]
    exact ⟨a, t1, rfl, k3, k4⟩
  | exc x e => rw [q] at h1; exact h1
  | bad => rw [q] at h1; exact h1.elim
theorem js_setT {i : Nat} {w : WP (List α)} {V' : List α → Ab → PEnv} (hs : ∀ a t, (V1 t).set i (some (.ls (a.map e1))) = V' a t) (h : J B XE f (kT e1) w V V1) : JS B XE RK (sSet i f) (wbind w fun a => wpure (.nx a)) V V' :=
  js_set (fun a o t k => by
    subst k
    rw [← hs]
    rfl) h
theorem js_expr (h : J B XE f K w V V1) : JS B XE RK (sExpr f) (wbind w fun _ => wpure (.nx ())) V (fun _ => V1) := by
  intro t Q E ht hw
  have h1 := h t _ E ht hw
  unfold sExpr bnd
  cases q : f (V t) with
  | ok d e =>
    rw [q] at h1
    obtain ⟨a, t1, k1, rfl, k3, k4⟩ := h1
    exact ⟨(), t1, rfl, k3, k4⟩
  | exc x e => rw [q] at h1; exact h1
  | bad => rw [q] at h1; exact h1.elim
/-- x.append(e) -/
theorem js_app {i : Nat} {xs : List β} {V' : List β → Ab → PEnv} (h0 : ∀ t, (V t)[i]? = some (some (.ls (xs.map e2)))) (h1 : ∀ t, (V1 t)[i]? = some (some (.ls (xs.map e2)))) (hs : ∀ (ys : List β) t, (V1 t).set i (some (.ls (ys.map e2))) = V' ys t) (h : JK B XE f e2 w V V1) :
    JS B XE RK (sExpr (eApp i f)) (wbind w fun a Q E => xs.length < bigLine ∧ Q (.nx (xs ++ [a]))) V V' := by
  intro t Q E ht hw
  have h2 := h t _ E ht hw
  unfold sExpr eApp
  have l0 : lsAt i (V t) = .ok (xs.map e2) (V t) := by unfold lsAt; rw [h0 t]
  simp only [bnd, l0]
  cases q : kept f (V t) with
  | ok d e =>
    rw [q] at h2
    obtain ⟨a, t1, k1, rfl, k3, k4, k5⟩ := h2
    have k1 : d = e2 a := k1
    subst k1
    have l1 : lsAt i (V1 t1) = .ok (xs.map e2) (V1 t1) := by unfold lsAt; rw [h1 t1]
    have hl : (xs.map e2).length < bigLine := by rw [List.length_map]; exact k4
    have hm : xs.map e2 ++ [e2 a] = (xs ++ [a]).map e2 := by simp
    simp only [l1, if_pos hl, putS, ret, hm]
    exact ⟨_, t1, hs _ _, k3, k5⟩
  | exc x e => rw [q] at h2; exact h2
  | bad => rw [q] at h2; exact h2.elim
/-- x.extend(e) -/
theorem js_ext {i : Nat} {xs : List α} {w : WP (List α)} {V' : List α → Ab → PEnv} (h0 : ∀ t, (V t)[i]? = some (some (.ls (xs.map e1)))) (h1 : ∀ t, (V1 t)[i]? = some (some (.ls (xs.map e1)))) (hs : ∀ (ys : List α) t, (V1 t).set i (some (.ls (ys.map e1))) = V' ys t) (h : JK B XE f (eL e1) w V V1) :
    JS B XE RK (sExpr (eExt i f)) (wbind w fun a Q E => xs.length + a.length < bigLine ∧ Q (.nx (xs ++ a))) V V' := by
  intro t Q E ht hw
  have h2 := h t _ E ht hw
  unfold sExpr eExt
  have l0 : lsAt i (V t) = .ok (xs.map e1) (V t) := by unfold lsAt; rw [h0 t]
  simp only [bnd, l0]
  cases q : kept f (V t) with
  | ok d e =>
    rw [q] at h2
    obtain ⟨a, t1, k1, rfl, k3, k4, k5⟩ := h2
    have k1 : d = .list (a.map e1) := k1
    subst k1
    have l1 : lsAt i (V1 t1) = .ok (xs.map e1) (V1 t1) := by unfold lsAt; rw [h1 t1]
    have hl : (xs.map e1).length + (a.map e1).length < bigLine := by rw [List.length_map, List.length_map]; exact k4
    have hm : xs.map e1 ++ a.map e1 = (xs ++ a).map e1 := by simp
    simp only [l1, if_pos hl, putS, ret, hm]
    exact ⟨_, t1, hs _ _, k3, k5⟩
  | exc x e => rw [q] at h2; exact h2
  | bad => rw [q] at h2; exact h2.elim
/-- y = x.pop() -/
theorem js_pop {i j : Nat} {xs : List α} {V' : α × List α → Ab → PEnv} (h0 : ∀ t, (V t)[i]? = some (some (.ls (xs.map e1)))) (hs : ∀ (p : α × List α) t, ((V t).set i (some (.ls (p.2.map e1)))).set j (some (.im (e1 p.1))) = V' p t) :
    JS B XE RK (sAsg (tgName j) (ePop i)) (fun Q E => ∃ y ys, xs = ys ++ [y] ∧ Q (.nx (y, ys))) V V' := by
  rintro t Q E ht ⟨y, ys, rfl, hq⟩
  have l0 : lsAt i (V t) = .ok ((ys ++ [y]).map e1) (V t) := by unfold lsAt; rw [h0 t]
  unfold sAsg ePop kept
  simp only [bnd, l0, List.map_append, List.map_cons, List.map_nil, List.getLast?_append, List.getLast?_singleton, Option.some_or, lift, ret, putS, List.dropLast_concat, frz, tgName]
  exact ⟨(y, ys), t, hs (y, ys) t, ht, hq⟩
/-- x[i] = e -/
theorem js_putAt {i : Nat} {xs : List β} {fi : PM Opd} {wi : WP Int} {V' : List β → Ab → PEnv} (h0 : ∀ t, (V t)[i]? = some (some (.ls (xs.map e2)))) (h1 : ∀ t, (V1 t)[i]? = some (some (.ls (xs.map e2)))) (hs : ∀ (ys : List β) t, (V1 t).set i (some (.ls (ys.map e2))) = V' ys t) (h : JK B XE f e2 w V V1) (hi : JO B XE fi eI wi V1) :
    JS B XE RK (sPutAt i f fi) (wbind w fun a => wbind wi fun z Q E => ∃ k, ixN xs.length z = some k ∧ Q (.nx (xs.set k a))) V V' := by
  intro t Q E ht hw
  have h2 := h t _ E ht hw
  unfold sPutAt
  simp only [bnd]
  cases q : kept f (V t) with
  | ok d e =>
    rw [q] at h2
    obtain ⟨a, t1, k1, rfl, k3, k4⟩ := h2
    have k1 : d = e2 a := k1
    subst k1
    have h3 := hi t1 _ E k3 k4
    have l1 : ∀ t1, lsAt i (V1 t1) = .ok (xs.map e2) (V1 t1) := fun t1 => by unfold lsAt; rw [h1 t1]
    simp only [l1]
    cases q2 : opn fi (V1 t1) with
    | ok o e =>
      rw [q2] at h3
      obtain ⟨z, t2, m1, rfl, m3, k, m4, m5⟩ := h3
      have m6 := m1 t2
      simp only [m6, l1, List.length_map, m4, putS, ret]
      exact ⟨xs.set k a, t2, by rw [← hs, List.map_set], m3, m5⟩
    | exc x e => rw [q2] at h3; exact h3
    | bad => rw [q2] at h3; exact h3.elim
  | exc x e => rw [q] at h2; exact h2
  | bad => rw [q] at h2; exact h2.elim
/-- a, b = values -/
theorem js_par {i j : Nat} {fs : PM (List D)} {wp : WP (α × β)} {V' : α × β → Ab → PEnv} (hs : ∀ (p : α × β) t, ((V1 t).set i (some (.im (e1 p.1)))).set j (some (.im (e2 p.2))) = V' p t) (h : J B XE fs (kDs (cc e1 (c1 e2))) wp V V1) : JS B XE RK (sPar i j fs) (wbind wp fun p => wpure (.nx p)) V V' := by
  intro t Q E ht hw
  have h2 := h t _ E ht hw
  unfold sPar
  simp only [bnd]
  cases q : fs (V t) with
  | ok d e =>
    rw [q] at h2
    obtain ⟨p, t1, k1, rfl, k3, k4⟩ := h2
    have k1 : d = [e1 p.1, e2 p.2] := k1
    subst k1
    simp only [bnd, putS, ret]
    exact ⟨p, t1, hs p t1, k3, k4⟩
  | exc x e => rw [q] at h2; exact h2
  | bad => rw [q] at h2; exact h2.elim
/-- a, b = results as they come -/
theorem js_par2 {i j : Nat} {f2 : PM Opd} {Ka : α → Opd → Prop} {Kb : β → Opd → Prop} {wa : WP α} {wb : WP β} {V2 : Ab → PEnv} {sa : α → SV} {sb : β → SV} {V' : α × β → Ab → PEnv} (ka : ∀ a o, Ka a o → slotOf o = some (sa a)) (kb : ∀ a o, Kb a o → slotOf o = some (sb a)) (hs : ∀ (p : α × β) t, ((V2 t).set i (some (sa p.1))).set j (some (sb p.2)) = V' p t) (h : J B XE f Ka wa V V1) (h2 : J B XE f2 Kb wb V1 V2) :
    JS B XE RK (sPar2 i j f f2) (wbind wa fun a => wbind wb fun b => wpure (.nx (a, b))) V V' := by
  intro t Q E ht hw
  have h3 := h t _ E ht hw
  unfold sPar2
  simp only [bnd]
  cases q : f (V t) with
  | ok o e =>
    rw [q] at h3
    obtain ⟨a, t1, k1, rfl, k3, k4⟩ := h3
    have h4 := h2 t1 _ E k3 k4
    simp only
    cases q2 : f2 (V1 t1) with
    | ok o2 e =>
      rw [q2] at h4
      obtain ⟨b, t2, m1, rfl, m3, m4⟩ := h4
      simp only [ka a o k1, kb b o2 m1, lift, ret, putS]
      exact ⟨(a, b), t2, hs (a, b) t2, m3, m4⟩
    | exc x e => rw [q2] at h4; exact h4
    | bad => rw [q2] at h4; exact h4.elim
  | exc x e => rw [q] at h3; exact h3
  | bad => rw [q] at h3; exact h3.elim
theorem slot_v {e : α → D} : ∀ a o, kV e a o → slotOf o = some (.im (e a)) := by rintro a _ rfl; rfl
theorem slot_t {e : α → D} : ∀ (a : List α) o, kT e a o → slotOf o = some (.ls (a.map e)) := by rintro a _ rfl; rfl
/-! one of two -/
theorem js_ifP {w1 w2 : WP (Ctl σ ρ)} {V' : σ → Ab → PEnv} (h : JP B c (kEq b) V) (h1 : JS B XE RK g1 w1 V V') (h2 : JS B XE RK g2 w2 V V') : JS B XE RK (sIf c g1 g2) (if b = true then w1 else w2) V V' := by
  intro t Q E ht hw
  obtain ⟨k, q, ek⟩ := h t ht
  have ek : k = b := ek
  subst ek
  unfold sIf bnd
  rw [q]
  cases k with
  | true => exact h1 t Q E ht hw
  | false => exact h2 t Q E ht hw
theorem js_if {w1 w2 : WP (Ctl σ ρ)} {V' : σ → Ab → PEnv} (h : J B XE c kEq wc V V) (h1 : JS B XE RK g1 w1 V V') (h2 : JS B XE RK g2 w2 V V') : JS B XE RK (sIf c g1 g2) (wbind wc fun k => if k = true then w1 else w2) V V' := by
  intro t Q E ht hw
  have h3 := h t _ E ht hw
  unfold sIf bnd
  cases q : c (V t) with
  | ok k e =>
    rw [q] at h3
    obtain ⟨k', t1, ek, rfl, k3, k4⟩ := h3
    subst ek
    cases k with
    | true => exact h1 t1 Q E k3 k4
    | false => exact h2 t1 Q E k3 k4
  | exc x e => rw [q] at h3; exact h3
  | bad => rw [q] at h3; exact h3.elim
/-- if c: (always left); then the rest -/
theorem js_ifrP {w1 w2 : WP (Ctl σ ρ)} {V' : σ → Ab → PEnv} (h : JP B c (kEq b) V) (h1 : JS B XE RK g1 w1 V V') (h2 : JS B XE RK g2 w2 V V') (hr : ∀ {τ : Type} {V2 : τ → Ab → PEnv}, ∃ w1' : WP (Ctl τ ρ), JS B XE RK g1 w1' V V2 ∧ ∀ Q E, w1 Q E → w1' (fun c => match c with | .nx _ => False | .rt r => Q (.rt r)) E) : JS B XE RK (sSeq (sIf c g1 (ret .next)) g2) (if b = true then w1 else w2) V V' := by
  intro t Q E ht hw
  obtain ⟨k, q, ek⟩ := h t ht
  have ek : k = b := ek
  subst ek
  have e0 : sSeq (sIf c g1 (ret .next)) g2 (V t) = sSeq (if k = true then g1 else ret .next) g2 (V t) := by
    unfold sSeq sIf bnd
    rw [q]
  rw [e0]
  cases k with
  | true =>
    obtain ⟨w1', h4, h5⟩ := hr (τ := Unit) (V2 := fun _ => V)
    have h6 := h4 t _ E ht (h5 Q E hw)
    rw [if_pos rfl]
    unfold sSeq bnd
    cases q1 : g1 (V t) with
    | ok o e =>
      rw [q1] at h6
      cases o with
      | next => obtain ⟨s, t1, _, _, z⟩ := h6; exact z.elim
      | ret o => exact h6
      | brk => exact h6.elim
      | cont => exact h6.elim
    | exc x e => rw [q1] at h6; exact h6
    | bad => rw [q1] at h6; exact h6.elim
  | false => exact h2 t Q E ht hw
/-! the way out -/
theorem js_ret {V' : σ → Ab → PEnv} {Kr : ρ → Opd → Prop} {w : WP ρ} (hk : ∀ r o t, Kr r o → B t → RK r o (V1 t)) (h : J B XE f Kr w V V1) : JS B XE RK (sRet f) (wbind w fun r => wpure (.rt r)) V V' := by
  intro t Q E ht hw
  have h1 := h t _ E ht hw
  unfold sRet bnd
  cases q : f (V t) with
  | ok d e =>
    rw [q] at h1
    obtain ⟨a, t1, k1, rfl, k3, k4⟩ := h1
    exact ⟨a, hk a d t1 k1 k3, k4⟩
  | exc x e => rw [q] at h1; exact h1
  | bad => rw [q] at h1; exact h1.elim
theorem js_retP {V' : σ → Ab → PEnv} {Kr : Opd → Prop} {r : ρ} (hk : ∀ o t, Kr o → B t → RK r o (V t)) (h : JP B f Kr V) : JS B XE RK (sRet f) (wpure (.rt r)) V V' := by
  intro t Q E ht hw
  obtain ⟨a, q, k⟩ := h t ht
  unfold sRet bnd
  rw [q]
  exact ⟨r, hk a t k ht, hw⟩
theorem js_retN {V' : σ → Ab → PEnv} {r : ρ} (hk : ∀ t, B t → RK r (.val .none) (V t)) : JS B XE RK (ret (.ret (.val .none))) (wpure (.rt r)) V V' := fun t Q E ht hw => ⟨r, hk t ht, hw⟩
/-- an owned list goes out -/
theorem js_retS {V' : σ → Ab → PEnv} {i : Nat} {r : ρ} {xs : List α} (h0 : ∀ t, (V t)[i]? = some (some (.ls (xs.map e1)))) (hk : ∀ t, B t → RK r (.slot i) (V t)) : JS B XE RK (sRet (eVar i)) (wpure (.rt r)) V V' := by
  intro t Q E ht hw
  unfold sRet bnd eVar
  rw [h0 t]
  exact ⟨r, hk t ht, hw⟩
def rkA (K : ρ → Opd → Prop) (r : ρ) (o : Opd) (e : PEnv) : Prop := ∃ o', finR [] o e = .ok o' ∧ K r o'
def rkB (B : Ab → Prop) (K : ρ → Opd → Prop) (r : ρ) (o : Opd) (e : PEnv) : Prop := ∃ o' t', finR [0] o e = .ok o' ∧ K r o' ∧ e[0]? = some (some (.ab t')) ∧ B t'
def xeB (B : Ab → Prop) (e : PEnv) : Prop := ∃ t, e[0]? = some (some (.ab t)) ∧ B t
theorem rkA_v {e : ρ → D} : ∀ r o t, kV e r o → B t → rkA (kV e) r o (V t) := by rintro r _ t rfl _; exact ⟨_, rfl, rfl⟩
theorem rkA_t {e : α → D} : ∀ (r : List α) o t, kT e r o → B t → rkA (kT e) r o (V t) := by rintro r _ t rfl _; exact ⟨_, rfl, rfl⟩
theorem rkA_a {e : α → D} : ∀ (r : List α) o t, kA e r o → B t → rkA (kA e) r o (V t) := by
  rintro r _ t (rfl | rfl) _
  · exact ⟨_, rfl, .inl rfl⟩
  · exact ⟨_, rfl, .inr rfl⟩
theorem rkA_s {e : α → D} {r : List α} {i : Nat} (h0 : ∀ t, (V t)[i]? = some (some (.ls (r.map e)))) : ∀ t, B t → rkA (kT e) r (.slot i) (V t) := fun t _ => ⟨.tmp (r.map e), by unfold finR; simp only [h0 t], rfl⟩
theorem rkB_v {e : ρ → D} (h0 : ∀ t, (V t)[0]? = some (some (.ab t))) : ∀ r o t, kV e r o → B t → rkB B (kV e) r o (V t) := by rintro r _ t rfl hb; exact ⟨_, t, rfl, rfl, h0 t, hb⟩
theorem rkB_t {e : α → D} (h0 : ∀ t, (V t)[0]? = some (some (.ab t))) : ∀ (r : List α) o t, kT e r o → B t → rkB B (kT e) r o (V t) := by rintro r _ t rfl hb; exact ⟨_, t, rfl, rfl, h0 t, hb⟩
theorem rkB_a {e : α → D} (h0 : ∀ t, (V t)[0]? = some (some (.ab t))) : ∀ (r : List α) o t, kA e r o → B t → rkB B (kA e) r o (V t) := by
  rintro r _ t (rfl | rfl) hb
  · exact ⟨_, t, rfl, .inl rfl, h0 t, hb⟩
  · exact ⟨_, t, rfl, .inr rfl, h0 t, hb⟩
theorem rkB_s {e : α → D} {r : List α} {i : Nat} (hi : i ≠ 0) (h0 : ∀ t, (V t)[0]? = some (some (.ab t))) (h1 : ∀ t, (V t)[i]? = some (some (.ls (r.map e)))) : ∀ t, B t → rkB B (kT e) r (.slot i) (V t) := fun t hb => ⟨.tmp (r.map e), t, by unfold finR; simp only [h1 t], rfl, h0 t, hb⟩
theorem rk_A (h : rkA (kT e1) r o e) : rkA (kA e1) r o e := let ⟨o', h1, h2⟩ := h; ⟨o', h1, .inl h2⟩
theorem xok_B (h0 : ∀ t, (V t)[0]? = some (some (.ab t))) : XOk B (xeB B) V := fun t hb => ⟨t, h0 t, hb⟩
/-! raising -/
theorem js_raise0 {V' : σ → Ab → PEnv} {cl : String} (hx : XOk B XE V) : JS B XE RK (sRaise0 cl) (wraise (exn0 cl)) V V' := fun t Q E ht hw => ⟨hw, hx t ht⟩
/-! loops -/
theorem goFor_ok {s : D → PEnv → Option PEnv} {body : PM Out} {wb : α → σ → WP (Ctl σ ρ)} {VL : σ → Ab → PEnv} {Vx : α → σ → Ab → PEnv} (hs : ∀ x s0 t, s (e1 x) (VL s0 t) = some (Vx x s0 t)) (hb : ∀ x s0, JS B XE RK body (wb x s0) (Vx x s0) VL) :
    ∀ (xs : List α) (s0 : σ), JS B XE RK (goFor s body (xs.map e1)) (wfor wb xs s0) (VL s0) VL
  | [], s0 => fun t Q E ht hw => ⟨s0, t, rfl, ht, hw⟩
  | x :: xs, s0 => by
    intro t Q E ht hw
    have h1 := hb x s0 t _ E ht hw
    rw [List.map_cons]
    unfold goFor
    simp only [hs]
    cases q : body (Vx x s0 t) with
    | ok o e =>
      rw [q] at h1
      cases o with
      | next =>
        obtain ⟨s1, t1, rfl, h2, h3⟩ := h1
        exact goFor_ok hs hb xs s1 t1 Q E h2 h3
      | ret o => exact h1
      | brk => exact h1.elim
      | cont => exact h1.elim
    | exc x e => rw [q] at h1; exact h1
    | bad => rw [q] at h1; exact h1.elim
theorem js_for {it : PM (List D)} {wi : WP (List α)} {s : D → PEnv → Option PEnv} {body : PM Out} {wb : α → σ → WP (Ctl σ ρ)} {VL : σ → Ab → PEnv} {Vx : α → σ → Ab → PEnv} (s0 : σ) (hit : J B XE it (kI e1) wi V V1) (h0 : ∀ t, V1 t = VL s0 t) (hs : ∀ x s0 t, s (e1 x) (VL s0 t) = some (Vx x s0 t)) (hb : ∀ x s0, JS B XE RK body (wb x s0) (Vx x s0) VL) :
    JS B XE RK (sFor it s body) (wbind wi fun xs => wfor wb xs s0) V VL := by
  intro t Q E ht hw
  have h1 := hit t _ E ht hw
  unfold sFor bnd
  cases q : it (V t) with
  | ok ds e =>
    rw [q] at h1
    obtain ⟨xs, t1, k1, rfl, h2, h3⟩ := h1
    have k1 : ds = xs.map e1 := k1
    subst k1
    show match goFor s body (xs.map e1) (V1 t1) with | _ => _
    rw [h0 t1]
    exact goFor_ok hs hb xs s0 t1 Q E h2 h3
  | exc x e => rw [q] at h1; exact h1
  | bad => rw [q] at h1; exact h1.elim
theorem js_forP {it : PM (List D)} {xs : List α} {s : D → PEnv → Option PEnv} {body : PM Out} {wb : α → σ → WP (Ctl σ ρ)} {VL : σ → Ab → PEnv} {Vx : α → σ → Ab → PEnv} (s0 : σ) (hit : JP B it (kI e1 xs) V) (h0 : ∀ t, V t = VL s0 t) (hs : ∀ x s0 t, s (e1 x) (VL s0 t) = some (Vx x s0 t)) (hb : ∀ x s0, JS B XE RK body (wb x s0) (Vx x s0) VL) :
    JS B XE RK (sFor it s body) (wfor wb xs s0) V VL := js_for (wi := wpure xs) s0 (jup hit) h0 hs hb
theorem goWhile_ok {body : PM Out} {wt : σ → WP Bool} {wb : σ → WP (Ctl σ ρ)} {VL : σ → Ab → PEnv} (hc : ∀ s, J B XE c kEq (wt s) (VL s) (VL s)) (hb : ∀ s, JS B XE RK body (wb s) (VL s) VL) : ∀ (n : Nat) (s : σ), JS B XE RK (goWhile c body n) (wwhile wt wb n s) (VL s) VL
  | 0, s => fun t Q E ht hw => hw.elim
  | n + 1, s => by
    intro t Q E ht hw
    have h1 := hc s t _ E ht hw
    unfold goWhile bnd
    cases q : c (VL s t) with
    | ok k e =>
      rw [q] at h1
      obtain ⟨k', t1, ek, rfl, h2, h3⟩ := h1
      subst ek
      cases k with
      | false => exact ⟨s, t1, rfl, h2, h3⟩
      | true =>
        have h4 := hb s t1 _ E h2 h3
        simp only [if_true]
        cases q2 : body (VL s t1) with
        | ok o e =>
          rw [q2] at h4
          cases o with
          | next =>
            obtain ⟨s1, t2, rfl, h5, h6⟩ := h4
            exact goWhile_ok hc hb n s1 t2 Q E h5 h6
          | ret o => exact h4
          | brk => exact h4.elim
          | cont => exact h4.elim
        | exc x e => rw [q2] at h4; exact h4
        | bad => rw [q2] at h4; exact h4.elim
    | exc x e => rw [q] at h1; exact h1
    | bad => rw [q] at h1; exact h1.elim
theorem js_while {n : Nat} {body : PM Out} {wt : σ → WP Bool} {wb : σ → WP (Ctl σ ρ)} {VL : σ → Ab → PEnv} (s0 : σ) (h0 : ∀ t, V t = VL s0 t) (hc : ∀ s, J B XE c kEq (wt s) (VL s) (VL s)) (hb : ∀ s, JS B XE RK body (wb s) (VL s) VL) : JS B XE RK (goWhile c body n) (wwhile wt wb n s0) V VL := by
  intro t Q E ht hw
  rw [h0 t]
  exact goWhile_ok hc hb n s0 t Q E ht hw
end
/-! ### defs -/
section
variable {α ρ : Type} {K : ρ → Opd → Prop} {g : PM Out} {N : Nat} {args : List D}
theorem tA {w : WP (Ctl Empty ρ)} {V' : Empty → Ab → PEnv} (h : JS (fun _ => True) (fun _ => True) (rkA K) g w (fun _ => envOf N (args.map .im)) V') : ∀ Q E, wdone w Q E → TR (runA N g args) K Q E := by
  intro Q E hw
  have h1 := h (.sc []) _ E trivial hw
  unfold runA
  cases q : g (envOf N (args.map .im)) with
  | ok o e =>
    rw [q] at h1
    cases o with
    | next => exact nomatch h1.choose
    | ret o =>
      obtain ⟨r, ⟨o', e1, k⟩, hq⟩ := h1
      show TR (finR [] o e) K Q E
      rw [e1]
      exact ⟨r, k, hq⟩
    | brk => exact h1.elim
    | cont => exact h1.elim
  | exc x e => rw [q] at h1; exact h1.1
  | bad => rw [q] at h1; exact h1.elim
theorem tB {B : Ab → Prop} {w : WP (Ctl Empty ρ)} {V' : Empty → Ab → PEnv} (h : JS B (xeB B) (rkB B K) g w (fun t => envOf N (.ab t :: args.map .im)) V') : ∀ t Q E, B t → wdone w Q E → TRB B (runB N g t args) K Q E := by
  intro t Q E hb hw
  have h1 := h t _ E hb hw
  unfold runB
  cases q : g (envOf N (.ab t :: args.map .im)) with
  | ok o e =>
    rw [q] at h1
    cases o with
    | next => exact nomatch h1.choose
    | ret o =>
      obtain ⟨r, ⟨o', t', e1, k, e2, b2⟩, hq⟩ := h1
      show TRB B (ab0 e (finR [0] o e) t) K Q E
      unfold ab0
      rw [e2, e1]
      exact ⟨r, k, b2, hq⟩
    | brk => exact h1.elim
    | cont => exact h1.elim
  | exc x e =>
    rw [q] at h1
    obtain ⟨h2, t', e2, b2⟩ := h1
    show TRB B (ab0 e (.exc x) t) K Q E
    unfold ab0
    rw [e2]
    exact ⟨h2, b2⟩
  | bad => rw [q] at h1; exact h1.elim
/-- the law is true -/
theorem true_of {B : Ab → Prop} {t0 : Ab} {w : WP (Ctl Empty Bool)} {V' : Empty → Ab → PEnv} {XE : PEnv → Prop} {g : PM Out} {V : Ab → PEnv} (hb : B t0) (h : JS B XE (fun r o e => o = .val (.bool r)) g w V V') (hw : wdone w (fun r => r = true) (fun _ => False)) : TrueEnd (g (V t0)) := by
  have h1 := h t0 _ _ hb hw
  cases q : g (V t0) with
  | ok o e =>
    rw [q] at h1
    cases o with
    | next => exact nomatch h1.choose
    | ret o =>
      obtain ⟨r, rfl, hr⟩ := h1
      have hr : r = true := hr
      subst hr
      exact rfl
    | brk => exact h1.elim
    | cont => exact h1.elim
  | exc x e => rw [q] at h1; exact h1.1.elim
  | bad => rw [q] at h1; exact h1.elim
end
end Pu

namespace Pu
open PySem PySem.Spec PyProof.Rows L2
section
variable {α β γ : Type} {e : α → D} {e' : β → D} {es : β → List D}
/-! ### whole numbers -/
theorem o_add {a b : Int} : OpP gAdd (eI a) (eI b) (kV eI (a + b)) := ⟨_, rfl, rfl⟩
theorem o_sub {a b : Int} : OpP gSub (eI a) (eI b) (kV eI (a - b)) := ⟨_, rfl, rfl⟩
theorem o_lt {a b : Int} : OpP gLt (eI a) (eI b) (kV eB (decide (a < b))) := ⟨_, rfl, rfl⟩
theorem o_le {a b : Int} : OpP gLe (eI a) (eI b) (kV eB (decide (a ≤ b))) := ⟨_, rfl, rfl⟩
theorem o_gt {a b : Int} : OpP gGt (eI a) (eI b) (kV eB (decide (b < a))) := ⟨_, rfl, rfl⟩
theorem o_ge {a b : Int} : OpP gGe (eI a) (eI b) (kV eB (decide (b ≤ a))) := ⟨_, rfl, rfl⟩
def wmul (a b : Int) : WP Int := fun Q _ => ((-(2 ^ 64) < a ∧ a < 2 ^ 64) ∨ (-(2 ^ 64) < b ∧ b < 2 ^ 64)) ∧ Q (a * b)
def wmod (a b : Int) : WP Int := fun Q _ => 0 < b ∧ Q (a % b)
def wdiv (a b : Int) : WP Int := fun Q _ => (0 < b ∧ b < 1073741824) ∧ Q (a / b)
def wpow (a b : Int) : WP Int := fun Q _ => (0 ≤ b ∧ b ≤ 1000000 ∧ a.natAbs < 2 ^ 64) ∧ Q (a ^ b.toNat)
theorem ow_mul : OpW gMul eI eI (kV eI) wmul := fun a b Q E h => ⟨_, _, if_pos h.1, rfl, h.2⟩
theorem ow_mod : OpW gMod eI eI (kV eI) wmod := fun a b Q E h => ⟨_, _, if_pos (decide_eq_true h.1), rfl, h.2⟩
theorem ow_div : OpW gDiv eI eI (kV eI) wdiv := fun a b Q E h => ⟨_, _, if_pos (decide_eq_true h.1), rfl, h.2⟩
theorem ow_pow : OpW gPow eI eI (kV eI) wpow := fun a b Q E h => ⟨_, _, if_pos (decide_eq_true h.1), rfl, h.2⟩
theorem ow_add : OpW gAdd eI eI (kV eI) (fun a b => wpure (a + b)) := fun a b Q E h => ⟨_, _, rfl, rfl, h⟩
theorem ow_sub : OpW gSub eI eI (kV eI) (fun a b => wpure (a - b)) := fun a b Q E h => ⟨_, _, rfl, rfl, h⟩
theorem ow_lt : OpW gLt eI eI (kV eB) (fun a b => wpure (decide (a < b))) := fun a b Q E h => ⟨_, _, rfl, rfl, h⟩
theorem ow_le : OpW gLe eI eI (kV eB) (fun a b => wpure (decide (a ≤ b))) := fun a b Q E h => ⟨_, _, rfl, rfl, h⟩
theorem ow_gt : OpW gGt eI eI (kV eB) (fun a b => wpure (decide (b < a))) := fun a b Q E h => ⟨_, _, rfl, rfl, h⟩
theorem ow_ge : OpW gGe eI eI (kV eB) (fun a b => wpure (decide (b ≤ a))) := fun a b Q E h => ⟨_, _, rfl, rfl, h⟩
theorem o_neg {a : Int} : ∃ o, gNeg (eI a) = some o ∧ kV eI (-a) o := ⟨_, rfl, rfl⟩
theorem ow_neg : UnW gNeg eI (kV eI) (fun a => wpure (-a)) := fun a Q E h => ⟨_, _, rfl, rfl, h⟩
def absI (a : Int) : Int := if a < 0 then -a else a
theorem o_abs {a : Int} : ∃ o, gAbs [eI a] = some o ∧ kV eI (absI a) o := ⟨_, rfl, rfl⟩
theorem ow_abs : UnW (fun d => gAbs [d]) eI (kV eI) (fun a => wpure (absI a)) := fun a Q E h => ⟨_, _, rfl, rfl, h⟩
theorem o_int {a : Int} : ∃ o, gInt1 [eI a] = some o ∧ kV eI a o := ⟨_, rfl, rfl⟩
theorem ow_int : UnW (fun d => gInt1 [d]) eI (kV eI) wpure := fun a Q E h => ⟨_, _, rfl, rfl, h⟩
def b2i (b : Bool) : Int := if b then 1 else 0
theorem o_intb {b : Bool} : ∃ o, gInt1 [eB b] = some o ∧ kV eI (b2i b) o := ⟨_, rfl, rfl⟩
theorem ow_intb : UnW (fun d => gInt1 [d]) eB (kV eI) (fun b => wpure (b2i b)) := fun a Q E h => ⟨_, _, rfl, rfl, h⟩
theorem o_max2 {a b : Int} : ∃ o, gMax2 [eI a, eI b] = some o ∧ kV eI (if b > a then b else a) o := ⟨_, rfl, rfl⟩
theorem o_min2 {a b : Int} : ∃ o, gMin2 [eI a, eI b] = some o ∧ kV eI (if b < a then b else a) o := ⟨_, rfl, rfl⟩
theorem ow_max2 : OpW (fun d d' => gMax2 [d, d']) eI eI (kV eI) (fun a b => wpure (if b > a then b else a)) := fun a b Q E h => ⟨_, _, rfl, rfl, h⟩
theorem ow_min2 : OpW (fun d d' => gMin2 [d, d']) eI eI (kV eI) (fun a b => wpure (if b < a then b else a)) := fun a b Q E h => ⟨_, _, rfl, rfl, h⟩
/-! ### lists and tuples -/
def wcat (xs ys : List α) : WP (List α) := fun Q _ => xs.length + ys.length ≤ bigLine ∧ Q (xs ++ ys)
theorem ow_catL : OpW gAdd (eL e) (eL e) (kT e) wcat := fun a b Q E h => ⟨.tmp ((a ++ b).map e), _, by
  have h1 : (a.map e).length + (b.map e).length ≤ bigLine := by rw [List.length_map, List.length_map]; exact h.1
  rw [List.map_append]
  exact if_pos h1, rfl, h.2⟩
theorem ow_catT : OpW gAdd (eT e) (eT e) (kV (eT e)) wcat := fun a b Q E h => ⟨.val (eT e (a ++ b)), _, by
  have h1 : (a.map e).length + (b.map e).length ≤ bigLine := by rw [List.length_map, List.length_map]; exact h.1
  unfold eT
  rw [List.map_append]
  exact if_pos h1, rfl, h.2⟩
def wcatS (x y : Str) : WP Str := fun Q _ => x.length + y.length ≤ bigLine ∧ Q (x ++ y)
theorem ow_catS : OpW gAdd eS eS (kV eS) wcatS := fun a b Q E h => ⟨_, _, if_pos h.1, rfl, h.2⟩
theorem o_lenL {xs : List α} : ∃ o, gLen [eL e xs] = some o ∧ kV eI (xs.length : Int) o := ⟨_, rfl, by
  show Opd.val (.int ((xs.map e).length : Int)) = _
  rw [List.length_map]⟩
theorem o_lenT {xs : List α} : ∃ o, gLen [eT e xs] = some o ∧ kV eI (xs.length : Int) o := ⟨_, rfl, by
  show Opd.val (.int ((xs.map e).length : Int)) = _
  rw [List.length_map]⟩
theorem ow_lenL : UnW (fun d => gLen [d]) (eL e) (kV eI) (fun xs => wpure (xs.length : Int)) := fun a Q E h => let ⟨o, h1, h2⟩ := o_lenL (e := e) (xs := a); ⟨o, _, h1, h2, h⟩
theorem ow_lenT : UnW (fun d => gLen [d]) (eT e) (kV eI) (fun xs => wpure (xs.length : Int)) := fun a Q E h => let ⟨o, h1, h2⟩ := o_lenT (e := e) (xs := a); ⟨o, _, h1, h2, h⟩
/-- the items of data that has such -/
def itemsD : D → Option (List D)
  | .list ds => some ds
  | .tuple ds => some ds
  | _ => none
def wlenD (d : D) : WP Int := fun Q _ => ∃ ds, itemsD d = some ds ∧ Q (ds.length : Int)
theorem ow_lenD : UnW (fun d => gLen [d]) eD (kV eI) wlenD := fun a Q E ⟨ds, h1, h2⟩ => by
  cases a <;> cases h1
  · exact ⟨_, _, rfl, rfl, h2⟩
  · exact ⟨_, _, rfl, rfl, h2⟩
theorem atI_map {xs : List α} {i : Int} : atI (xs.map e) i = (atI xs i).map e := by
  unfold atI
  rw [List.length_map]
  cases ixN xs.length i with
  | none => rfl
  | some j =>
    show (xs.map e)[j]? = (xs[j]?).map e
    rw [List.getElem?_map]
def wix (xs : List α) (i : Int) : WP α := fun Q _ => ∃ a, atI xs i = some a ∧ Q a
theorem ow_ixL : OpW gIx (eL e) eI (kV e) wix := fun xs i Q E ⟨a, h1, h2⟩ => ⟨.val (e a), a, by
  show (atI (xs.map e) i).map Opd.val = _
  rw [atI_map, h1]
  rfl, rfl, h2⟩
theorem ow_ixT : OpW gIx (eT e) eI (kV e) wix := fun xs i Q E ⟨a, h1, h2⟩ => ⟨.val (e a), a, by
  show (atI (xs.map e) i).map Opd.val = _
  rw [atI_map, h1]
  rfl, rfl, h2⟩
def wixD (d : D) (i : Int) : WP D := fun Q _ => ∃ ds a, itemsD d = some ds ∧ atI ds i = some a ∧ Q a
theorem ow_ixD : OpW gIx eD eI (kV eD) wixD := fun d i Q E ⟨ds, a, h0, h1, h2⟩ => by
  cases d <;> cases h0
  · exact ⟨.val a, a, by show (atI _ i).map Opd.val = _; rw [h1]; rfl, rfl, h2⟩
  · exact ⟨.val a, a, by show (atI _ i).map Opd.val = _; rw [h1]; rfl, rfl, h2⟩
/-- an item of a tuple of few -/
theorem gIx_0 {a : D} {r : List D} : gIx (.tuple (a :: r)) (.int 0) = some (.val a) := by
  have h : atI (a :: r) ((0 : Nat) : Int) = some a := atI_nat rfl
  have h' : atI (a :: r) 0 = some a := h
  simp only [gIx, h', Option.map_some]
theorem o_fst {e1 : α → D} {p : α × β} : OpP gIx (eTp (cc e1 es) p) (eI 0) (kV e1 p.1) := ⟨_, gIx_0, rfl⟩
theorem ow_fst {e1 : α → D} : UnW (fun d => gIx d (eI 0)) (eTp (cc e1 es)) (kV e1) (fun p : α × β => wpure p.1) := fun p Q E h => ⟨_, _, gIx_0, rfl, h⟩
theorem o_snd {e1 : α → D} {e2 : β → D} {p : α × β} : OpP gIx (eP e1 e2 p) (eI 1) (kV e2 p.2) := ⟨_, rfl, rfl⟩
theorem o_tp {ds : List D} {i : Int} {d : D} (h : atI ds i = some d) : OpP gIx (.tuple ds) (eI i) (fun o => o = Opd.val d) := ⟨.val d, by show (atI ds i).map Opd.val = _; rw [h]; rfl, rfl⟩
def cutL (xs : List α) (lo hi : Option Int) : List α := (xs.drop (HT.sIx xs.length 0 lo)).take (HT.sIx xs.length xs.length hi - HT.sIx xs.length 0 lo)
theorem cut_map {xs : List α} {lo hi : Option Int} : cutD (xs.map e) lo hi = (cutL xs lo hi).map e := by
  unfold cutD cutL
  rw [List.length_map, List.map_take, List.map_drop]
theorem o_slL {xs : List α} {lo hi : Option Int} : ∃ o, gSl (eL e xs) lo hi = some o ∧ kT e (cutL xs lo hi) o := ⟨_, rfl, by show Opd.tmp (cutD (xs.map e) lo hi) = _; rw [cut_map]⟩
theorem o_slT {xs : List α} {lo hi : Option Int} : ∃ o, gSl (eT e xs) lo hi = some o ∧ kV (eT e) (cutL xs lo hi) o := ⟨_, rfl, by show Opd.val (.tuple (cutD (xs.map e) lo hi)) = _; rw [cut_map]; rfl⟩
theorem ow_slL {κl : β → Option Int} {κh : γ → Option Int} : ∀ (a : List α) b d Q (E : EP), wpure (cutL a (κl b) (κh d)) Q E → ∃ o r, gSl (eL e a) (κl b) (κh d) = some o ∧ kT e r o ∧ Q r := fun a b d Q E h => let ⟨o, h1, h2⟩ := o_slL (e := e) (xs := a); ⟨o, _, h1, h2, h⟩
theorem ow_slT {κl : β → Option Int} {κh : γ → Option Int} : ∀ (a : List α) b d Q (E : EP), wpure (cutL a (κl b) (κh d)) Q E → ∃ o r, gSl (eT e a) (κl b) (κh d) = some o ∧ kV (eT e) r o ∧ Q r := fun a b d Q E h => let ⟨o, h1, h2⟩ := o_slT (e := e) (xs := a); ⟨o, _, h1, h2, h⟩
theorem o_tupL {xs : List α} : ∃ o, gTuple [eL e xs] = some o ∧ kV (eT e) xs o := ⟨_, rfl, rfl⟩
theorem o_tupT {xs : List α} : ∃ o, gTuple [eT e xs] = some o ∧ kV (eT e) xs o := ⟨_, rfl, rfl⟩
theorem o_lisL {xs : List α} : ∃ o, gList [eL e xs] = some o ∧ kT e xs o := ⟨_, rfl, rfl⟩
theorem o_lisT {xs : List α} : ∃ o, gList [eT e xs] = some o ∧ kT e xs o := ⟨_, rfl, rfl⟩
theorem ow_tupL : UnW (fun d => gTuple [d]) (eL e) (kV (eT e)) wpure := fun a Q E h => ⟨_, _, rfl, rfl, h⟩
theorem ow_tupT : UnW (fun d => gTuple [d]) (eT e) (kV (eT e)) wpure := fun a Q E h => ⟨_, _, rfl, rfl, h⟩
theorem ow_lisL : UnW (fun d => gList [d]) (eL e) (kT e) wpure := fun a Q E h => ⟨_, _, rfl, rfl, h⟩
theorem ow_lisT : UnW (fun d => gList [d]) (eT e) (kT e) wpure := fun a Q E h => ⟨_, _, rfl, rfl, h⟩
def wmulL (xs : List α) (k : Int) : WP (List α) := fun Q _ => (-(2 ^ 63) ≤ k ∧ k < 2 ^ 63 ∧ xs.length * k.toNat ≤ bigLine) ∧ Q (List.replicate k.toNat xs).flatten
theorem ow_mulL : OpW gMul (eL e) eI (kT e) wmulL := fun a b Q E h => ⟨.tmp ((List.replicate b.toNat a).flatten.map e), _, by
  have h1 : -(2 ^ 63) ≤ b ∧ b < 2 ^ 63 ∧ (a.map e).length * b.toNat ≤ bigLine := by rw [List.length_map]; exact h.1
  have h2 : (List.replicate b.toNat (a.map e)).flatten = (List.replicate b.toNat a).flatten.map e := by rw [List.map_flatten, List.map_replicate]
  rw [← h2]
  exact if_pos h1, rfl, h.2⟩
def wmulT (xs : List α) (k : Int) : WP (List α) := fun Q _ => (xs ≠ [] ∧ 2 ≤ k ∧ k ≤ 1000 ∧ xs.length ≤ 1000) ∧ Q (List.replicate k.toNat xs).flatten
theorem ow_mulT : OpW gMul (eT e) eI (kV (eT e)) wmulT := fun a b Q E h => ⟨.val (eT e (List.replicate b.toNat a).flatten), _, by
  have h1 : a.map e ≠ [] ∧ 2 ≤ b ∧ b ≤ 1000 ∧ (a.map e).length ≤ 1000 := by rw [List.length_map]; exact ⟨fun z => h.1.1 (List.map_eq_nil_iff.mp z), h.1.2⟩
  have h2 : (List.replicate b.toNat (a.map e)).flatten = (List.replicate b.toNat a).flatten.map e := by rw [List.map_flatten, List.map_replicate]
  unfold eT
  rw [← h2]
  exact if_pos h1, rfl, h.2⟩
/-! truth -/
theorem tr_L {xs : List α} : truth (eL e xs) = some (!xs.isEmpty) := by
  show some (!(xs.map e).isEmpty) = _
  cases xs <;> rfl
theorem tr_T {xs : List α} : truth (eT e xs) = some (!xs.isEmpty) := by
  show some (!(xs.map e).isEmpty) = _
  cases xs <;> rfl
theorem tr_B {b : Bool} : truth (eB b) = some b := rfl
theorem tr_I {i : Int} : truth (eI i) = some (i != 0) := rfl
theorem twL : ∀ (a : List α) Q (E : EP), wpure (!a.isEmpty) Q E → ∃ b, truth (eL e a) = some b ∧ Q b := fun a Q E h => ⟨_, tr_L, h⟩
theorem twT : ∀ (a : List α) Q (E : EP), wpure (!a.isEmpty) Q E → ∃ b, truth (eT e a) = some b ∧ Q b := fun a Q E h => ⟨_, tr_T, h⟩
theorem twB : ∀ (a : Bool) Q (E : EP), wpure a Q E → ∃ b, truth (eB a) = some b ∧ Q b := fun a Q E h => ⟨_, rfl, h⟩
theorem twI : ∀ (a : Int) Q (E : EP), wpure (a != 0) Q E → ∃ b, truth (eI a) = some b ∧ Q b := fun a Q E h => ⟨_, rfl, h⟩
/-! ### what is equal -/
structure Eqv (e : α → D) (n : Nat) : Prop where
  eq : ∀ a b, PyData.eqv (e a) (e b) = true ↔ a = b
  lay : ∀ a, (e a).canLay0 = true
  dp : ∀ a, (e a).depth ≤ n
theorem qI : Eqv eI 0 := ⟨fun a b => by simp [PyData.eqv], fun a => by simp [PyData.canLay0], fun a => by simp [PyData.depth]⟩
theorem qB : Eqv eB 0 := ⟨fun a b => by cases a <;> cases b <;> simp [PyData.eqv], fun a => by simp [PyData.canLay0], fun a => by simp [PyData.depth]⟩
theorem Eqv.mono {n m : Nat} (h : Eqv e n) (l : n ≤ m) : Eqv e m := ⟨h.eq, h.lay, fun a => Nat.le_trans (h.dp a) l⟩
theorem eqvAll_map {n : Nat} (h : Eqv e n) : ∀ xs ys : List α, PyData.eqvAll (xs.map e) (ys.map e) = true ↔ xs = ys
  | [], [] => by simp [PyData.eqvAll]
  | [], y :: ys => by simp [PyData.eqvAll]
  | x :: xs, [] => by simp [PyData.eqvAll]
  | x :: xs, y :: ys => by
    simp only [List.map_cons, PyData.eqvAll, Bool.and_eq_true, h.eq, eqvAll_map h xs ys, List.cons.injEq]
theorem layAll_map {n : Nat} (h : Eqv e n) : ∀ xs : List α, PyData.canLayAll0 (xs.map e) = true
  | [] => by simp [PyData.canLayAll0]
  | x :: xs => by simp only [List.map_cons, PyData.canLayAll0, h.lay, layAll_map h xs, Bool.and_self]
theorem dpAll_map {n : Nat} (h : Eqv e n) : ∀ xs : List α, PyData.depthAll (xs.map e) ≤ n
  | [] => by simp [PyData.depthAll]
  | x :: xs => by
    simp only [List.map_cons, PyData.depthAll]
    exact Nat.max_le.mpr ⟨h.dp x, dpAll_map h xs⟩
theorem qL {n : Nat} (h : Eqv e n) : Eqv (eL e) (n + 1) := ⟨fun a b => by unfold eL; simp only [PyData.eqv, eqvAll_map h], fun a => by unfold eL; simp only [PyData.canLay0, layAll_map h], fun a => by
  unfold eL
  simp only [PyData.depth]
  have := dpAll_map h a
  omega⟩
theorem qT {n : Nat} (h : Eqv e n) : Eqv (eT e) (n + 1) := ⟨fun a b => by unfold eT; simp only [PyData.eqv, eqvAll_map h], fun a => by unfold eT; simp only [PyData.canLay0, layAll_map h], fun a => by
  unfold eT
  simp only [PyData.depth]
  have := dpAll_map h a
  omega⟩
theorem qP {e1 : α → D} {e2 : β → D} {n m : Nat} (h1 : Eqv e1 n) (h2 : Eqv e2 m) : Eqv (eP e1 e2) (max n m + 1) := ⟨fun a b => by
  obtain ⟨a1, a2⟩ := a
  obtain ⟨b1, b2⟩ := b
  show PyData.eqv (.tuple [e1 a1, e2 a2]) (.tuple [e1 b1, e2 b2]) = true ↔ _
  simp only [PyData.eqv, PyData.eqvAll, Bool.and_eq_true, h1.eq, h2.eq, Prod.mk.injEq, and_true], fun a => by
  show (PyData.tuple [e1 a.1, e2 a.2]).canLay0 = true
  simp only [PyData.canLay0, PyData.canLayAll0, h1.lay, h2.lay, Bool.and_self], fun a => by
  show (PyData.tuple [e1 a.1, e2 a.2]).depth ≤ _
  simp only [PyData.depth, PyData.depthAll]
  have := h1.dp a.1
  have := h2.dp a.2
  omega⟩
theorem Eqv.shaped {n : Nat} (h : Eqv e n) (hn : n ≤ 64) (a : α) : SeqAt.shaped (e a) = true := by
  show ((e a).canLay0 && decide ((e a).depth ≤ 64)) = true
  rw [h.lay, decide_eq_true (Nat.le_trans (h.dp a) hn)]
  rfl
theorem Eqv.dec [DecidableEq α] {n : Nat} (h : Eqv e n) (a b : α) : PyData.eqv (e a) (e b) = decide (a = b) := by
  by_cases z : a = b
  · rw [decide_eq_true z]; exact (h.eq a b).mpr z
  · rw [decide_eq_false z]
    cases q : PyData.eqv (e a) (e b) with
    | false => rfl
    | true => exact absurd ((h.eq a b).mp q) z
theorem gEq_q [DecidableEq α] {n : Nat} (h : Eqv e n) (hn : n ≤ 64) (neg : Bool) (a b : α) : gEq neg (e a) (e b) = some (.val (.bool (if neg = true then !decide (a = b) else decide (a = b)))) := by
  unfold gEq
  cases q : strPair (e a) (e b) with
  | none =>
    simp only [h.shaped hn, and_self, if_true, h.dec]
  | some p =>
    unfold strPair at q
    split at q
    · rename_i x y h1 h2
      cases q
      have h3 := h.dec a b
      rw [h1, h2] at h3
      have h4 : PyData.eqv (.str x) (.str y) = decide (x = y) := by simp only [PyData.eqv]; exact Bool.beq_eq_decide_eq x y
      rw [h4] at h3
      simp only [h3]
    · cases q
end
end Pu

namespace Pu
open PySem PySem.Spec PyProof.Rows L2
section
variable {α β γ : Type} {e : α → D} {e' : β → D} {n : Nat}
theorem o_eq [DecidableEq α] (h : Eqv e n) (hn : n ≤ 64 := by decide) {a b : α} : OpP (gEq false) (e a) (e b) (kV eB (decide (a = b))) := ⟨_, gEq_q h hn false a b, rfl⟩
theorem o_ne [DecidableEq α] (h : Eqv e n) (hn : n ≤ 64 := by decide) {a b : α} : OpP (gEq true) (e a) (e b) (kV eB (!decide (a = b))) := ⟨_, gEq_q h hn true a b, rfl⟩
theorem ow_eq [DecidableEq α] (h : Eqv e n) (hn : n ≤ 64 := by decide) : OpW (gEq false) e e (kV eB) (fun a b => wpure (decide (a = b))) := fun a b Q E q => ⟨_, _, gEq_q h hn false a b, rfl, q⟩
theorem ow_ne [DecidableEq α] (h : Eqv e n) (hn : n ≤ 64 := by decide) : OpW (gEq true) e e (kV eB) (fun a b => wpure (!decide (a = b))) := fun a b Q E q => ⟨_, _, gEq_q h hn true a b, rfl, q⟩
theorem o_eqS {a b : Str} : OpP (gEq false) (eS a) (eS b) (kV eB (decide (a = b))) := ⟨_, rfl, rfl⟩
theorem o_neS {a b : Str} : OpP (gEq true) (eS a) (eS b) (kV eB (!decide (a = b))) := ⟨_, rfl, rfl⟩
theorem ow_eqS : OpW (gEq false) eS eS (kV eB) (fun a b => wpure (decide (a = b))) := fun a b Q E q => ⟨_, _, rfl, rfl, q⟩
theorem ow_neS : OpW (gEq true) eS eS (kV eB) (fun a b => wpure (!decide (a = b))) := fun a b Q E q => ⟨_, _, rfl, rfl, q⟩
/-- data of any kind -/
def weq (e : α → D) (e' : β → D) (neg : Bool) (a : α) (b : β) : WP Bool := fun Q _ => ∃ k, gEq neg (e a) (e' b) = some (.val (.bool k)) ∧ Q k
theorem ow_eqD {neg : Bool} : OpW (gEq neg) e e' (kV eB) (weq e e' neg) := fun a b Q E ⟨k, h1, h2⟩ => ⟨_, k, h1, rfl, h2⟩
/-! in -/
theorem gIn_q [DecidableEq α] (h : Eqv e n) (hn : n ≤ 50) (neg : Bool) (x : α) (xs : List α) : inOk (e x) (xs.map e) = true ∧ anyD (e x) (xs.map e) = decide (x ∈ xs) := by
  constructor
  · unfold inOk
    rw [h.lay, layAll_map h, decide_eq_true (Nat.le_trans (h.dp x) hn)]
    rfl
  · unfold anyD
    rw [List.any_map]
    induction xs with
    | nil => rfl
    | cons y ys ih =>
      rw [List.any_cons, ih]
      simp only [Function.comp, h.dec]
      by_cases z : y = x
      · simp [z]
      · have z' : ¬ x = y := fun q => z q.symm
        simp [z, z']
theorem o_inL [DecidableEq α] (h : Eqv e n) (hn : n ≤ 50 := by decide) {x : α} {xs : List α} : OpP (gIn false) (e x) (eL e xs) (kV eB (decide (x ∈ xs))) := ⟨_, by
  obtain ⟨h1, h2⟩ := gIn_q h hn false x xs
  unfold eL gIn
  simp only [h1, if_true, h2]
  rfl, rfl⟩
theorem o_niL [DecidableEq α] (h : Eqv e n) (hn : n ≤ 50 := by decide) {x : α} {xs : List α} : OpP (gIn true) (e x) (eL e xs) (kV eB (!decide (x ∈ xs))) := ⟨_, by
  obtain ⟨h1, h2⟩ := gIn_q h hn true x xs
  unfold eL gIn
  simp only [h1, if_true, h2], rfl⟩
theorem o_inT [DecidableEq α] (h : Eqv e n) (hn : n ≤ 50 := by decide) {x : α} {xs : List α} : OpP (gIn false) (e x) (eT e xs) (kV eB (decide (x ∈ xs))) := ⟨_, by
  obtain ⟨h1, h2⟩ := gIn_q h hn false x xs
  unfold eT gIn
  simp only [h1, if_true, h2]
  rfl, rfl⟩
theorem o_niT [DecidableEq α] (h : Eqv e n) (hn : n ≤ 50 := by decide) {x : α} {xs : List α} : OpP (gIn true) (e x) (eT e xs) (kV eB (!decide (x ∈ xs))) := ⟨_, by
  obtain ⟨h1, h2⟩ := gIn_q h hn true x xs
  unfold eT gIn
  simp only [h1, if_true, h2], rfl⟩
theorem ow_inL [DecidableEq α] (h : Eqv e n) (hn : n ≤ 50 := by decide) : OpW (gIn false) e (eL e) (kV eB) (fun x xs => wpure (decide (x ∈ xs))) := fun x xs Q E q => let ⟨o, h1, h2⟩ := o_inL h hn (x := x) (xs := xs); ⟨o, _, h1, h2, q⟩
theorem ow_niL [DecidableEq α] (h : Eqv e n) (hn : n ≤ 50 := by decide) : OpW (gIn true) e (eL e) (kV eB) (fun x xs => wpure (!decide (x ∈ xs))) := fun x xs Q E q => let ⟨o, h1, h2⟩ := o_niL h hn (x := x) (xs := xs); ⟨o, _, h1, h2, q⟩
theorem ow_inT [DecidableEq α] (h : Eqv e n) (hn : n ≤ 50 := by decide) : OpW (gIn false) e (eT e) (kV eB) (fun x xs => wpure (decide (x ∈ xs))) := fun x xs Q E q => let ⟨o, h1, h2⟩ := o_inT h hn (x := x) (xs := xs); ⟨o, _, h1, h2, q⟩
theorem ow_niT [DecidableEq α] (h : Eqv e n) (hn : n ≤ 50 := by decide) : OpW (gIn true) e (eT e) (kV eB) (fun x xs => wpure (!decide (x ∈ xs))) := fun x xs Q E q => let ⟨o, h1, h2⟩ := o_niT h hn (x := x) (xs := xs); ⟨o, _, h1, h2, q⟩
/-- any data in any list -/
def win (e : α → D) (f : β → D) (neg : Bool) (a : α) (b : β) : WP Bool := fun Q _ => ∃ k, gIn neg (e a) (f b) = some (.val (.bool k)) ∧ Q k
theorem ow_inD {f : β → D} {neg : Bool} : OpW (gIn neg) e f (kV eB) (win e f neg) := fun a b Q E ⟨k, h1, h2⟩ => ⟨_, k, h1, rfl, h2⟩
/-! None -/
theorem o_isNO (h : ∀ a, isNon (e a) = false := by intro _; rfl) {x : Option α} : OpP (gIsN false) (eO e x) .none (kV eB x.isNone) := ⟨_, rfl, by
  cases x with
  | none => rfl
  | some a => show Opd.val (.bool (isNon (e a))) = _; rw [h]; rfl⟩
theorem o_notNO (h : ∀ a, isNon (e a) = false := by intro _; rfl) {x : Option α} : OpP (gIsN true) (eO e x) .none (kV eB x.isSome) := ⟨_, rfl, by
  cases x with
  | none => rfl
  | some a => show Opd.val (.bool (!isNon (e a))) = _; rw [h]; rfl⟩
theorem o_isN {x : D} : OpP (gIsN false) x .none (kV eB (isNon x)) := ⟨_, rfl, rfl⟩
theorem o_notN {x : D} : OpP (gIsN true) x .none (kV eB (!isNon x)) := ⟨_, rfl, rfl⟩
theorem ow_isNO (h : ∀ a, isNon (e a) = false := by intro _; rfl) : OpW (gIsN false) (eO e) eN (kV eB) (fun x _ => wpure x.isNone) := fun x _ Q E q => let ⟨o, h1, h2⟩ := o_isNO h (x := x); ⟨o, _, h1, h2, q⟩
theorem ow_notNO (h : ∀ a, isNon (e a) = false := by intro _; rfl) : OpW (gIsN true) (eO e) eN (kV eB) (fun x _ => wpure x.isSome) := fun x _ Q E q => let ⟨o, h1, h2⟩ := o_notNO h (x := x); ⟨o, _, h1, h2, q⟩
theorem ow_isN : OpW (gIsN false) eD eN (kV eB) (fun x _ => wpure (isNon x)) := fun x _ Q E q => ⟨_, _, rfl, rfl, q⟩
theorem ow_notN : OpW (gIsN true) eD eN (kV eB) (fun x _ => wpure (!isNon x)) := fun x _ Q E q => ⟨_, _, rfl, rfl, q⟩
end
section
variable {α β γ : Type} {e : α → D} {e' : β → D} {n : Nat}
/-! kinds, texts, orders -/
variable {B : Ab → Prop} {XE : PEnv → Prop} {V V' : Ab → PEnv} {f : PM Opd} {w : WP α}
theorem j_binR {g : D → D → Option Opd} {fb : PM Opd} {db : D} {K : γ → Opd → Prop} {w2 : α → WP γ} (hg : UnW (fun d => g d db) e K w2) (ha : JO B XE f e w V) (hb : JOP B fb db V) : J B XE (eBin g f fb) K (wbind w w2) V V :=
  jbnd ha fun a x kx => jpbnd hb fun y ky => jpbnd (jrsv kx) fun dx ex => jpbnd (jrsv ky) fun dy ey => by
    subst ex
    subst ey
    exact jl (o := Opd.val PyData.none) (hg a)
theorem j_binRP {g : D → D → Option Opd} {fb : PM Opd} {a : α} {db : D} {K : γ → Opd → Prop} {w2 : α → WP γ} (hg : UnW (fun d => g d db) e K w2) (ha : JOP B f (e a) V) (hb : JOP B fb db V) : J B XE (eBin g f fb) K (w2 a) V V :=
  jpbnd ha fun x kx => jpbnd hb fun y ky => jpbnd (jrsv kx) fun dx ex => jpbnd (jrsv ky) fun dy ey => by
    subst ex
    subst ey
    exact jl (o := Opd.val PyData.none) (hg a)
theorem j_some {wo : WP (Option α)} (h : J B XE f (kV (eO e)) wo V V') : J B XE f (kV e) (wbind wo fun x Q _ => ∃ a, x = some a ∧ Q a) V V' := jdown h fun a o g k p => by subst p; exact k
def wsome (x : Option α) : WP α := fun Q _ => ∃ a, x = some a ∧ Q a
theorem j_someP {x : Option α} (h : JP B f (kV (eO e) x) V) : J B XE f (kV e) (wsome x) V V := jpdown (K := kV (eO e)) (b := x) (p := fun a => x = some a) h fun o a k p => by subst p; exact k
theorem ji_co {it : PM (List D)} {φ : α → β} {wi : WP (List α)} (hφ : ∀ a, e a = e' (φ a)) (h : J B XE it (kI e) wi V V') : J B XE it (kI e') (wbind wi fun xs => wpure (xs.map φ)) V V' := by
  intro t Q E ht hw
  have h1 := h t _ E ht hw
  cases q : it (V t) with
  | ok a env =>
    rw [q] at h1
    obtain ⟨b, t1, k1, k2, k3, k4⟩ := h1
    exact ⟨b.map φ, t1, by
      show a = (b.map φ).map e'
      rw [List.map_map, show a = b.map e from k1]
      exact List.map_congr_left fun x _ => hφ x, k2, k3, k4⟩
  | exc x env => rw [q] at h1; exact h1
  | bad => rw [q] at h1; exact h1.elim
theorem jp_coT {xs : List α} {φ : α → β} (hφ : ∀ a, e a = e' (φ a)) (h : JP B f (kT e xs) V) : JP B f (kT e' (xs.map φ)) V := jpmono h fun o k => by
  show o = .tmp ((xs.map φ).map e')
  rw [k, List.map_map]
  exact congrArg Opd.tmp (List.map_congr_left fun x _ => hφ x)
theorem jp_coLt {xs : List α} {φ : α → β} (hφ : ∀ a, e a = e' (φ a)) (h : JP B f (kV (eL e) xs) V) : JP B f (kV (eL e') (xs.map φ)) V := jpmono h fun o k => by
  show o = .val (.list ((xs.map φ).map e'))
  rw [k, List.map_map]
  exact congrArg (fun z => Opd.val (.list z)) (List.map_congr_left fun x _ => hφ x)
theorem jp_coTt {xs : List α} {φ : α → β} (hφ : ∀ a, e a = e' (φ a)) (h : JP B f (kV (eT e) xs) V) : JP B f (kV (eT e') (xs.map φ)) V := jpmono h fun o k => by
  show o = .val (.tuple ((xs.map φ).map e'))
  rw [k, List.map_map]
  exact congrArg (fun z => Opd.val (.tuple z)) (List.map_congr_left fun x _ => hφ x)
theorem j_coT {wx : WP (List α)} {φ : α → β} (hφ : ∀ a, e a = e' (φ a)) (h : J B XE f (kT e) wx V V') : J B XE f (kT e') (wbind wx fun xs => wpure (xs.map φ)) V V' := by
  intro t Q E ht hw
  have h1 := h t _ E ht hw
  cases q : f (V t) with
  | ok a env =>
    rw [q] at h1
    obtain ⟨b, t1, k1, k2, k3, k4⟩ := h1
    exact ⟨b.map φ, t1, by
      show a = .tmp ((b.map φ).map e')
      rw [List.map_map, show a = .tmp (b.map e) from k1]
      exact congrArg Opd.tmp (List.map_congr_left fun x _ => hφ x), k2, k3, k4⟩
  | exc x env => rw [q] at h1; exact h1
  | bad => rw [q] at h1; exact h1.elim
theorem eL_co {xs : List α} {φ : α → β} (hφ : ∀ a, e a = e' (φ a)) : eL e xs = eL e' (xs.map φ) := by
  unfold eL
  rw [List.map_map]
  exact congrArg PyData.list (List.map_congr_left fun x _ => hφ x)
theorem eT_co {xs : List α} {φ : α → β} (hφ : ∀ a, e a = e' (φ a)) : eT e xs = eT e' (xs.map φ) := by
  unfold eT
  rw [List.map_map]
  exact congrArg PyData.tuple (List.map_congr_left fun x _ => hφ x)
theorem jp_isi {T : String} {x : D} (h : JOP B f x V) : JP B (eIsi T f) (kV eB (isiD T x)) V := jpbndP h fun o ko => jpbndP (jrsv ko) fun d ed => jp_ret (by subst ed; rfl)
theorem j_isi {T : String} (h : JO B XE f e w V) : J B XE (eIsi T f) (kV eB) (wbind w fun a => wpure (isiD T (e a))) V V := jbnd h fun a o ko => jpbnd (jrsv ko) fun d ed => jup (jp_ret (by subst ed; rfl))
def wrepr {α : Type} (e : α → D) (a : α) : WP Str := fun Q _ => canShow (e a) = true ∧ Q (e a).shown
theorem ow_repr : UnW (fun d => gRepr [d]) e (kV eS) (wrepr e) := fun a Q E h => ⟨_, _, if_pos h.1, rfl, h.2⟩
def wstr (i : Int) : WP Str := fun Q _ => i.natAbs.log2 < 1920 ∧ Q (toString i)
theorem ow_str : UnW (fun d => gStr [d]) eI (kV eS) wstr := fun a Q E h => ⟨_, _, if_pos h.1, rfl, h.2⟩
def wlenS (s : Str) : WP Int := fun Q _ => s.length ≤ bigLine ∧ Q (s.length : Int)
theorem ow_lenS : UnW (fun d => gLen [d]) eS (kV eI) wlenS := fun a Q E h => ⟨_, _, if_pos h.1, rfl, h.2⟩
/-- sorted, of anything that can be sorted -/
def wsort (e : α → D) (xs : List α) : WP (List α) := fun Q _ => sortOk (xs.map e) = true ∧ ∃ ys, sortD (xs.map e) = ys.map e ∧ Q ys
theorem ow_sortL : UnW (fun d => gSorted [d]) (eL e) (kT e) (wsort e) := fun a Q E ⟨h1, ys, h2, h3⟩ => ⟨.tmp (ys.map e), ys, by
  show (if sortOk (a.map e) = true then some (Opd.tmp (sortD (a.map e))) else none) = _
  rw [if_pos h1, h2], rfl, h3⟩
theorem ow_sortT : UnW (fun d => gSorted [d]) (eT e) (kT e) (wsort e) := fun a Q E ⟨h1, ys, h2, h3⟩ => ⟨.tmp (ys.map e), ys, by
  show (if sortOk (a.map e) = true then some (Opd.tmp (sortD (a.map e))) else none) = _
  rw [if_pos h1, h2], rfl, h3⟩
theorem prsD_map : ∀ ps : List (Int × Int), prsD (ps.map (eP eI eI)) = some ps
  | [] => rfl
  | p :: ps => by
    show (prsD (ps.map (eP eI eI))).map _ = _
    rw [prsD_map ps]
    rfl
def wsortSet (ps : List (Int × Int)) : WP (List (Int × Int)) := fun Q _ => (ps.all inB && decide (ps.length < 64)) = true ∧ Q (sortP (dedP ps))
theorem j_sortSetP {ps : List (Int × Int)} (h : JOP B f (eL (eP eI eI) ps) V) : J B XE (eSortSet f) (kT (eP eI eI)) (wsortSet ps) V V := jpbnd h fun o ko => jpbnd (jrsv ko) fun d ed => by
  subst ed
  rintro t Q E ht ⟨h1, h2⟩
  have e1 : setD (eL (eP eI eI) ps) = some ((sortP (dedP ps)).map prD) := by
    show (prsD (ps.map (eP eI eI))).bind _ = _
    rw [prsD_map]
    exact if_pos h1
  unfold bnd
  rw [e1]
  exact ⟨_, t, rfl, rfl, ht, h2⟩
theorem j_sortSet {wp : WP (List (Int × Int))} (h : JO B XE f (eL (eP eI eI)) wp V) : J B XE (eSortSet f) (kT (eP eI eI)) (wbind wp wsortSet) V V := jbnd h fun ps o ko => jpbnd (jrsv ko) fun d ed => by
  subst ed
  rintro t Q E ht ⟨h1, h2⟩
  have e1 : setD (eL (eP eI eI) ps) = some ((sortP (dedP ps)).map prD) := by
    show (prsD (ps.map (eP eI eI))).bind _ = _
    rw [prsD_map]
    exact if_pos h1
  unfold bnd
  rw [e1]
  exact ⟨_, t, rfl, rfl, ht, h2⟩
/-- list(range(n)), tuple(range(n)) -/
def wrgl (a b : Int) : WP (List Int) := fun Q _ => (inL a ∧ inL b ∧ (b - a).toNat ≤ 1000000) ∧ Q (rngL a (b - a).toNat)
theorem rgLen_ok2 {a b : Int} (h : inL a ∧ inL b ∧ (b - a).toNat ≤ 1000000) : rgLen a b = some (a, (b - a).toNat) := if_pos ⟨decide_eq_true h.1, decide_eq_true h.2.1, h.2.2⟩
theorem j_lrg1 {wi : WP Int} (h : JK B XE f eI wi V V') : J B XE (eLrg1 f) (kT eI) (wbind wi fun n => wrgl 0 n) V V' := jbnd h fun n d ed => by
  have ed : d = .int n := ed
  subst ed
  rintro t Q E ht ⟨h1, h2⟩
  have e1 : rg1 (.int n) = some (0, (n - 0).toNat) := rgLen_ok2 h1
  unfold bnd
  rw [e1]
  exact ⟨_, t, by show Opd.tmp (rangeD 0 (n - 0).toNat) = _; rw [rangeD_map], rfl, ht, h2⟩
theorem j_trg1 {wi : WP Int} (h : JK B XE f eI wi V V') : J B XE (eTrg1 f) (kV (eT eI)) (wbind wi fun n => wrgl 0 n) V V' := jbnd h fun n d ed => by
  have ed : d = .int n := ed
  subst ed
  rintro t Q E ht ⟨h1, h2⟩
  have e1 : rg1 (.int n) = some (0, (n - 0).toNat) := rgLen_ok2 h1
  unfold bnd
  rw [e1]
  exact ⟨_, t, by show Opd.val (.tuple (rangeD 0 (n - 0).toNat)) = _; rw [rangeD_map]; rfl, rfl, ht, h2⟩
end
/-! ### ways -/
inductive Way where
  | mk (s : Int) (f : List Way)
mutual
def eW : Way → D
  | .mk s f => .tuple [.int s, .tuple (eWs f)]
def eWs : List Way → List D
  | [] => []
  | w :: ws => eW w :: eWs ws
end
theorem eWs_map : ∀ ws : List Way, eWs ws = ws.map eW
  | [] => by simp [eWs]
  | w :: ws => by simp [eWs, eWs_map ws]
def Way.st : Way → Int | .mk s _ => s
def Way.fu : Way → List Way | .mk _ f => f
theorem eW_p (w : Way) : eW w = eP eI (eT eW) (w.st, w.fu) := by
  cases w with
  | mk s f =>
    show eW (.mk s f) = .tuple [.int s, .tuple (f.map eW)]
    rw [← eWs_map]
    simp only [eW]
theorem eW_mk (p : Int × List Way) : eP eI (eT eW) p = eW (.mk p.1 p.2) := by
  rw [eW_p]
  rfl
theorem isNon_W (w : Way) : isNon (eW w) = false := by
  cases w
  simp only [eW]
  rfl
theorem o_wst {w : Way} : OpP gIx (eW w) (eI 0) (kV eI w.st) := by rw [eW_p]; exact o_fst
theorem o_wfu {w : Way} : OpP gIx (eW w) (eI 1) (kV (eT eW) w.fu) := by rw [eW_p]; exact ⟨_, rfl, rfl⟩
theorem ow_wst : UnW (fun d => gIx d (eI 0)) eW (kV eI) (fun w => wpure w.st) := fun w Q E h => let ⟨o, h1, h2⟩ := o_wst (w := w); ⟨o, _, h1, h2, h⟩
theorem ow_wfu : UnW (fun d => gIx d (eI 1)) eW (kV (eT eW)) (fun w => wpure w.fu) := fun w Q E h => let ⟨o, h1, h2⟩ := o_wfu (w := w); ⟨o, _, h1, h2, h⟩
end Pu
namespace Pu
open PySem PySem.Spec PyProof.Rows L2
section
variable {B : Ab → Prop} {XE : PEnv → Prop} {α β γ σ ρ : Type} {V V' V1 : Ab → PEnv} {f : PM Opd} {e : α → D} {e' : β → D} {w : WP α} {RK : ρ → Opd → PEnv → Prop}
theorem jp_eq {a : α} {b : β} (he : e a = e' b) (h : JP B f (kV e a) V) : JP B f (kV e' b) V := jpmono h fun o k => by show o = _; rw [k, he]
theorem jop_eq {d d' : D} (he : d = d') (h : JOP B f d V) : JOP B f d' V := he ▸ h
theorem jkp_eq {d d' : D} (he : d = d') (h : JKP B f d V) : JKP B f d' V := he ▸ h
theorem jo_co {φ : α → β} (he : ∀ a, e a = e' (φ a)) (h : JO B XE f e w V) : JO B XE f e' (wbind w fun a => wpure (φ a)) V := by
  intro t Q E ht hw
  have h1 := h t _ E ht hw
  cases q : opn f (V t) with
  | ok a env =>
    rw [q] at h1
    obtain ⟨b, t1, k1, k2, k3, k4⟩ := h1
    exact ⟨φ b, t1, by show kO V (e' (φ b)) a; rw [← he]; exact k1, k2, k3, k4⟩
  | exc x env => rw [q] at h1; exact h1
  | bad => rw [q] at h1; exact h1.elim
theorem jo_up {a : α} (h : JOP B f (e a) V) : JO B XE f e (wpure a) V := jup h
theorem jk_up {a : α} (h : JKP B f (e a) V) : JK B XE f e (wpure a) V V := jup h
theorem j_up {K : α → Opd → Prop} {a : α} (h : JP B f (K a) V) : J B XE f K (wpure a) V V := jup h
theorem jt_up {c : PM Bool} {b : Bool} (h : JP B c (kEq b) V) : J B XE c kEq (wpure b) V V := jup h
theorem ji_up {it : PM (List D)} {xs : List α} (h : JP B it (kI e xs) V) : J B XE it (kI e) (wpure xs) V V := jup h
/-- y.append(x.pop(k)) -/
theorem js_appPop {i j : Nat} {xs ys : List α} {fk : PM Opd} {wk : WP Int} {V' : List α × List α → Ab → PEnv} (hx : ∀ t, (V t)[i]? = some (some (.ls (xs.map e)))) (hy : ∀ t, (V t)[j]? = some (some (.ls (ys.map e)))) (hy2 : ∀ (zs : List α) t, ((V t).set i (some (.ls (zs.map e))))[j]? = some (some (.ls (ys.map e))))
    (hs : ∀ (p : List α × List α) t, ((V t).set i (some (.ls (p.1.map e)))).set j (some (.ls (p.2.map e))) = V' p t) (hk : JO B XE fk eI wk V) :
    JS B XE RK (sExpr (eApp j (ePopAt i fk))) (wbind wk fun z Q _ => ∃ k x, popIx xs.length (.int z) = some k ∧ xs[k]? = some x ∧ ys.length < bigLine ∧ Q (.nx (xs.eraseIdx k, ys ++ [x]))) V V' := by
  intro t Q E ht hw
  have h2 := hk t _ E ht hw
  have ly : ∀ t, lsAt j (V t) = .ok (ys.map e) (V t) := fun t => by unfold lsAt; rw [hy t]
  have lx : ∀ t, lsAt i (V t) = .ok (xs.map e) (V t) := fun t => by unfold lsAt; rw [hx t]
  unfold sExpr eApp ePopAt kept
  simp only [bnd, ly, lx]
  cases q : opn fk (V t) with
  | ok o env =>
    rw [q] at h2
    obtain ⟨z, t1, k1, rfl, k3, k, x, m1, m2, m3, m4⟩ := h2
    have k2 := k1 t1
    have hg : (xs.map e)[k]? = some (e x) := by rw [List.getElem?_map, m2]; rfl
    have he : ∀ (xs : List α) (k : Nat), (xs.map e).eraseIdx k = (xs.eraseIdx k).map e := by
      intro xs
      induction xs with
      | nil => intro k; simp
      | cons y ys ih => intro k; cases k <;> simp [ih]
    have ly2 : lsAt j ((V t1).set i (some (.ls ((xs.eraseIdx k).map e)))) = .ok (ys.map e) ((V t1).set i (some (.ls ((xs.eraseIdx k).map e)))) := by unfold lsAt; rw [hy2]
    have hl : (ys.map e).length < bigLine := by rw [List.length_map]; exact m3
    have hm : ys.map e ++ [e x] = (ys ++ [x]).map e := by simp
    simp only [k2, lx, List.length_map, m1, lift, ret, hg, putS, he, frz, ly2, if_pos hl, hm]
    rw [if_pos m3]
    exact ⟨(xs.eraseIdx k, ys ++ [x]), t1, hs (_, _) t1, k3, m4⟩
  | exc x env => rw [q] at h2; exact h2
  | bad => rw [q] at h2; exact h2.elim
theorem rkA_sa {r : List α} {i : Nat} (h0 : ∀ t, (V t)[i]? = some (some (.ls (r.map e)))) : ∀ t, B t → rkA (kA e) r (.slot i) (V t) := fun t _ => ⟨.tmp (r.map e), by unfold finR; simp only [h0 t], .inl rfl⟩
theorem rkB_sa {r : List α} {i : Nat} (hi : i ≠ 0) (h0 : ∀ t, (V t)[0]? = some (some (.ab t))) (h1 : ∀ t, (V t)[i]? = some (some (.ls (r.map e)))) : ∀ t, B t → rkB B (kA e) r (.slot i) (V t) := fun t hb => ⟨.tmp (r.map e), t, by unfold finR; simp only [h1 t], .inl rfl, h0 t, hb⟩
abbrev wset (w : WP α) : WP (Ctl α ρ) := wbind w fun a => wpure (.nx a)
abbrev wret (w : WP ρ) : WP (Ctl σ ρ) := wbind w fun r => wpure (.rt r)
end
end Pu

namespace Pu
open PySem PySem.Spec PyProof.Rows L2
/-! ### lists that are handed in and changed -/
section
variable {B : Ab → Prop} {XE : PEnv → Prop} {α β γ δ σ ρ : Type} {V V' V1 V2 : Ab → PEnv} {f : PM Opd} {e e1 : α → D} {e2 : β → D} {w : WP β} {RK : ρ → Opd → PEnv → Prop}
def mn3 (i j k : Int) : Int := if k < (if j < i then j else i) then k else if j < i then j else i
abbrev a3 (f g h : PM Opd) : PM (List Opd) := bnd (opn f) fun o => bnd (a2 g h) fun os => ret (o :: os)
theorem kos3 {d d' d2 : D} {o o' o2 : Opd} (h : kO V d o) (h' : kO V d' o') (h2 : kO V d2 o2) : kOs V [d, d', d2] [o, o', o2] := fun t => by
  show bnd (rsv o) _ (V t) = _
  unfold bnd
  rw [h t]
  show bnd (rsvs [o', o2]) _ (V t) = _
  unfold bnd
  rw [kos2 h' h2 t]
  rfl
theorem j_min3 {fa fb fc : PM Opd} {wa wb wc : WP Int} (ha : JO B XE fa eI wa V) (hb : JO B XE fb eI wb V) (hc : JO B XE fc eI wc V) : J B XE (eBi gMin3 (a3 fa fb fc)) (kV eI) (wbind wa fun a => wbind wb fun b => wbind wc fun c => wpure (mn3 a b c)) V V := by
  have hb2 : J B XE (a2 fb fc) (fun (p : Int × Int) os => ∃ o o', os = [o, o'] ∧ kO V (eI p.1) o ∧ kO V (eI p.2) o') (wbind wb fun b => wbind wc fun c => wpure (b, c)) V V :=
    jbnd hb fun b y ky => jbnd (jbnd hc (K2 := fun c os => ∃ o, os = [o] ∧ kO V (eI c) o) (w2 := wpure) fun c z kz => jup (jpbndP (jp_ret (K := fun os => os = []) rfl) fun os eo => jp_ret ⟨z, by rw [eo], kz⟩)) fun c os ⟨o, eo, ko⟩ => jup (jp_ret (by subst eo; exact ⟨y, o, rfl, ky, ko⟩))
  have h : J B XE (a3 fa fb fc) (fun (p : Int × Int × Int) os => kOs V [eI p.1, eI p.2.1, eI p.2.2] os) (wbind wa fun a => wbind (wbind wb fun b => wbind wc fun c => wpure (b, c)) fun p => wpure (a, p)) V V :=
    jbnd ha fun a x kx => jbnd hb2 fun p os h => by
      obtain ⟨o, o', eo, k1, k2⟩ := h
      subst eo
      exact jup (jp_ret (kos3 kx k1 k2))
  have h9 : J B XE (eBi gMin3 (a3 fa fb fc)) (kV eI) (wbind (wbind wa fun a => wbind (wbind wb fun b => wbind wc fun c => wpure (b, c)) fun p => wpure (a, p)) fun p => wpure (mn3 p.1 p.2.1 p.2.2)) V V :=
    jbnd h fun p os ko => j_biOs (g := gMin3) ko fun Q E q => ⟨.val (.int (mn3 p.1 p.2.1 p.2.2)), mn3 p.1 p.2.1 p.2.2, rfl, rfl, q⟩
  exact h9
theorem bnd_ok {α β : Type} {m : PM α} {k : α → PM β} {a : α} {e e' : PEnv} (h : m e = .ok a e') : bnd m k e = k a e' := by
  unfold bnd
  rw [h]
theorem bnd_exc {α β : Type} {m : PM α} {k : α → PM β} {x : Exn} {e e' : PEnv} (h : m e = .exc x e') : bnd m k e = .exc x e' := by
  unfold bnd
  rw [h]
theorem bnd_bad {α β : Type} {m : PM α} {k : α → PM β} {e : PEnv} (h : m e = .bad) : bnd m k e = .bad := by
  unfold bnd
  rw [h]
/-- a handed-in list stands in slot i -/
theorem jop_fl {i : Nat} {xs : List α} (h : ∀ t, (V t)[i]? = some (some (.ab (.fl (xs.map e))))) : JOP B (eVar i) (eL e xs) V := by
  intro t ht
  refine ⟨.slot i, ?_, fun t => ?_⟩
  · rw [opn_split]
    unfold Pu.bnd eVar
    rw [h t]
    rfl
  · unfold rsv
    simp only [h t, eL]
    rfl
theorem js_putFl {i : Nat} {xs : List β} {fi : PM Opd} {wi : WP Int} {V' : List β → Ab → PEnv} (h0 : ∀ t, (V t)[i]? = some (some (.ab (.fl (xs.map e2))))) (hs : ∀ (ys : List β) t, (V t).set i (some (.ab (.fl (ys.map e2)))) = V' ys t) (h : JK B XE f e2 w V V) (hi : JO B XE fi eI wi V) :
    JS B XE RK (sPutFl i f fi) (wbind w fun a => wbind wi fun z Q E => ∃ k, ixN xs.length z = some k ∧ Q (.nx (xs.set k a))) V V' := by
  intro t Q E ht hw
  have h2 := h t _ E ht hw
  have l1 : ∀ t1, flX i (V t1) = .ok (xs.map e2) (V t1) := fun t1 => by
    unfold flX
    rw [ab_e (h0 t1)]
    rfl
  unfold sPutFl
  cases q : kept f (V t) with
  | ok d env =>
    rw [q] at h2
    obtain ⟨a, t1, k1, rfl, k3, k4⟩ := h2
    have k1 : d = e2 a := k1
    subst k1
    have h3 := hi t1 _ E k3 k4
    rw [bnd_ok q, bnd_ok (l1 t1)]
    cases q2 : opn fi (V t1) with
    | ok o env =>
      rw [q2] at h3
      obtain ⟨z, t2, m1, rfl, m3, k, m4, m5⟩ := h3
      have e5 : ixD (xs.map e2).length (eI z) = some k := by rw [List.length_map]; exact m4
      rw [bnd_ok q2, bnd_ok (m1 t2), bnd_ok (l1 t2), e5]
      rw [bnd_ok (show (lift (some k) : PM Nat) (V t2) = .ok k (V t2) from rfl)]
      rw [bnd_ok (show putS i (.ab (.fl ((xs.map e2).set k (e2 a)))) (V t2) = .ok () (V' (xs.set k a) t2) from by rw [← hs, List.map_set]; rfl)]
      exact ⟨xs.set k a, t2, rfl, m3, m5⟩
    | exc x env => rw [q2] at h3; rw [bnd_exc q2]; exact h3
    | bad => rw [q2] at h3; exact h3.elim
  | exc x env => rw [q] at h2; rw [bnd_exc q]; exact h2
  | bad => rw [q] at h2; exact h2.elim
/-! calls -/
def TRW (B : Ab → Prop) (r : FR × Ab × List D) (K : γ → Opd → Prop) (Q : γ × List Int → Prop) : Prop := match r with
  | (.ok o, t, ws) => ∃ b vs, K b o ∧ B t ∧ ws = vs.map eI ∧ Q (b, vs)
  | _ => False
def wnoE (m : WP α) : WP α := fun Q _ => m Q (fun _ => False)
def rkW (B : Ab → Prop) (i : Nat) (K : ρ → Opd → Prop) (r : ρ × List Int) (o : Opd) (e : PEnv) : Prop := ∃ o' t', finR [0, i] o e = .ok o' ∧ K r.1 o' ∧ e[0]? = some (some (.ab t')) ∧ B t' ∧ e[i]? = some (some (.ab (.fl (r.2.map eI))))
theorem tW {B : Ab → Prop} {K : ρ → Opd → Prop} {g : PM Out} {N i : Nat} {args : List D} {ws : List Int} {w : WP (Ctl Empty (ρ × List Int))} {V' : Empty → Ab → PEnv} (h : JS B (fun _ => True) (rkW B i K) g w (fun t => envOf N (.ab t :: (args.map .im ++ [.ab (.fl (ws.map eI))]))) V') :
    ∀ t Q E, B t → wnoE (wdone w) Q E → TRW B (runW N i g t args (ws.map eI)) K Q := by
  intro t Q E hb hw
  have h1 := h t _ _ hb hw
  unfold runW
  cases q : g (envOf N (.ab t :: (args.map .im ++ [.ab (.fl (ws.map eI))]))) with
  | ok o e =>
    rw [q] at h1
    cases o with
    | next => exact nomatch h1.choose
    | ret o =>
      obtain ⟨⟨r, vs⟩, ⟨o', t', e1, k, e2, b2, e3⟩, hq⟩ := h1
      show TRW B (fin2 e i t (ws.map eI) (finR [0, i] o e)) K Q
      unfold fin2
      rw [e2]
      simp only [e3, e1]
      exact ⟨r, vs, k, b2, rfl, hq⟩
    | brk => exact h1.elim
    | cont => exact h1.elim
  | exc x e => rw [q] at h1; exact h1.1.elim
  | bad => rw [q] at h1; exact h1.elim
theorem js_retW {V' : σ → Ab → PEnv} {i : Nat} {w : WP ρ} {ws : List Int} {e : ρ → D} (h0 : ∀ t, (V1 t)[0]? = some (some (.ab t))) (h1 : ∀ t, (V1 t)[i]? = some (some (.ab (.fl (ws.map eI))))) (h : J B XE f (kV e) w V V1) : JS B XE (rkW B i (kV e)) (sRet f) (wbind w fun r => wpure (.rt (r, ws))) V V' := by
  intro t Q E ht hw
  have h2 := h t _ E ht hw
  unfold sRet bnd
  cases q : f (V t) with
  | ok d env =>
    rw [q] at h2
    obtain ⟨a, t1, rfl, rfl, k3, k4⟩ := h2
    exact ⟨(a, ws), ⟨_, t1, rfl, rfl, h0 t1, k3, h1 t1⟩, k4⟩
  | exc x env => rw [q] at h2; exact h2
  | bad => rw [q] at h2; exact h2.elim
/-- arguments, the last of them a list that may change -/
abbrev kW (es : β → List D) (lo : β → Opd) (p : β) (r : List D × Opd) : Prop := r = (es p, lo p)
theorem jw_slot {k : Nat} {s : SV} (hn : ∀ d, s ≠ .im d) (h : ∀ t, (V t)[k]? = some (some s)) : J B XE (bnd (eVar k) fun o => ret ([], o)) (kW (fun _ : Unit => []) fun _ => .slot k) (wpure ()) V V := by
  intro t Q E ht hw
  have e : eVar k (V t) = .ok (.slot k) (V t) := by
    unfold eVar
    rw [h t]
    cases s with
    | im d => exact absurd rfl (hn d)
    | ls ds => rfl
    | ab t => rfl
  unfold bnd
  rw [e]
  exact ⟨(), t, rfl, rfl, ht, hw⟩
theorem jw_tmp {wx : WP (List Int)} (h : J B XE f (kT eI) wx V V1) : J B XE (bnd f fun o => ret ([], o)) (kW (fun _ => []) fun xs => .tmp (xs.map eI)) wx V V1 := by
  have h1 : J B XE (bnd f fun o => ret (([] : List D), o)) (kW (fun _ => []) fun xs => .tmp (xs.map eI)) (wbind wx fun xs => wpure xs) V V1 := jbnd h fun xs o k => by
    subst k
    exact jup (jp_ret rfl)
  exact h1
theorem jw_cons {fw : PM (List D × Opd)} {wa : WP α} {es : β → List D} {lo : β → Opd} (h : JK B XE f e1 wa V V1) (h2 : J B XE fw (kW es lo) w V1 V2) : J B XE (bnd (kept f) fun d => bnd fw fun r => ret (d :: r.1, r.2)) (kW (cc e1 es) fun p => lo p.2) (wbind wa fun a => wbind w fun b => wpure (a, b)) V V2 :=
  jbnd h fun a x ex => jbnd h2 fun b q eq => jup (jp_ret (by subst ex; subst eq; rfl))
/-- the list is a new one -/
theorem jc_Wt {i : Nat} {F : Ab → List D → List D → FR × Ab × List D} {fw : PM (List D × Opd)} {es : β → List D} {lo : β → List Int} {K : γ → Opd → Prop} {wf : β → WP (γ × List Int)} (h0 : ∀ t, (V t)[i]? = some (some (.ab t))) (h1 : ∀ t, (V1 t)[i]? = some (some (.ab t))) (h2 : ∀ t t', (V1 t).set i (some (.ab t')) = V1 t') (hF : ∀ b t Q E, B t → wf b Q E → TRW B (F t (es b) ((lo b).map eI)) K Q) (h : J B XE fw (kW es fun b => .tmp ((lo b).map eI)) w V V1) :
    J B XE (eCallW i F fw) K (wbind w fun b => wbind (wf b) fun r => wpure r.1) V V1 :=
  j_ab0 h0 (jbnd h fun b r er => by
    subst er
    intro t Q E ht hw
    have hf := hF b t _ E ht hw
    rw [ab_e (h1 t)]
    have e0 : endW i (.tmp ((lo b).map eI)) (F t (es b)) = (match F t (es b) ((lo b).map eI) with
      | (.ok r, t', _) => bnd (putS i (.ab t')) fun _ => ret r
      | _ => oops) := rfl
    simp only [e0]
    revert hf
    generalize F t (es b) ((lo b).map eI) = z
    intro hf
    obtain ⟨r, t', ws⟩ := z
    cases r with
    | ok o =>
      obtain ⟨c, vs, k, hb, _, hq⟩ := hf
      simp only
      rw [bnd_ok (show putS i (.ab t') (V1 t) = .ok () (V1 t') from by unfold putS; rw [h2])]
      exact ⟨c, t', k, rfl, hb, hq⟩
    | exc x => exact hf.elim
    | bad => exact hf.elim)
/-- y.append(f(.., x)) with an owned or handed-in list x in slot k, that changes -/
theorem js_appW {i j k : Nat} {F : Ab → List D → List D → FR × Ab × List D} {fw : PM (List D × Opd)} {es : β → List D} {ws : List Int} {sv : List Int → SV} {ys : List γ} {e3 : γ → D} {wf : β → WP (γ × List Int)} {V' : List γ × List Int → Ab → PEnv}
    (hk : i ≠ k) (hsv : sv = (fun vs => .ls (vs.map eI)) ∨ sv = (fun vs => .ab (.fl (vs.map eI))))
    (y0 : ∀ t, (V t)[j]? = some (some (.ls (ys.map e3)))) (h0 : ∀ t, (V t)[i]? = some (some (.ab t))) (h1 : ∀ t, (V1 t)[i]? = some (some (.ab t))) (h2 : ∀ t t', (V1 t).set i (some (.ab t')) = V1 t') (hw0 : ∀ t, (V1 t)[k]? = some (some (sv ws)))
    (y1 : ∀ t (vs : List Int), ((V1 t).set k (some (sv vs)))[j]? = some (some (.ls (ys.map e3)))) (hs : ∀ (p : List γ × List Int) t, ((V1 t).set k (some (sv p.2))).set j (some (.ls (p.1.map e3))) = V' p t)
    (hF : ∀ b t Q E, B t → wf b Q E → TRW B (F t (es b) (ws.map eI)) (kV e3) Q) (h : J B XE fw (kW es fun _ => .slot k) w V V1) :
    JS B XE RK (sExpr (eApp j (eCallW i F fw))) (wbind w fun b => wbind (wf b) fun r Q E => ys.length < bigLine ∧ Q (.nx (ys ++ [r.1], r.2))) V V' := by
  have hc : ∀ t Q E, B t → wbind w (fun b => wf b) Q E → match kept (eCallW i F fw) (V t) with
      | .ok d env => ∃ (r : γ × List Int) (t' : Ab), d = e3 r.1 ∧ env = (V1 t').set k (some (sv r.2)) ∧ B t' ∧ Q r
      | .exc x env => E x ∧ XE env
      | .bad => False := by
    intro t Q E ht hw
    have h3 := h t _ E ht hw
    unfold kept eCallW
    simp only [bnd]
    have a0 : abAtE i (V t) = .ok t (V t) := by unfold abAtE; rw [h0 t]
    simp only [a0]
    cases q : fw (V t) with
    | ok r env =>
      rw [q] at h3
      obtain ⟨b, t1, er, rfl, k3, k4⟩ := h3
      have er : r = (es b, .slot k) := er
      subst er
      have a1 : abAtE i (V1 t1) = .ok t1 (V1 t1) := by unfold abAtE; rw [h1 t1]
      simp only [a1]
      have hf := hF b t1 _ E k3 k4
      have wa : wAt k (V1 t1) = .ok (ws.map eI) (V1 t1) := by
        unfold wAt
        rw [hw0 t1]
        rcases hsv with rfl | rfl <;> rfl
      unfold endW
      simp only [if_neg hk, bnd, wa]
      revert hf
      generalize F t1 (es b) (ws.map eI) = z
      intro hf
      obtain ⟨r, t', ws'⟩ := z
      cases r with
      | ok o =>
        obtain ⟨c, vs, kc, hb, rfl, hq⟩ := hf
        have kc : o = .val (e3 c) := kc
        subst kc
        have wp : wPut k (vs.map eI) (V1 t') = .ok () ((V1 t').set k (some (sv vs))) := by
          unfold wPut
          rw [hw0 t']
          rcases hsv with rfl | rfl <;> rfl
        simp only [putS, h2, bnd, wp, ret, frz]
        exact ⟨(c, vs), t', rfl, rfl, hb, hq⟩
      | exc x => exact hf.elim
      | bad => exact hf.elim
    | exc x env => rw [q] at h3; exact h3
    | bad => rw [q] at h3; exact h3.elim
  intro t Q E ht hw
  have h4 := hc t _ E ht hw
  unfold sExpr eApp
  have l0 : lsAt j (V t) = .ok (ys.map e3) (V t) := by unfold lsAt; rw [y0 t]
  simp only [bnd, l0]
  cases q : kept (eCallW i F fw) (V t) with
  | ok d env =>
    rw [q] at h4
    obtain ⟨r, t', rfl, rfl, k3, k4, k5⟩ := h4
    have l1 : lsAt j ((V1 t').set k (some (sv r.2))) = .ok (ys.map e3) ((V1 t').set k (some (sv r.2))) := by unfold lsAt; rw [y1]
    have hl : (ys.map e3).length < bigLine := by rw [List.length_map]; exact k4
    have hm : ys.map e3 ++ [e3 r.1] = (ys ++ [r.1]).map e3 := by simp
    simp only [l1, if_pos hl, putS, ret, hm]
    exact ⟨_, t', hs (ys ++ [r.1], r.2) t', k3, k5⟩
  | exc x env => rw [q] at h4; exact h4
  | bad => rw [q] at h4; exact h4.elim
end
end Pu
namespace Pu
open PySem PySem.Spec PyProof.Rows L2
theorem trw_some {B : Ab → Prop} {γ : Type} {e : γ → D} {w : WP (γ × List Int)} {F : Ab → List D → List D → FR × Ab × List D} {ds ws : List D} (h : ∀ t Q E, B t → w Q E → TRW B (F t ds ws) (kV e) Q) : ∀ t Q E, B t → wbind w (fun r => wpure (some r.1, r.2)) Q E → TRW B (F t ds ws) (kV (eO e)) Q := by
  intro t Q E hb hw
  have h1 := h t _ E hb hw
  revert h1
  generalize F t ds ws = z
  intro h1
  obtain ⟨r, t', ws'⟩ := z
  cases r with
  | ok o =>
    obtain ⟨b, vs, k, h2, h3, h4⟩ := h1
    exact ⟨some b, vs, k, h2, h3, h4⟩
  | exc x => exact h1.elim
  | bad => exact h1.elim
end Pu

namespace Pu
open PySem PySem.Spec PyProof.Rows L2
/-! ### reckoning with wishes -/
section
variable {α β γ σ τ ρ : Type} {Q : α → Prop} {E : EP}
theorem bgl {n : Nat} (h : n ≤ 1000000) : n ≤ bigLine := by unfold bigLine; omega
theorem bgt {n : Nat} (h : n < 1000000) : n < bigLine := by unfold bigLine; omega
theorem wlcs_any {wt : α → WP Bool} {wf : α → WP β} {P : β → Prop} : ∀ (xs : List α) (Q : List β → Prop), (∀ x ∈ xs, ∀ (R : β → Prop) (R0 : Prop), (∀ y, P y → R y) → R0 → wt x (fun k => if k = true then wf x R (fun _ => False) else R0) (fun _ => False)) → (∀ ys, ys.length ≤ xs.length → (∀ y ∈ ys, P y) → Q ys) → wlcs wt wf xs Q
  | [], Q, _, q => q [] (Nat.le_refl _) fun _ h => (nomatch h)
  | x :: xs, Q, h, q => h x (List.mem_cons_self ..) _ _ (fun y hy => wlcs_any xs _ (fun z hz => h z (List.mem_cons_of_mem _ hz)) fun ys hl hp => q (y :: ys) (by simp; omega) fun z hz => by
      rcases List.mem_cons.mp hz with rfl | hz
      · exact hy
      · exact hp z hz) (wlcs_any xs _ (fun z hz => h z (List.mem_cons_of_mem _ hz)) fun ys hl hp => q ys (by simp; omega) hp)
theorem wlc_any {wt : α → WP Bool} {wf : α → WP β} (P : β → Prop) {xs : List α} {Q : List β → Prop} (hl : xs.length ≤ bigLine) (h : ∀ x ∈ xs, ∀ (R : β → Prop) (R0 : Prop), (∀ y, P y → R y) → R0 → wt x (fun k => if k = true then wf x R (fun _ => False) else R0) (fun _ => False)) (q : ∀ ys, ys.length ≤ xs.length → (∀ y ∈ ys, P y) → Q ys) : wlc wt wf xs Q E := ⟨hl, wlcs_any xs Q h q⟩
/-- one for each -/
inductive Each (P : α → β → Prop) : List α → List β → Prop where
  | nil : Each P [] []
  | cons {x y xs ys} : P x y → Each P xs ys → Each P (x :: xs) (y :: ys)
theorem Each.len {P : α → β → Prop} {xs : List α} {ys : List β} (h : Each P xs ys) : ys.length = xs.length := by
  induction h with
  | nil => rfl
  | cons _ _ ih => simp [ih]
theorem Each.all {P : α → β → Prop} {R : β → Prop} {xs : List α} {ys : List β} (h : Each P xs ys) (k : ∀ x ∈ xs, ∀ y, P x y → R y) : ∀ y ∈ ys, R y := by
  induction h with
  | nil => exact fun _ h => nomatch h
  | cons hp _ ih =>
    intro z hz
    rcases List.mem_cons.mp hz with rfl | hz
    · exact k _ (List.mem_cons_self ..) _ hp
    · exact ih (fun x hx => k x (List.mem_cons_of_mem _ hx)) z hz
theorem wlcs_all {wf : α → WP β} {P : α → β → Prop} : ∀ (xs : List α) (Q : List β → Prop), (∀ x ∈ xs, ∀ (R : β → Prop), (∀ y, P x y → R y) → wf x R (fun _ => False)) → (∀ ys, Each P xs ys → Q ys) → wlcs (fun _ => wpure true) wf xs Q
  | [], Q, _, q => q [] .nil
  | x :: xs, Q, h, q => by
    show wf x _ _
    exact h x (List.mem_cons_self ..) _ fun y hy => wlcs_all xs _ (fun z hz => h z (List.mem_cons_of_mem _ hz)) fun ys hp => q (y :: ys) (.cons hy hp)
theorem wlc_all {wf : α → WP β} (P : α → β → Prop) {xs : List α} {Q : List β → Prop} (hl : xs.length ≤ bigLine) (h : ∀ x ∈ xs, ∀ (R : β → Prop), (∀ y, P x y → R y) → wf x R (fun _ => False)) (q : ∀ ys, Each P xs ys → Q ys) : wlc (fun _ => wpure true) wf xs Q E := ⟨hl, wlcs_all xs Q h q⟩
theorem wlcs_pure {wt : α → WP Bool} {wf : α → WP β} {p : α → Bool} {f : α → β} : ∀ (xs : List α) (Q : List β → Prop), (∀ x ∈ xs, ∀ (R : Bool → Prop), R (p x) → wt x R (fun _ => False)) → (∀ x ∈ xs, p x = true → ∀ (R : β → Prop), R (f x) → wf x R (fun _ => False)) → Q ((xs.filter p).map f) → wlcs wt wf xs Q
  | [], Q, _, _, q => q
  | x :: xs, Q, h, h', q => by
    have ih := wlcs_pure (wt := wt) (wf := wf) (p := p) (f := f) xs
    refine h x (List.mem_cons_self ..) _ ?_
    cases hp : p x with
    | false =>
      rw [if_neg Bool.false_ne_true]
      refine ih _ (fun z hz => h z (List.mem_cons_of_mem _ hz)) (fun z hz => h' z (List.mem_cons_of_mem _ hz)) ?_
      rwa [List.filter_cons_of_neg (by simp [hp])] at q
    | true =>
      rw [if_pos rfl]
      refine h' x (List.mem_cons_self ..) hp _ (ih _ (fun z hz => h z (List.mem_cons_of_mem _ hz)) (fun z hz => h' z (List.mem_cons_of_mem _ hz)) ?_)
      rwa [List.filter_cons_of_pos hp, List.map_cons] at q
theorem wlc_pure {wt : α → WP Bool} {wf : α → WP β} (p : α → Bool) (f : α → β) {xs : List α} {Q : List β → Prop} (hl : xs.length ≤ bigLine) (h : ∀ x ∈ xs, ∀ (R : Bool → Prop), R (p x) → wt x R (fun _ => False)) (h' : ∀ x ∈ xs, p x = true → ∀ (R : β → Prop), R (f x) → wf x R (fun _ => False)) (q : Q ((xs.filter p).map f)) : wlc wt wf xs Q E := ⟨hl, wlcs_pure xs Q h h' q⟩
/-- tests that are reckoned, items that are reckoned -/
theorem wlc_pp {p : α → Bool} {f : α → β} {xs : List α} {Q : List β → Prop} (hl : xs.length ≤ bigLine) (q : Q ((xs.filter p).map f)) : wlc (fun x => wpure (p x)) (fun x => wpure (f x)) xs Q E := wlc_pure p f hl (fun _ _ _ r => r) (fun _ _ _ _ r => r) q
theorem wlc_tp {f : α → β} {xs : List α} {Q : List β → Prop} (hl : xs.length ≤ bigLine) (q : Q (xs.map f)) : wlc (fun _ => wpure true) (fun x => wpure (f x)) xs Q E := wlc_pure (fun _ => true) f hl (fun _ _ _ r => r) (fun _ _ _ _ r => r) (by rwa [List.filter_eq_self.mpr fun _ _ => rfl])
/-- loops: what holds of the items left and the state -/
theorem wfor_inv {b : α → σ → WP (Ctl σ ρ)} (Iv : List α → σ → Prop) (R : ρ → Prop) {Q : Ctl σ ρ → Prop} : ∀ (xs : List α) (s : σ), Iv xs s → (∀ x xs s (Q : Ctl σ ρ → Prop), Iv (x :: xs) s → (∀ s', Iv xs s' → Q (.nx s')) → (∀ r, R r → Q (.rt r)) → b x s Q E) → (∀ s, Iv [] s → Q (.nx s)) → (∀ r, R r → Q (.rt r)) → wfor b xs s Q E
  | [], s, h0, _, he, _ => he s h0
  | x :: xs, s, h0, hs, he, hr => hs x xs s _ h0 (fun s' h => wfor_inv Iv R xs s' h hs he hr) fun r h => hr r h
/-- loops that always go on -/
theorem wfor_go {b : α → σ → WP (Ctl σ ρ)} (Iv : List α → σ → Prop) {Q : Ctl σ ρ → Prop} (xs : List α) (s : σ) (h0 : Iv xs s) (hs : ∀ x xs s (Q : Ctl σ ρ → Prop), Iv (x :: xs) s → (∀ s', Iv xs s' → Q (.nx s')) → b x s Q E) (he : ∀ s, Iv [] s → Q (.nx s)) : wfor b xs s Q E :=
  wfor_inv Iv (fun _ => False) xs s h0 (fun x xs s Q h q _ => hs x xs s Q h q) he fun _ h => h.elim
/-- loops that change nothing -/
theorem wfor_same {b : α → σ → WP (Ctl σ ρ)} {Q : Ctl σ ρ → Prop} : ∀ (xs : List α) (s : σ), (∀ x ∈ xs, ∀ (Q : Ctl σ ρ → Prop), Q (.nx s) → b x s Q E) → Q (.nx s) → wfor b xs s Q E
  | [], s, _, q => q
  | x :: xs, s, h, q => h x (List.mem_cons_self ..) _ (wfor_same xs s (fun y hy => h y (List.mem_cons_of_mem _ hy)) q)
theorem wwhile_inv {c : σ → WP Bool} {b : σ → WP (Ctl σ ρ)} (Iv : σ → Prop) (m : σ → Nat) (R : ρ → Prop) {Q : Ctl σ ρ → Prop} (hstep : ∀ s (Q : Ctl σ ρ → Prop), Iv s → (∀ s', Iv s' → m s' < m s → Q (.nx s')) → (∀ r, R r → Q (.rt r)) → ∀ Q0 : Prop, (Q0) → c s (fun k => if k = true then b s Q E else True) E) : True := trivial
theorem wwhile_go {c : σ → WP Bool} {b : σ → WP (Ctl σ ρ)} (Iv : σ → Prop) (m : σ → Nat) (t : σ → Bool) {Q : Ctl σ ρ → Prop} (hc : ∀ s, Iv s → ∀ (R : Bool → Prop), R (t s) → c s R E) (hb : ∀ s (Q : Ctl σ ρ → Prop), Iv s → t s = true → (∀ s', Iv s' → m s' < m s → Q (.nx s')) → b s Q E) (he : ∀ s, Iv s → t s = false → Q (.nx s)) :
    ∀ (n : Nat) (s : σ), Iv s → m s < n → wwhile c b n s Q E
  | 0, s, _, h => absurd h (Nat.not_lt_zero _)
  | n + 1, s, hi, hm => by
    show c s _ E
    refine hc s hi _ ?_
    cases ht : t s with
    | false =>
      rw [if_neg Bool.false_ne_true]
      exact he s hi ht
    | true =>
      rw [if_pos rfl]
      exact hb s _ hi ht fun s' h1 h2 => wwhile_go Iv m t hc hb he n s' h1 (by omega)
/-! ranges -/
theorem mem_rngL {lo x : Int} {n : Nat} : x ∈ rngL lo n ↔ lo ≤ x ∧ x < lo + n := by
  unfold rngL
  simp only [List.mem_map, List.mem_range]
  constructor
  · rintro ⟨i, h, rfl⟩
    omega
  · rintro ⟨h1, h2⟩
    exact ⟨(x - lo).toNat, by omega, by omega⟩
theorem len_rngL {lo : Int} {n : Nat} : (rngL lo n).length = n := by simp [rngL]
theorem k_rng1 {n : Int} {Q : List Int → Prop} (h : n ≤ 1000000) (h0 : -1000000 ≤ n) (q : Q (rngL 0 n.toNat)) : wrng1 n Q E := ⟨by show n.natAbs < 4611686018427387904; omega, q⟩
theorem k_rng2 {a b : Int} {Q : List Int → Prop} (h : a.natAbs ≤ 1000000) (h' : b.natAbs ≤ 1000000) (q : Q (rngL a (b - a).toNat)) : wrng2 a b Q E := ⟨⟨by show a.natAbs < 4611686018427387904; omega, by show b.natAbs < 4611686018427387904; omega⟩, q⟩
/-! items -/
theorem atI_get {xs : List α} {i : Int} (h0 : 0 ≤ i) (h : i < xs.length) : ∃ a, atI xs i = some a ∧ xs[i.toNat]? = some a ∧ a ∈ xs := by
  have hn : i.toNat < xs.length := by omega
  have e : xs[i.toNat]? = some xs[i.toNat] := List.getElem?_eq_getElem hn
  have e2 := atI_nat e
  rw [Int.toNat_of_nonneg h0] at e2
  exact ⟨_, e2, e, List.getElem_mem hn⟩
theorem k_ix {xs : List α} {i : Int} {Q : α → Prop} (h0 : 0 ≤ i) (h : i < xs.length) (q : ∀ a, xs[i.toNat]? = some a → a ∈ xs → Q a) : wix xs i Q E := by
  obtain ⟨a, h1, h2, h3⟩ := atI_get h0 h
  exact ⟨a, h1, q a h2 h3⟩
theorem k_ixv {xs : List α} {i : Int} {a : α} {Q : α → Prop} (h0 : 0 ≤ i) (h : xs[i.toNat]? = some a) (q : Q a) : wix xs i Q E := by
  have e2 := atI_nat h
  rw [Int.toNat_of_nonneg h0] at e2
  exact ⟨a, e2, q⟩
theorem ixN_ok2 {n : Nat} {z : Int} (h0 : 0 ≤ z) (h : z < n) : ixN n z = some z.toNat := by
  unfold ixN
  rw [if_pos h0, if_pos h]
theorem k_cat {xs ys : List α} {Q : List α → Prop} (h : xs.length + ys.length ≤ 1000000) (q : Q (xs ++ ys)) : wcat xs ys Q E := ⟨by unfold bigLine; omega, q⟩
theorem popIx_ok2 {n j : Nat} (h : j < n) (hn : n ≤ 1000000) : popIx n (.int (j : Nat)) = some j := by
  unfold popIx
  simp only
  have hi : inLine ((j : Nat) : Int) = true := by
    show decide (((j : Nat) : Int).natAbs < 4611686018427387904) = true
    exact decide_eq_true (by omega)
  rw [if_pos hi]
  exact StrLaws.seqIndex_nonneg (by omega) (by omega)
theorem erase_perm2 : ∀ (xs : List α) (j : Nat) (x : α), xs[j]? = some x → (x :: xs.eraseIdx j).Perm xs
  | [], j, x, h => by simp at h
  | y :: ys, 0, x, h => by
    have : y = x := by simpa using h
    subst this
    exact List.Perm.refl _
  | y :: ys, j + 1, x, h => by
    have ih := erase_perm2 ys j x (by simpa using h)
    rw [List.eraseIdx_cons_succ]
    exact (List.Perm.swap y x _).trans (ih.cons y)
theorem cutL_take {xs : List α} {m : Int} (h : 0 ≤ m) : cutL xs none (some m) = xs.take m.toNat := by
  unfold cutL
  have h1 : HT.sIx xs.length 0 none = 0 := rfl
  have h2 : HT.sIx xs.length xs.length (some m) = min m.toNat xs.length := by
    show (if m < 0 then (m + (xs.length : Int)).toNat else min m.toNat xs.length) = _
    rw [if_neg (by omega)]
  rw [h1, h2, List.drop_zero, Nat.sub_zero]
  by_cases c : m.toNat ≤ xs.length
  · rw [Nat.min_eq_left c]
  · rw [Nat.min_eq_right (by omega), List.take_length, List.take_of_length_le (by omega)]
theorem cutL_drop {xs : List α} {m : Int} (h : 0 ≤ m) : cutL xs (some m) none = xs.drop m.toNat := by
  unfold cutL
  have h2 : HT.sIx xs.length 0 (some m) = min m.toNat xs.length := by
    show (if m < 0 then (m + (xs.length : Int)).toNat else min m.toNat xs.length) = _
    rw [if_neg (by omega)]
  have h1 : HT.sIx xs.length xs.length none = xs.length := rfl
  rw [h1, h2]
  by_cases c : m.toNat ≤ xs.length
  · rw [Nat.min_eq_left c, List.take_of_length_le (by rw [List.length_drop]; omega)]
  · rw [Nat.min_eq_right (by omega), List.drop_length, List.drop_of_length_le (by omega), List.take_nil]
end
/-! ### what a list is compared with -/
theorem gEq_nilD {neg : Bool} {ds : List D} (h1 : PyData.canLayAll0 ds = true) (h2 : PyData.depthAll ds ≤ 63) : gEq neg (.list ds) (.list []) = some (.val (.bool (if neg = true then !decide (ds = []) else decide (ds = [])))) ∧ gEq neg (.tuple ds) (.tuple []) = some (.val (.bool (if neg = true then !decide (ds = []) else decide (ds = [])))) := by
  have s0 : SeqAt.shaped (.list []) = true := rfl
  have s1 : SeqAt.shaped (.tuple []) = true := rfl
  have k1 : SeqAt.shaped (.list ds) = true := by
    show ((PyData.list ds).canLay0 && decide ((PyData.list ds).depth ≤ 64)) = true
    have : (PyData.list ds).depth ≤ 64 := by simp only [PyData.depth]; omega
    rw [decide_eq_true this]
    simp only [PyData.canLay0, h1, Bool.and_self]
  have k2 : SeqAt.shaped (.tuple ds) = true := by
    show ((PyData.tuple ds).canLay0 && decide ((PyData.tuple ds).depth ≤ 64)) = true
    have : (PyData.tuple ds).depth ≤ 64 := by simp only [PyData.depth]; omega
    rw [decide_eq_true this]
    simp only [PyData.canLay0, h1, Bool.and_self]
  have e1 : PyData.eqv (.list ds) (.list []) = decide (ds = []) := by
    cases ds <;> simp [PyData.eqv, PyData.eqvAll]
  have e2 : PyData.eqv (.tuple ds) (.tuple []) = decide (ds = []) := by
    cases ds <;> simp [PyData.eqv, PyData.eqvAll]
  constructor
  · unfold gEq
    have : strPair (.list ds) (.list []) = none := rfl
    rw [this]
    simp only [k1, s0, e1, and_self, if_true]
  · unfold gEq
    have : strPair (.tuple ds) (.tuple []) = none := rfl
    rw [this]
    simp only [k2, s1, e2, and_self, if_true]
/-- data that can be compared: laid out, not too deep -/
structure Ly (k : Nat) (d : D) : Prop where
  lay : d.canLay0 = true
  dp : d.depth ≤ k
theorem ly_all {k : Nat} {ds : List D} (h : ∀ d ∈ ds, Ly k d) : PyData.canLayAll0 ds = true ∧ PyData.depthAll ds ≤ k := by
  induction ds with
  | nil => exact ⟨by simp only [PyData.canLayAll0], by simp [PyData.depthAll]⟩
  | cons d ds ih =>
    obtain ⟨i1, i2⟩ := ih fun x hx => h x (List.mem_cons_of_mem _ hx)
    have hd := h d (List.mem_cons_self ..)
    exact ⟨by simp only [PyData.canLayAll0, hd.lay, i1, Bool.and_self], by simp only [PyData.depthAll]; exact Nat.max_le.mpr ⟨hd.dp, i2⟩⟩
theorem k_nilL {α β : Type} {e : α → D} {e' : β → D} {xs : List α} {k : Nat} {E : EP} {Q : Bool → Prop} {neg : Bool} (h : ∀ x ∈ xs, Ly k (e x)) (hk : k ≤ 63) (q : Q (if neg = true then !xs.isEmpty else xs.isEmpty)) : weq (eL e) (eL e') neg xs [] Q E := by
  obtain ⟨h1, h2⟩ := ly_all (ds := xs.map e) fun d hd => by
    obtain ⟨x, hx, rfl⟩ := List.mem_map.mp hd
    exact h x hx
  have h3 := (gEq_nilD (neg := neg) h1 (by omega)).1
  refine ⟨_, h3, ?_⟩
  cases xs <;> cases neg <;> simpa using q
theorem k_nilT {α β : Type} {e : α → D} {e' : β → D} {xs : List α} {k : Nat} {E : EP} {Q : Bool → Prop} {neg : Bool} (h : ∀ x ∈ xs, Ly k (e x)) (hk : k ≤ 63) (q : Q (if neg = true then !xs.isEmpty else xs.isEmpty)) : weq (eT e) (eT e') neg xs [] Q E := by
  obtain ⟨h1, h2⟩ := ly_all (ds := xs.map e) fun d hd => by
    obtain ⟨x, hx, rfl⟩ := List.mem_map.mp hd
    exact h x hx
  have h3 := (gEq_nilD (neg := neg) h1 (by omega)).2
  refine ⟨_, h3, ?_⟩
  cases xs <;> cases neg <;> simpa using q
/-! ### sorted numbers -/
theorem sortD_ints (xs : List Int) : sortD (xs.map eI) = (srtI xs).map eI := by
  unfold sortD srtI
  rw [← List.map_mergeSort (r := fun x y => decide (x ≤ y))]
  intro a _ b _
  have h := congrFun (congrFun (PySem.W.dataLe_int (β := Int) (fun p => p)) a) b
  exact h.symm
theorem sortOk_ints {xs : List Int} (h : xs.length ≤ 100000) : sortOk (xs.map eI) = true := by
  unfold sortOk
  rw [Bool.and_eq_true, Bool.and_eq_true, Bool.and_eq_true, Bool.or_eq_true]
  refine ⟨⟨⟨List.all_eq_true.mpr fun d hd => List.all_eq_true.mpr fun d' hd' => ?_, .inr (List.all_eq_true.mpr fun d hd => ?_)⟩, List.all_eq_true.mpr fun d hd => ?_⟩, ?_⟩
  · obtain ⟨p, _, rfl⟩ := List.mem_map.mp hd
    obtain ⟨q, _, rfl⟩ := List.mem_map.mp hd'
    simp [PySem.W.alike]
  · obtain ⟨p, _, rfl⟩ := List.mem_map.mp hd
    rfl
  · obtain ⟨p, _, rfl⟩ := List.mem_map.mp hd
    simp [PyData.depth]
  · rw [List.length_map]
    refine decide_eq_true ?_
    unfold bigLine
    omega
theorem srtI_perm (xs : List Int) : (srtI xs).Perm xs := List.mergeSort_perm xs _
theorem srtI_le (xs : List Int) : (srtI xs).Pairwise (· ≤ ·) := by
  have h := List.pairwise_mergeSort (le := fun (x y : Int) => decide (x ≤ y)) (fun a b c h1 h2 => by simp only [decide_eq_true_eq] at *; omega) (fun a b => by simp only [Bool.or_eq_true, decide_eq_true_eq]; omega) xs
  exact h.imp fun h => by simpa using h
theorem k_sortI {xs : List Int} {E : EP} {Q : List Int → Prop} (h : xs.length ≤ 100000) (q : Q (srtI xs)) : wsort eI xs Q E := ⟨sortOk_ints h, srtI xs, sortD_ints xs, q⟩
end Pu
namespace Pu
/-- a run is known by what it leads to -/
theorem w_post {α : Type} {w : WP α} {E : EP} {Q : α → Prop} (P : α → Prop) (h : ∀ Q : α → Prop, (∀ a, P a → Q a) → w Q E) (q : ∀ a, P a → Q a) : w Q E := h Q q
theorem w_nx {σ ρ : Type} {w : WP (Ctl σ ρ)} {E : EP} {Q : Ctl σ ρ → Prop} (P : σ → Prop) (h : ∀ Q : Ctl σ ρ → Prop, (∀ s, P s → Q (.nx s)) → w Q E) (q : ∀ s, P s → Q (.nx s)) : w Q E := h Q q
end Pu

namespace Pu
open PySem PySem.Spec PyProof.Rows L2
/-! ### all, any, sum, max, min of a list -/
def boolsD : List D → Option (List Bool)
  | [] => some []
  | .bool b :: ds => (boolsD ds).map (b :: ·)
  | _ :: _ => none
def numsD : List D → Option (List Int)
  | [] => some []
  | .int i :: ds => (numsD ds).map (i :: ·)
  | _ :: _ => none
theorem boolsD_ok {K : PySem.W.Frag} {F : Hp} : ∀ {ds : List D} {bs : List Bool} {xs : List V}, boolsD ds = some bs → Dens K F ds xs → xs = bs.map V.bl
  | [], bs, xs, h, hx => by
    cases h
    have : xs = [] := by simpa only [Dens] using hx
    rw [this]
    rfl
  | d :: ds, bs, xs, h, hx => by
    simp only [Dens] at hx
    obtain ⟨v, r, rfl, h1, h2⟩ := hx
    cases d with
    | bool b =>
      simp only [boolsD] at h
      cases e : boolsD ds with
      | none => rw [e] at h; cases h
      | some cs =>
        rw [e] at h
        cases h
        have h1' : v = .bl b := by simpa only [Den] using h1
        rw [h1', boolsD_ok e h2]
        rfl
    | _ => cases h
theorem numsD_ok {K : PySem.W.Frag} {F : Hp} : ∀ {ds : List D} {bs : List Int} {xs : List V}, numsD ds = some bs → Dens K F ds xs → xs = bs.map V.int
  | [], bs, xs, h, hx => by
    cases h
    have : xs = [] := by simpa only [Dens] using hx
    rw [this]
    rfl
  | d :: ds, bs, xs, h, hx => by
    simp only [Dens] at hx
    obtain ⟨v, r, rfl, h1, h2⟩ := hx
    cases d with
    | int b =>
      simp only [numsD] at h
      cases e : numsD ds with
      | none => rw [e] at h; cases h
      | some cs =>
        rw [e] at h
        cases h
        have h1' : v = .int b := by simpa only [Den] using h1
        rw [h1', numsD_ok e h2]
        rfl
    | _ => cases h
def gAll : List D → Option Opd
  | [.list ds] => (boolsD ds).map fun bs => .val (.bool (bs.all id))
  | _ => none
def gAny : List D → Option Opd
  | [.list ds] => (boolsD ds).map fun bs => .val (.bool (bs.any id))
  | _ => none
def gSum : List D → Option Opd
  | [.list ds] => (numsD ds).map fun bs => .val (.int bs.sum)
  | _ => none
def mxL : List Int → Int
  | [] => 0
  | x :: xs => xs.foldl max x
def mnL : List Int → Int
  | [] => 0
  | x :: xs => xs.foldl min x
theorem foldl_max : ∀ (xs : List Int) (x : Int), xs.foldl max x ∈ x :: xs ∧ ∀ y ∈ x :: xs, y ≤ xs.foldl max x
  | [], x => by simp
  | z :: xs, x => by
    obtain ⟨h1, h2⟩ := foldl_max xs (max x z)
    constructor
    · rw [List.foldl_cons]
      rcases List.mem_cons.mp h1 with h | h
      · rw [h]
        by_cases c : x ≤ z
        · rw [Int.max_eq_right c]; simp
        · rw [Int.max_eq_left (by omega)]; simp
      · simp [h]
    · intro y hy
      rw [List.foldl_cons]
      have h3 := h2 (max x z) (List.mem_cons_self ..)
      rcases List.mem_cons.mp hy with rfl | hy
      · omega
      · rcases List.mem_cons.mp hy with rfl | hy
        · omega
        · exact h2 y (List.mem_cons_of_mem _ hy)
theorem foldl_min : ∀ (xs : List Int) (x : Int), xs.foldl min x ∈ x :: xs ∧ ∀ y ∈ x :: xs, xs.foldl min x ≤ y
  | [], x => by simp
  | z :: xs, x => by
    obtain ⟨h1, h2⟩ := foldl_min xs (min x z)
    constructor
    · rw [List.foldl_cons]
      rcases List.mem_cons.mp h1 with h | h
      · rw [h]
        by_cases c : x ≤ z
        · rw [Int.min_eq_left c]; simp
        · rw [Int.min_eq_right (by omega)]; simp
      · simp [h]
    · intro y hy
      rw [List.foldl_cons]
      have h3 := h2 (min x z) (List.mem_cons_self ..)
      rcases List.mem_cons.mp hy with rfl | hy
      · omega
      · rcases List.mem_cons.mp hy with rfl | hy
        · omega
        · exact h2 y (List.mem_cons_of_mem _ hy)
def gMaxL : List D → Option Opd
  | [.list ds] => (numsD ds).bind fun bs => if bs = [] then none else some (.val (.int (mxL bs)))
  | _ => none
def gMinL : List D → Option Opd
  | [.list ds] => (numsD ds).bind fun bs => if bs = [] then none else some (.val (.int (mnL bs)))
  | _ => none
section
variable {X : Cx}
theorem bi_all (hc : X.calm = true) : Bi X (.builtin "all") gAll := by
  refine ⟨_, cr_all hc, fun F H xs ds o Q e sy hx hg q => ?_⟩
  unfold gAll at hg
  split at hg
  · rename_i ds'
    obtain ⟨v, rfl, h1⟩ := bdens1 hx
    obtain ⟨a, ys, rfl, h2, h3⟩ := bd_list h1
    cases eb : boolsD ds' with
    | none => rw [eb] at hg; cases hg
    | some bs =>
      rw [eb] at hg
      cases hg
      have hy := boolsD_ok eb h3
      subst hy
      exact ⟨a, bs, rfl, .inl (.inl h2), q _ _ (.same (by simp only [Den]))⟩
  · cases hg
theorem bi_any (hc : X.calm = true) : Bi X (.builtin "any") gAny := by
  refine ⟨_, cr_any hc, fun F H xs ds o Q e sy hx hg q => ?_⟩
  unfold gAny at hg
  split at hg
  · rename_i ds'
    obtain ⟨v, rfl, h1⟩ := bdens1 hx
    obtain ⟨a, ys, rfl, h2, h3⟩ := bd_list h1
    cases eb : boolsD ds' with
    | none => rw [eb] at hg; cases hg
    | some bs =>
      rw [eb] at hg
      cases hg
      have hy := boolsD_ok eb h3
      subst hy
      exact ⟨a, bs, rfl, .inl (.inl h2), q _ _ (.same (by simp only [Den]))⟩
  · cases hg
theorem bi_sum (hc : X.calm = true) : Bi X (.builtin "sum") gSum := by
  refine ⟨_, cr_sum hc, fun F H xs ds o Q e sy hx hg q => ?_⟩
  unfold gSum at hg
  split at hg
  · rename_i ds'
    obtain ⟨v, rfl, h1⟩ := bdens1 hx
    obtain ⟨a, ys, rfl, h2, h3⟩ := bd_list h1
    cases eb : numsD ds' with
    | none => rw [eb] at hg; cases hg
    | some bs =>
      rw [eb] at hg
      cases hg
      have hy := numsD_ok eb h3
      subst hy
      exact ⟨a, bs, rfl, .inl (.inl h2), q _ _ (.same den_int)⟩
  · cases hg
theorem eq_max {bs : List Int} (hb : bs ≠ []) {m : Int} (h1 : m ∈ bs) (h2 : ∀ y ∈ bs, y ≤ m) : m = mxL bs := by
  cases bs with
  | nil => exact absurd rfl hb
  | cons x xs =>
    obtain ⟨a1, a2⟩ := foldl_max xs x
    have := h2 _ a1
    have := a2 _ h1
    show m = xs.foldl max x
    omega
theorem eq_min {bs : List Int} (hb : bs ≠ []) {m : Int} (h1 : m ∈ bs) (h2 : ∀ y ∈ bs, m ≤ y) : m = mnL bs := by
  cases bs with
  | nil => exact absurd rfl hb
  | cons x xs =>
    obtain ⟨a1, a2⟩ := foldl_min xs x
    have := h2 _ a1
    have := a2 _ h1
    show m = xs.foldl min x
    omega
theorem bi_maxL (hc : X.calm = true) : Bi X (.builtin "max") gMaxL := by
  refine ⟨_, cr_max hc, fun F H xs ds o Q e sy hx hg q => ?_⟩
  unfold gMaxL at hg
  split at hg
  · rename_i ds'
    obtain ⟨v, rfl, h1⟩ := bdens1 hx
    obtain ⟨a, ys, rfl, h2, h3⟩ := bd_list h1
    cases eb : numsD ds' with
    | none => rw [eb] at hg; cases hg
    | some bs =>
      rw [eb] at hg
      simp only [Option.bind_some] at hg
      split at hg
      · cases hg
      · rename_i hb
        cases hg
        have hy := numsD_ok eb h3
        subst hy
        refine ⟨a, bs, rfl, .inl (.inl h2), List.length_pos_iff.mpr hb, fun m m1 m2 => ?_⟩
        rw [eq_max hb m1 m2]
        exact q _ _ (.same den_int)
  · cases hg
theorem bi_minL (hc : X.calm = true) : Bi X (.builtin "min") gMinL := by
  refine ⟨_, cr_min hc, fun F H xs ds o Q e sy hx hg q => ?_⟩
  unfold gMinL at hg
  split at hg
  · rename_i ds'
    obtain ⟨v, rfl, h1⟩ := bdens1 hx
    obtain ⟨a, ys, rfl, h2, h3⟩ := bd_list h1
    cases eb : numsD ds' with
    | none => rw [eb] at hg; cases hg
    | some bs =>
      rw [eb] at hg
      simp only [Option.bind_some] at hg
      split at hg
      · cases hg
      · rename_i hb
        cases hg
        have hy := numsD_ok eb h3
        subst hy
        refine ⟨a, bs, rfl, .inl (.inl h2), List.length_pos_iff.mpr hb, fun m m1 m2 => ?_⟩
        rw [eq_min hb m1 m2]
        exact q _ _ (.same den_int)
  · cases hg
theorem bt_all : bootBuiltins "all" = some (.builtin "all") := by decide +kernel
theorem bt_any : bootBuiltins "any" = some (.builtin "any") := by decide +kernel
theorem bt_sum : bootBuiltins "sum" = some (.builtin "sum") := by decide +kernel
/-! ### bits -/
abbrev gShl : D → D → Option Opd := gInt (fun i j => decide (0 ≤ j ∧ j ≤ 1000 ∧ i.natAbs < 1000000)) fun i j => i * 2 ^ j.toNat
abbrev gShr : D → D → Option Opd := gInt (fun _ j => decide (0 ≤ j)) fun i j => i / 2 ^ j.toNat
abbrev gBand : D → D → Option Opd := gInt0 fun i j => Builtin.bitAnd i j
theorem o2_shl : Op2 X (binaryOp .LShift) gShl := o2_int op_shl fun i j h => (show CPow i j from by
  have h := of_decide_eq_true h
  exact ⟨h.1, by omega, Nat.lt_trans h.2.2 (by decide)⟩)
theorem o2_shr : Op2 X (binaryOp .RShift) gShr := o2_int op_shr fun i j h => (show 0 ≤ j from of_decide_eq_true h)
theorem o2_band : Op2 X (binaryOp .BitAnd) gBand := o2_int0 op_and
/-! ### methods of lists: index, count -/
def Ml1 (X : Cx) (id : String) (g : List D → D → Option Opd) : Prop :=
  ∃ r, MtR X id r ∧ ∀ F H v ds y dy o (Q : VK), Ex F H → BDen X.K F H (.list ds) v → BDen X.K F H dy y → g ds dy = some o → (∀ v H', Got X.K F H o v H' → Q v H') → r v [y] H Q
def lstD : D → Option (List D)
  | .list ds => some ds
  | _ => none
def eLM (g : List D → D → Option Opd) (f fb : PM Opd) : PM Opd := bnd (opn f) fun x => bnd (rsv x) fun dx => bnd (lift (lstD dx)) fun _ => bnd (opn fb) fun y => bnd (rsv x) fun dx => bnd (rsv y) fun dy => bnd (lift (lstD dx)) fun ds => lift (g ds dy)
theorem lstD_ok {d : D} {ds : List D} (h : lstD d = some ds) : d = .list ds := by
  cases d with
  | list es => cases h; rfl
  | _ => cases h
end
section
variable {X : Cx} {bo : List Nat} {W : WX} {a b : Expr} {apos cpos : Pos}
theorem px_lm1 {id : String} {name : Str} {g : List D → D → Option Opd} {f fb : PM Opd} (h : Ml1 X id g) (slot : Slot "list" name id) (ty : typeOf (.builtin id) = pure (.type "method_descriptor")) (ha : PX X bo W a f) (hb : PX X bo W b fb)
    (hbase : attributeBase a name X.env (eval a X.env) = eval a X.env := by rfl)
    (hfew : ((backTo cpos (starEach [b] X.env)).all (fun x => !x.1) && (backToKw cpos (keywordEach [] X.env)).all (fun x => x.1.isSome)
      && decide ([b].length + ([] : List Keyword).length + (if ([] : List Keyword).isEmpty then 0 else 1) < 30)) = true := by rfl)
    (hline : (apos.endLine == cpos.line) = true := by rfl) (hs : starEach [b] X.env = (false, eval b X.env) :: starEach [] X.env := by rfl) (hplain : (backTo cpos (starEach [] X.env)).any (·.1) = false := by rfl) :
    PX X bo W (.Call (.Attribute a name apos) [b] [] cpos) (eLM g f fb) := by
  obtain ⟨r, r1, r2⟩ := h
  obtain ⟨t, h1, h2⟩ := px_opn ha
  obtain ⟨t', h3, h4⟩ := px_opn hb
  refine ⟨_, pe_bm PySem.F.plainAttrs_list slot ty r1 h1 (pa_cons h3 pa_nil hs) hbase hfew hline hs hplain, fun c fp F env σ H Q hc R gg => ?_⟩
  refine h2 c fp F env σ H _ hc R ((Goes.bnd gg).mono (Ex.refl F) fun fp1 F1 env1 H1 o e1 R1 g1 v hn hv => ?_)
  obtain ⟨d, k1, g2⟩ := rsv_ok R1 hv g1
  obtain ⟨z, hz, g3⟩ := goes_lift_bnd g2
  have hz := lstD_ok hz
  subst hz
  obtain ⟨q, xs, rfl, k2, k3⟩ := bd_list k1
  refine ⟨.inl ⟨rfl, xs, .inl (.inl k2)⟩, ?_⟩
  refine h4 c fp1 F1 env1 σ H1 _ hc R1 ((Goes.bnd g3).mono (Ex.refl F1) fun fp2 F2 env2 H2 oy e2 R2 g4 u hm hu => ?_)
  obtain ⟨dx, k4, g5⟩ := rsv_ok R2 (opd_ex e2 hn hv) g4
  obtain ⟨dy, k5, g6⟩ := rsv_ok R2 hu g5
  obtain ⟨ds, hds, g7⟩ := goes_lift_bnd g6
  have hds := lstD_ok hds
  subst hds
  obtain ⟨o', ho, _⟩ := g7.lift
  exact r2 F2 H2 (.ref q) ds u dy o' Q R2.fh k4 k5 ho fun v' H' got => fin_got R2 g7 ho got
def gLCount (ds : List D) : D → Option Opd
  | .int k => (numsD ds).map fun ns => .val (.int (ns.count k : Nat))
  | _ => none
def gLIndex (ds : List D) : D → Option Opd
  | .int k => (numsD ds).bind fun ns => if k ∈ ns then some (.val (.int (ns.idxOf k : Nat))) else none
  | _ => none
theorem m_lcount : Ml1 X "list.count" gLCount := ⟨_, mt_lcount, fun F H v ds y dy o Q e hv hy hg q => by
  cases dy with
  | int k =>
    simp only [gLCount] at hg
    cases eb : numsD ds with
    | none => rw [eb] at hg; cases hg
    | some ns =>
      rw [eb] at hg
      cases hg
      obtain ⟨a, xs, rfl, h1, h2⟩ := bd_list hv
      have hx := numsD_ok eb h2
      subst hx
      exact ⟨a, ns, k, rfl, by rw [bd_int hy], .inl (.inl h1), q _ _ (.same den_int)⟩
  | _ => cases hg⟩
theorem idx_spec {k : Int} : ∀ {ns : List Int}, k ∈ ns → ns[ns.idxOf k]? = some k ∧ ∀ m z, m < ns.idxOf k → ns[m]? = some z → z ≠ k
  | [], h => by cases h
  | n :: ns, h => by
    by_cases e : n = k
    · subst e
      rw [List.idxOf_cons_self]
      exact ⟨rfl, fun m z hm => absurd hm (Nat.not_lt_zero _)⟩
    · have hk : k ∈ ns := by
        rcases List.mem_cons.mp h with h | h
        · exact absurd h.symm e
        · exact h
      obtain ⟨h1, h2⟩ := idx_spec hk
      have e0 : (n :: ns).idxOf k = ns.idxOf k + 1 := by rw [List.idxOf_cons, show (n == k) = false from by simpa using e]; rfl
      rw [e0]
      refine ⟨by simpa using h1, fun m z hm hz => ?_⟩
      cases m with
      | zero =>
        have : z = n := by simpa using hz.symm
        rw [this]
        exact e
      | succ m => exact h2 m z (by omega) (by simpa using hz)
theorem m_lindex : Ml1 X "list.index" gLIndex := ⟨_, mt_index, fun F H v ds y dy o Q e hv hy hg q => by
  cases dy with
  | int k =>
    simp only [gLIndex] at hg
    cases eb : numsD ds with
    | none => rw [eb] at hg; cases hg
    | some ns =>
      rw [eb] at hg
      simp only [Option.bind_some] at hg
      split at hg
      · rename_i hk
        cases hg
        obtain ⟨a, xs, rfl, h1, h2⟩ := bd_list hv
        have hx := numsD_ok eb h2
        subst hx
        obtain ⟨i1, i2⟩ := idx_spec hk
        refine ⟨a, _, .int k, ns.idxOf k, .int k, rfl, by rw [bd_int hy], .inl (.inl h1), rfl, ?_, by rw [List.getElem?_map, i1]; rfl, by simp [eqV], fun m z' hm hz => ?_, q _ _ (.same den_int)⟩
        · rw [List.all_map]
          exact List.all_eq_true.mpr fun _ _ => rfl
        · rw [List.getElem?_map] at hz
          cases ez : ns[m]? with
          | none => rw [ez] at hz; cases hz
          | some z =>
            rw [ez] at hz
            cases hz
            have := i2 m z hm ez
            simp [eqV, this]
      · cases hg
  | _ => cases hg⟩
end
end Pu

set_option maxHeartbeats 4000000
namespace Pu
open PySem PySem.Spec PyProof.Rows L2
theorem tuple_mul0 (l : Addr) (items : Array Value) (n : Nat) (dd : Option Addr) (sl : Array (Option Value)) (x : Int) (u : Tok) (c0 : (decide (x < -(2 ^ 63)) || decide (x ≥ 2 ^ 63)) = false) (c1 : (items.isEmpty || x == 1) = false) (c2 : (decide (x ≤ 0) || items.isEmpty) = true) :
    Meets (Builtin.«tuple.__mul__» ⟨[.ref l, .int x u], []⟩) (fun _ R s => s.heap.get? l = some { cls := .type "tuple", dict := dd, data := .seq items n, slots := sl } ∧
      R (.ok (.ret (Value.ref s.heap.objs.size))) { s with heap := s.heap.push { cls := Value.type "tuple", data := Data.seq #[] }, toks := s.toks }) :=
  .of_wp fun prog w A R s h => by
    obtain ⟨hp, g, d, tk, os⟩ := s
    obtain ⟨hl, h⟩ := h
    have f1 := AutoSeq1.idx_int
    wp_walk using wpAny_loadPart' hl
    repeat (first
      | (refine wpAny_ite_false (decide_eq_false (by rw [c0]; exact Bool.false_ne_true)) ?_; wp_walk using wpAny_loadPart' hl)
      | (refine wpAny_ite_false (decide_eq_false (by rw [c1]; exact Bool.false_ne_true)) ?_; wp_walk using wpAny_loadPart' hl)
      | (refine wpAny_ite_true (decide_eq_true (by rw [c2])) ?_; wp_walk using wpAny_loadPart' hl))
    exact ⟨_, rfl, h⟩
theorem tuple_mul1 (l : Addr) (items : Array Value) (n : Nat) (dd : Option Addr) (sl : Array (Option Value)) (x : Int) (u : Tok) (c0 : (decide (x < -(2 ^ 63)) || decide (x ≥ 2 ^ 63)) = false) (c1 : (items.isEmpty || x == 1) = true) :
    Meets (Builtin.«tuple.__mul__» ⟨[.ref l, .int x u], []⟩) (fun _ R s => s.heap.get? l = some { cls := .type "tuple", dict := dd, data := .seq items n, slots := sl } ∧
      R (.ok (.ret (Value.ref l))) s) :=
  .of_wp fun prog w A R s h => by
    obtain ⟨hp, g, d, tk, os⟩ := s
    obtain ⟨hl, h⟩ := h
    have f1 := AutoSeq1.idx_int
    wp_walk using wpAny_loadPart' hl
    repeat (first
      | (refine wpAny_ite_false (decide_eq_false (by rw [c0]; exact Bool.false_ne_true)) ?_; wp_walk using wpAny_loadPart' hl)
      | (refine wpAny_ite_true (decide_eq_true (by rw [c1])) ?_; wp_walk using wpAny_loadPart' hl))
    exact ⟨_, rfl, h⟩
def rRepS (K : PySem.W.Frag) : R2 := fun x y H Q => ∃ l k xs, x = .ref l ∧ y = .int k ∧ SqT K H l xs ∧ xs ≠ [] ∧ -1000 ≤ k ∧ k ≤ 1 ∧ (k = 1 → Q (.ref l) H) ∧ (k ≤ 0 → ∀ p, H p = none → Q (.ref p) (upd H p (.tup [])))
section
variable {X : Cx}
theorem op_repS : OpR X (binaryOp .Mult) (rRepS X.K) := by
  intro pins s σ H x y v u Q I rx ry h
  obtain ⟨l, k, xs, rfl, rfl, hT, hne, h1, h2, q1, q0⟩ := h
  cases rx
  obtain ⟨t, rfl⟩ := ry
  obtain ⟨its, r, ⟨⟨cls, dd, data, sl⟩, ho, hc, n, hd⟩, hs⟩ := I.tuple hT
  simp only at hc hd
  subst hc hd
  have hle : its.length = xs.length := r.length.symm
  have hn : its ≠ [] := fun e => hne (by
    rw [e] at hle
    exact List.eq_nil_of_length_eq_zero hle.symm)
  have hi : its.toArray.isEmpty = false := by
    cases its with
    | nil => exact absurd rfl hn
    | cons a b => rfl
  have c0 : (decide (k < -(2 ^ 63)) || decide (k ≥ 2 ^ 63)) = false := by
    rw [decide_eq_false (by omega), decide_eq_false (by omega)] <;> rfl
  by_cases c : k = 1
  · subst c
    refine wpAny_binaryOp_repeat_ref (T := "tuple") (U := "int") (by decide) ⟨_, ho, rfl⟩ (fun s' => typeIs_int s' 1 t) noFill_tuple_mul F.fills_int_mul F.slot_int_rmul repeat_tuple F.slot_int_index.lookup
      (call_meets F.slot_int_rmul (typeIs_int s 1 t) F.entry_int_rmul (F.args_int_rmul_2 _ _) (int_rmul_tuple 1 t l its.toArray n dd sl)
        ⟨ho, rfl, ⟨_, ho, rfl⟩, call_meets F.slot_tuple_mul ⟨_, ho, rfl⟩ F.entry_tuple_mul (F.args_tuple_mul_2 _ _) (tuple_mul1 l its.toArray n dd sl 1 t c0 (by rw [hi]; rfl)) ⟨ho, ?_⟩⟩)
    exact ⟨.ref l, H, I, rfl, q1 rfl⟩
  · have k0 : k ≤ 0 := by omega
    have c1 : (its.toArray.isEmpty || k == 1) = false := by
      rw [hi, Bool.false_or]
      exact beq_eq_false_iff_ne.mpr c
    have c2 : (decide (k ≤ 0) || its.toArray.isEmpty) = true := by
      rw [decide_eq_true k0]
      rfl
    refine wpAny_binaryOp_repeat_ref (T := "tuple") (U := "int") (by decide) ⟨_, ho, rfl⟩ (fun s' => typeIs_int s' k t) noFill_tuple_mul F.fills_int_mul F.slot_int_rmul repeat_tuple F.slot_int_index.lookup
      (call_meets F.slot_int_rmul (typeIs_int s k t) F.entry_int_rmul (F.args_int_rmul_2 _ _) (int_rmul_tuple k t l its.toArray n dd sl)
        ⟨ho, rfl, ⟨_, ho, rfl⟩, call_meets F.slot_tuple_mul ⟨_, ho, rfl⟩ F.entry_tuple_mul (F.args_tuple_mul_2 _ _) (tuple_mul0 l its.toArray n dd sl k t c0 c1 c2) ⟨ho, ?_⟩⟩)
    refine ⟨.ref s.heap.objs.size, _, I.laid (t' := s.toks) (o := .tup []) (fun b ob q => Heap.get?_push_of_some _ q) (Nat.le_refl _) ?_, rfl, q0 k0 _ (I.hok.fresh (Nat.le_refl _))⟩
    exact ⟨by rw [sizeLine_eq]; decide, [], .nil, IsTup.new _ _⟩
/-- a tuple so many times -/
def gMulT : D → D → Option Opd
  | .tuple xs, .int k => if xs ≠ [] ∧ -1000 ≤ k ∧ k ≤ 1000 ∧ xs.length ≤ 1000 then some (.val (.tuple (List.replicate k.toNat xs).flatten)) else none
  | _, _ => none
theorem o2_mulT : Op2 X (binaryOp .Mult) gMulT := by
  refine ⟨_, OpR.or op_repT op_repS, fun F H x y dx dy o Q e hx hy hg q => ?_⟩
  unfold gMulT at hg
  split at hg
  · rename_i xs k
    split at hg
    · rename_i hl
      cases hg
      obtain ⟨a, us, rfl, h1, h2⟩ := bd_tup hx
      have hne : us ≠ [] := fun z => hl.1 ((dens_ne h2).mp z)
      by_cases c : 2 ≤ k
      · exact .inl ⟨a, k, us, rfl, bd_int hy, ex_t e h1, hne, c, hl.2.2.1, by rw [dens_len h2]; exact hl.2.2.2, fun p hp => q _ _ (.tup hp (dens_rep h2 _))⟩
      · refine .inr ⟨a, k, us, rfl, bd_int hy, ex_t e h1, hne, hl.2.1, by omega, fun z => ?_, fun z p hp => ?_⟩
        · subst z
          refine q _ _ (.same ?_)
          have ee : (List.replicate (1 : Int).toNat xs).flatten = xs := by simp
          rw [ee]
          simp only [Den]
          exact ⟨a, us, rfl, h1, h2⟩
        · have ee : k.toNat = 0 := by omega
          have e2 : (List.replicate k.toNat xs).flatten = [] := by rw [ee]; rfl
          refine q _ _ ?_
          rw [e2]
          exact .tup hp (by simp only [Dens])
    · cases hg
  · cases hg
end
end Pu

namespace Pu
open PySem PySem.Spec PyProof.Rows L2
section
variable {B : Ab → Prop} {XE : PEnv → Prop} {α β γ : Type} {V : Ab → PEnv} {f fb : PM Opd} {e : α → D}
theorem boolsD_map : ∀ bs : List Bool, boolsD (bs.map eB) = some bs
  | [] => rfl
  | b :: bs => by
    show (boolsD (bs.map eB)).map _ = _
    rw [boolsD_map bs]
    rfl
theorem numsD_map : ∀ bs : List Int, numsD (bs.map eI) = some bs
  | [] => rfl
  | b :: bs => by
    show (numsD (bs.map eI)).map _ = _
    rw [numsD_map bs]
    rfl
theorem o_all {bs : List Bool} : ∃ o, gAll [eL eB bs] = some o ∧ kV eB (bs.all id) o := ⟨_, by show (boolsD (bs.map eB)).map _ = _; rw [boolsD_map]; rfl, rfl⟩
theorem o_any {bs : List Bool} : ∃ o, gAny [eL eB bs] = some o ∧ kV eB (bs.any id) o := ⟨_, by show (boolsD (bs.map eB)).map _ = _; rw [boolsD_map]; rfl, rfl⟩
theorem o_sum {bs : List Int} : ∃ o, gSum [eL eI bs] = some o ∧ kV eI bs.sum o := ⟨_, by show (numsD (bs.map eI)).map _ = _; rw [numsD_map]; rfl, rfl⟩
theorem ow_all : UnW (fun d => gAll [d]) (eL eB) (kV eB) (fun bs => wpure (bs.all id)) := fun a Q E h => let ⟨o, h1, h2⟩ := o_all (bs := a); ⟨o, _, h1, h2, h⟩
theorem ow_any : UnW (fun d => gAny [d]) (eL eB) (kV eB) (fun bs => wpure (bs.any id)) := fun a Q E h => let ⟨o, h1, h2⟩ := o_any (bs := a); ⟨o, _, h1, h2, h⟩
theorem ow_sum : UnW (fun d => gSum [d]) (eL eI) (kV eI) (fun bs => wpure (List.sum bs)) := fun a Q E h => let ⟨o, h1, h2⟩ := o_sum (bs := a); ⟨o, _, h1, h2, h⟩
def wmaxL (xs : List Int) : WP Int := fun Q _ => xs ≠ [] ∧ Q (mxL xs)
def wminL (xs : List Int) : WP Int := fun Q _ => xs ≠ [] ∧ Q (mnL xs)
theorem ow_maxL : UnW (fun d => gMaxL [d]) (eL eI) (kV eI) wmaxL := fun a Q E h => ⟨.val (.int (mxL a)), _, by show (numsD (a.map eI)).bind _ = _; rw [numsD_map]; exact if_neg h.1, rfl, h.2⟩
theorem ow_minL : UnW (fun d => gMinL [d]) (eL eI) (kV eI) wminL := fun a Q E h => ⟨.val (.int (mnL a)), _, by show (numsD (a.map eI)).bind _ = _; rw [numsD_map]; exact if_neg h.1, rfl, h.2⟩
def wshl (a b : Int) : WP Int := fun Q _ => (0 ≤ b ∧ b ≤ 1000 ∧ a.natAbs < 1000000) ∧ Q (a * 2 ^ b.toNat)
def wshr (a b : Int) : WP Int := fun Q _ => 0 ≤ b ∧ Q (a / 2 ^ b.toNat)
theorem ow_shl : OpW gShl eI eI (kV eI) wshl := fun a b Q E h => ⟨_, _, if_pos (decide_eq_true h.1), rfl, h.2⟩
theorem ow_shr : OpW gShr eI eI (kV eI) wshr := fun a b Q E h => ⟨_, _, if_pos (decide_eq_true h.1), rfl, h.2⟩
theorem o_band {a b : Int} : OpP gBand (eI a) (eI b) (kV eI (Builtin.bitAnd a b)) := ⟨_, rfl, rfl⟩
theorem ow_band : OpW gBand eI eI (kV eI) (fun a b => wpure (Builtin.bitAnd a b)) := fun a b Q E h => ⟨_, _, rfl, rfl, h⟩
def wmulTT (xs : List α) (k : Int) : WP (List α) := fun Q _ => (xs ≠ [] ∧ -1000 ≤ k ∧ k ≤ 1000 ∧ xs.length ≤ 1000) ∧ Q (List.replicate k.toNat xs).flatten
theorem ow_mulTT : OpW gMulT (eT e) eI (kV (eT e)) wmulTT := fun a b Q E h => ⟨.val (eT e (List.replicate b.toNat a).flatten), _, by
  have h1 : a.map e ≠ [] ∧ -1000 ≤ b ∧ b ≤ 1000 ∧ (a.map e).length ≤ 1000 := by rw [List.length_map]; exact ⟨fun z => h.1.1 (List.map_eq_nil_iff.mp z), h.1.2⟩
  have h2 : (List.replicate b.toNat (a.map e)).flatten = (List.replicate b.toNat a).flatten.map e := by rw [List.map_flatten, List.map_replicate]
  unfold eT
  rw [← h2]
  exact if_pos h1, rfl, h.2⟩
/-! methods of lists -/
def LmW (g : List D → D → Option Opd) (e : α → D) (K : γ → Opd → Prop) (w : List α → α → WP γ) : Prop := ∀ xs a Q E, w xs a Q E → ∃ o r, g (xs.map e) (e a) = some o ∧ K r o ∧ Q r
theorem j_lm {g : List D → D → Option Opd} {K : γ → Opd → Prop} {w : List α → α → WP γ} {wa : WP (List α)} {wb : WP α} (hg : LmW g e K w) (ha : JO B XE f (eL e) wa V) (hb : JO B XE fb e wb V) : J B XE (eLM g f fb) K (wbind wa fun xs => wbind wb fun a => w xs a) V V :=
  jbnd ha fun xs x kx => jpbnd (jrsv kx) fun dx ex => by
    subst ex
    refine jpbnd (jp_ret (K := fun _ => True) trivial) fun _ _ => ?_
    refine jbnd hb fun a y ky => jpbnd (jrsv kx) fun dx ex => jpbnd (jrsv ky) fun dy ey => ?_
    subst ex
    subst ey
    exact jpbnd (jp_ret (K := fun ds => ds = xs.map e) rfl) fun ds ed => by
      subst ed
      exact jl (o := Opd.val PyData.none) (hg xs a)
def wcount (xs : List Int) (k : Int) : WP Int := wpure (xs.count k : Nat)
def windex (xs : List Int) (k : Int) : WP Int := fun Q _ => k ∈ xs ∧ Q (xs.idxOf k : Nat)
theorem lw_count : LmW gLCount eI (kV eI) wcount := fun xs a Q E h => ⟨.val (.int (xs.count a : Nat)), _, by show (numsD (xs.map eI)).map _ = _; rw [numsD_map]; rfl, rfl, h⟩
theorem lw_index : LmW gLIndex eI (kV eI) windex := fun xs a Q E h => ⟨.val (.int (xs.idxOf a : Nat)), _, by show (numsD (xs.map eI)).bind _ = _; rw [numsD_map]; exact if_pos h.1, rfl, h.2⟩
end
end Pu

namespace Pu.L
open PySem PySem.Spec PyProof.Rows L2 Pu

def topS (i : Nat) : Stmt := PySem.Challenge.pw_singlegates_k15_whole_who_stands_where.main.body.getD i (.Pass ⟨0, 0, 0, 0⟩)
abbrev slongest : Stmt := topS 1
theorem sclongest : FnScope ["way", "branch"] ["way"] (defScope slongest) := ⟨rfl, rfl, rfl, by decide +kernel, rfl, by decide +kernel, by decide +kernel⟩
abbrev strains_at : Stmt := topS 3
theorem sctrains_at : FnScope ["standing", "station", "train", "way"] ["standing", "station"] (defScope strains_at) := ⟨rfl, rfl, rfl, by decide +kernel, rfl, by decide +kernel, by decide +kernel⟩
abbrev sfree_tracks : Stmt := topS 4
theorem scfree_tracks : FnScope ["net", "standing", "station"] ["net", "standing", "station"] (defScope sfree_tracks) := ⟨rfl, rfl, rfl, by decide +kernel, rfl, by decide +kernel, by decide +kernel⟩
abbrev swants : Stmt := topS 5
theorem scwants : FnScope ["standing", "train", "way", "branch"] ["standing", "train"] (defScope swants) := ⟨rfl, rfl, rfl, by decide +kernel, rfl, by decide +kernel, by decide +kernel⟩
abbrev ssteps_left : Stmt := topS 6
theorem scsteps_left : FnScope ["standing", "way"] ["standing"] (defScope ssteps_left) := ⟨rfl, rfl, rfl, by decide +kernel, rfl, by decide +kernel, by decide +kernel⟩
abbrev sall_gone : Stmt := topS 7
theorem scall_gone : FnScope ["standing", "way"] ["standing"] (defScope sall_gone) := ⟨rfl, rfl, rfl, by decide +kernel, rfl, by decide +kernel, by decide +kernel⟩
abbrev swithout : Stmt := topS 8
theorem scwithout : FnScope ["standing", "trains", "train", "way"] ["standing", "trains"] (defScope swithout) := ⟨rfl, rfl, rfl, by decide +kernel, rfl, by decide +kernel, by decide +kernel⟩
abbrev s_law_bag : Stmt := topS 10
theorem sc_law_bag : FnScope ["script", "cell", "cells", "stirred"] ["script"] (defScope s_law_bag) := ⟨rfl, rfl, rfl, by decide +kernel, rfl, by decide +kernel, by decide +kernel⟩
abbrev s_law_draw : Stmt := topS 11
theorem sc_law_draw : FnScope ["bag", "many", "one", "cell"] ["bag", "many"] (defScope s_law_draw) := ⟨rfl, rfl, rfl, by decide +kernel, rfl, by decide +kernel, by decide +kernel⟩
abbrev s_law_pick : Stmt := topS 12
theorem sc_law_pick : FnScope ["bag", "items"] ["bag", "items"] (defScope s_law_pick) := ⟨rfl, rfl, rfl, by decide +kernel, rfl, by decide +kernel, by decide +kernel⟩
abbrev s_law_mixed : Stmt := topS 13
theorem sc_law_mixed : FnScope ["bag", "items", "left", "found"] ["bag", "items"] (defScope s_law_mixed) := ⟨rfl, rfl, rfl, by decide +kernel, rfl, by decide +kernel, by decide +kernel⟩
abbrev s_law_net : Stmt := topS 14
theorem sc_law_net : FnScope ["bag", "many", "tracks", "i", "turn", "kind", "lines", "j", "station", "line"] ["bag", "many"] (defScope s_law_net) := ⟨rfl, rfl, rfl, by decide +kernel, rfl, by decide +kernel, by decide +kernel⟩
abbrev s_law_nexts : Stmt := topS 15
theorem sc_law_nexts : FnScope ["net", "station", "i", "j"] ["net", "station"] (defScope s_law_nexts) := ⟨rfl, rfl, rfl, by decide +kernel, rfl, by decide +kernel, by decide +kernel⟩
abbrev s_law_way : Stmt := topS 16
theorem sc_law_way : FnScope ["bag", "net", "station", "steps", "wide", "goals", "many", "further", "goal", "less"] ["bag", "net", "station", "steps", "wide"] (defScope s_law_way) := ⟨rfl, rfl, rfl, by decide +kernel, rfl, by decide +kernel, by decide +kernel⟩
abbrev s_law_far : Stmt := topS 18
theorem sc_law_far : FnScope ["way", "branch"] ["way"] (defScope s_law_far) := ⟨rfl, rfl, rfl, by decide +kernel, rfl, by decide +kernel, by decide +kernel⟩
abbrev s_law_standing : Stmt := topS 19
theorem sc_law_standing : FnScope ["bag", "net", "many", "steps", "train", "free", "found", "spots", "station", "wide"] ["bag", "net", "many", "steps"] (defScope s_law_standing) := ⟨rfl, rfl, rfl, by decide +kernel, rfl, by decide +kernel, by decide +kernel⟩
abbrev s_law_at : Stmt := topS 20
theorem sc_law_at : FnScope ["standing", "station", "train", "way"] ["standing", "station"] (defScope s_law_at) := ⟨rfl, rfl, rfl, by decide +kernel, rfl, by decide +kernel, by decide +kernel⟩
abbrev s_law_is_counted : Stmt := topS 21
theorem sc_law_is_counted : FnScope ["net", "standing", "is_named", "station", "mine", "told"] ["net", "standing", "is_named"] (defScope s_law_is_counted) := ⟨rfl, rfl, rfl, by decide +kernel, rfl, by decide +kernel, by decide +kernel⟩
abbrev s_law_are_wishes_told : Stmt := topS 22
theorem sc_law_are_wishes_told : FnScope ["standing", "is_named", "total", "told", "train", "way", "due", "branch"] ["standing", "is_named"] (defScope s_law_are_wishes_told) := ⟨rfl, rfl, rfl, by decide +kernel, rfl, by decide +kernel, by decide +kernel⟩
abbrev s_law_are_left : Stmt := topS 23
theorem sc_law_are_left : FnScope ["bag", "standing", "is_named", "every", "lots", "lot", "due", "told", "train", "way"] ["bag", "standing", "is_named"] (defScope s_law_are_left) := ⟨rfl, rfl, rfl, by decide +kernel, rfl, by decide +kernel, by decide +kernel⟩
abbrev slaw : Stmt := topS 24
theorem sclaw : FnScope ["script", "bag", "turn", "net", "standing", "known"] ["script"] (defScope slaw) := ⟨rfl, rfl, rfl, by decide +kernel, rfl, by decide +kernel, by decide +kernel⟩
/-- what the top has laid down -/
structure T (K : PySem.W.Frag) (mg : Str → Option Value) where
  b_abs : mg "abs" = none
  b_all : mg "all" = none
  b_enumerate : mg "enumerate" = none
  b_int : mg "int" = none
  b_len : mg "len" = none
  b_list : mg "list" = none
  b_max : mg "max" = none
  b_min : mg "min" = none
  b_range : mg "range" = none
  b_repr : mg "repr" = none
  b_set : mg "set" = none
  b_sorted : mg "sorted" = none
  b_sum : mg "sum" = none
  b_tuple : mg "tuple" = none
  a_longest : Addr
  d_longest : FuncData
  F_longest : Fun K "longest" "longest" slongest a_longest d_longest
  g_longest : mg "longest" = some (.ref a_longest)
  n_longest : Binds K d_longest ["way"] []
  a_trains_at : Addr
  d_trains_at : FuncData
  F_trains_at : Fun K "trains_at" "trains_at" strains_at a_trains_at d_trains_at
  g_trains_at : mg "trains_at" = some (.ref a_trains_at)
  n_trains_at : Binds K d_trains_at ["standing", "station"] []
  a_free_tracks : Addr
  d_free_tracks : FuncData
  F_free_tracks : Fun K "free_tracks" "free_tracks" sfree_tracks a_free_tracks d_free_tracks
  g_free_tracks : mg "free_tracks" = some (.ref a_free_tracks)
  n_free_tracks : Binds K d_free_tracks ["net", "standing", "station"] []
  a_wants : Addr
  d_wants : FuncData
  F_wants : Fun K "wants" "wants" swants a_wants d_wants
  g_wants : mg "wants" = some (.ref a_wants)
  n_wants : Binds K d_wants ["standing", "train"] []
  a_steps_left : Addr
  d_steps_left : FuncData
  F_steps_left : Fun K "steps_left" "steps_left" ssteps_left a_steps_left d_steps_left
  g_steps_left : mg "steps_left" = some (.ref a_steps_left)
  n_steps_left : Binds K d_steps_left ["standing"] []
  a_all_gone : Addr
  d_all_gone : FuncData
  F_all_gone : Fun K "all_gone" "all_gone" sall_gone a_all_gone d_all_gone
  g_all_gone : mg "all_gone" = some (.ref a_all_gone)
  n_all_gone : Binds K d_all_gone ["standing"] []
  a_without : Addr
  d_without : FuncData
  F_without : Fun K "without" "without" swithout a_without d_without
  g_without : mg "without" = some (.ref a_without)
  n_without : Binds K d_without ["standing", "trains"] []
  a__law_bag : Addr
  d__law_bag : FuncData
  F__law_bag : Fun K "_law_bag" "_law_bag" s_law_bag a__law_bag d__law_bag
  g__law_bag : mg "_law_bag" = some (.ref a__law_bag)
  n__law_bag : Binds K d__law_bag ["script"] []
  a__law_draw : Addr
  d__law_draw : FuncData
  F__law_draw : Fun K "_law_draw" "_law_draw" s_law_draw a__law_draw d__law_draw
  g__law_draw : mg "_law_draw" = some (.ref a__law_draw)
  n__law_draw : Binds K d__law_draw ["bag", "many"] []
  a__law_pick : Addr
  d__law_pick : FuncData
  F__law_pick : Fun K "_law_pick" "_law_pick" s_law_pick a__law_pick d__law_pick
  g__law_pick : mg "_law_pick" = some (.ref a__law_pick)
  n__law_pick : Binds K d__law_pick ["bag", "items"] []
  a__law_mixed : Addr
  d__law_mixed : FuncData
  F__law_mixed : Fun K "_law_mixed" "_law_mixed" s_law_mixed a__law_mixed d__law_mixed
  g__law_mixed : mg "_law_mixed" = some (.ref a__law_mixed)
  n__law_mixed : Binds K d__law_mixed ["bag", "items"] []
  a__law_net : Addr
  d__law_net : FuncData
  F__law_net : Fun K "_law_net" "_law_net" s_law_net a__law_net d__law_net
  g__law_net : mg "_law_net" = some (.ref a__law_net)
  n__law_net : Binds K d__law_net ["bag", "many"] []
  a__law_nexts : Addr
  d__law_nexts : FuncData
  F__law_nexts : Fun K "_law_nexts" "_law_nexts" s_law_nexts a__law_nexts d__law_nexts
  g__law_nexts : mg "_law_nexts" = some (.ref a__law_nexts)
  n__law_nexts : Binds K d__law_nexts ["net", "station"] []
  a__law_way : Addr
  d__law_way : FuncData
  F__law_way : Fun K "_law_way" "_law_way" s_law_way a__law_way d__law_way
  g__law_way : mg "_law_way" = some (.ref a__law_way)
  n__law_way : Binds K d__law_way ["bag", "net", "station", "steps", "wide"] []
  a__law_far : Addr
  d__law_far : FuncData
  F__law_far : Fun K "_law_far" "_law_far" s_law_far a__law_far d__law_far
  g__law_far : mg "_law_far" = some (.ref a__law_far)
  n__law_far : Binds K d__law_far ["way"] []
  a__law_standing : Addr
  d__law_standing : FuncData
  F__law_standing : Fun K "_law_standing" "_law_standing" s_law_standing a__law_standing d__law_standing
  g__law_standing : mg "_law_standing" = some (.ref a__law_standing)
  n__law_standing : Binds K d__law_standing ["bag", "net", "many", "steps"] []
  a__law_at : Addr
  d__law_at : FuncData
  F__law_at : Fun K "_law_at" "_law_at" s_law_at a__law_at d__law_at
  g__law_at : mg "_law_at" = some (.ref a__law_at)
  n__law_at : Binds K d__law_at ["standing", "station"] []
  a__law_is_counted : Addr
  d__law_is_counted : FuncData
  F__law_is_counted : Fun K "_law_is_counted" "_law_is_counted" s_law_is_counted a__law_is_counted d__law_is_counted
  g__law_is_counted : mg "_law_is_counted" = some (.ref a__law_is_counted)
  n__law_is_counted : Binds K d__law_is_counted ["net", "standing", "is_named"] []
  a__law_are_wishes_told : Addr
  d__law_are_wishes_told : FuncData
  F__law_are_wishes_told : Fun K "_law_are_wishes_told" "_law_are_wishes_told" s_law_are_wishes_told a__law_are_wishes_told d__law_are_wishes_told
  g__law_are_wishes_told : mg "_law_are_wishes_told" = some (.ref a__law_are_wishes_told)
  n__law_are_wishes_told : Binds K d__law_are_wishes_told ["standing", "is_named"] []
  a__law_are_left : Addr
  d__law_are_left : FuncData
  F__law_are_left : Fun K "_law_are_left" "_law_are_left" s_law_are_left a__law_are_left d__law_are_left
  g__law_are_left : mg "_law_are_left" = some (.ref a__law_are_left)
  n__law_are_left : Binds K d__law_are_left ["bag", "standing", "is_named"] []
  k_all_gone_standing : KwBinds d_all_gone ["standing"] ["standing"] [0]
  k_free_tracks_station_standing_net : KwBinds d_free_tracks ["net", "standing", "station"] ["station", "standing", "net"] [2, 1, 0]
  k_steps_left_standing : KwBinds d_steps_left ["standing"] ["standing"] [0]
  k_trains_at_station_standing : KwBinds d_trains_at ["standing", "station"] ["station", "standing"] [1, 0]
  k_wants_train_standing : KwBinds d_wants ["standing", "train"] ["train", "standing"] [1, 0]
  k_without_trains_standing : KwBinds d_without ["standing", "trains"] ["trains", "standing"] [1, 0]

def C_longest_0 (F_longest : List D → FR) : PM Opd :=
(eBin gAdd (eCallA F_longest (bnd (kept (eVar 1)) fun d => bnd (ret []) fun ds => ret (d :: ds))) (ret (.val (.int 1))))
def g_longest (F_longest : List D → FR) : PM Out :=
(sRet (eBi gMaxL (bnd (opn (eBin gAdd (eLst (bnd (kept (ret (.val (.int 0)))) fun d => bnd (ret []) fun ds => ret (d :: ds))) (eLc (eIter (eBin gIx (eVar 0) (ret (.val (.int 1))))) [1] (tgName 1) (ret true) (C_longest_0 F_longest)))) fun o => bnd (ret []) fun os => ret (o :: os))))
def F_longest : Nat → List D → FR
  | 0 => badA
  | n + 1 => runA 2 (g_longest (F_longest n))
def D_trains_at_0 : PM Bool :=
(bAnd (eTest (eBin (gIsN true) (eVar 3) (ret (.val .none)))) (eTest (eBin (gEq false) (eBin gIx (eVar 3) (ret (.val (.int 0)))) (eVar 1))))
def C_trains_at_1 : PM Opd :=
(eVar 2)
def g_trains_at : PM Out :=
(sRet (eBi gTuple (bnd (opn (eLc (eEnum (eVar 0)) [2, 3] (tgTup 2 (tgCons (tgName 2) (tgCons (tgName 3) tgNil))) D_trains_at_0 C_trains_at_1)) fun o => bnd (ret []) fun os => ret (o :: os))))
def F_trains_at : List D → FR := runA 4 g_trains_at
def g_free_tracks : PM Out :=
(sRet (eBin gSub (eBin gIx (eBin gIx (eVar 0) (ret (.val (.int 0)))) (eVar 2)) (eBi gLen (bnd (opn (eCallA F_trains_at (bnd (kept (eVar 1)) fun d => bnd (bnd (kept (eVar 2)) fun d => bnd (ret []) fun ds => ret (d :: ds)) fun ds => ret (d :: ds)))) fun o => bnd (ret []) fun os => ret (o :: os)))))
def F_free_tracks : List D → FR := runA 3 g_free_tracks
def C_wants_0 : PM Opd :=
(eBin gIx (eVar 3) (ret (.val (.int 0))))
def g_wants : PM Out :=
(sSeq (sAsg (tgName 2) (eBin gIx (eVar 0) (eVar 1)))
(sSeq (sIf (eTest (eBin (gIsN false) (eVar 2) (ret (.val .none))))
(sRet (eTup (ret [])))
(ret .next))
(sRet (eBi gTuple (bnd (opn (eLc (eIter (eBin gIx (eVar 2) (ret (.val (.int 1))))) [3] (tgName 3) (ret true) C_wants_0)) fun o => bnd (ret []) fun os => ret (o :: os))))))
def F_wants : List D → FR := runA 4 g_wants
def D_steps_left_0 : PM Bool :=
(eTest (eBin (gIsN true) (eVar 1) (ret (.val .none))))
def C_steps_left_1 : PM Opd :=
(eBin gAdd (eCallA (F_longest 16) (bnd (kept (eVar 1)) fun d => bnd (ret []) fun ds => ret (d :: ds))) (ret (.val (.int 1))))
def g_steps_left : PM Out :=
(sRet (eBi gSum (bnd (opn (eLc (eIter (eVar 0)) [1] (tgName 1) D_steps_left_0 C_steps_left_1)) fun o => bnd (ret []) fun os => ret (o :: os))))
def F_steps_left : List D → FR := runA 2 g_steps_left
def C_all_gone_0 : PM Opd :=
(eBin (gIsN false) (eVar 1) (ret (.val .none)))
def g_all_gone : PM Out :=
(sRet (eBi gAll (bnd (opn (eLc (eIter (eVar 0)) [1] (tgName 1) (ret true) C_all_gone_0)) fun o => bnd (ret []) fun os => ret (o :: os))))
def F_all_gone : List D → FR := runA 2 g_all_gone
def C_without_0 : PM Opd :=
(eIf (eTest (eBin (gIn false) (eVar 2) (eVar 1))) (ret (.val .none)) (eVar 3))
def g_without : PM Out :=
(sRet (eBi gTuple (bnd (opn (eLc (eEnum (eVar 0)) [2, 3] (tgTup 2 (tgCons (tgName 2) (tgCons (tgName 3) tgNil))) (ret true) C_without_0)) fun o => bnd (ret []) fun os => ret (o :: os))))
def F_without : List D → FR := runA 4 g_without
def D__law_bag_0 : PM Bool :=
(eTest (eBin gGe (eVar 1) (eBin gPow (ret (.val (.int 10))) (ret (.val (.int 15))))))
def C__law_bag_1 : PM Opd :=
(eVar 1)
def B__law_bag_2 : PM Out :=
(sSet 3 (eBin gMod (eBi gInt1 (bnd (opn (eBin gAdd (eBin gAdd (eBin gMul (eVar 3) (ret (.val (.int 48271)))) (eVar 1)) (ret (.val (.int 13))))) fun o => bnd (ret []) fun os => ret (o :: os))) (ret (.val (.int 4294967291)))))
def C__law_bag_3 : PM Opd :=
(eBin gAdd (eBin gMul (ret (.val (.int 2))) (eBi gAbs (bnd (opn (eVar 1)) fun o => bnd (ret []) fun os => ret (o :: os)))) (eBi gInt1 (bnd (opn (eBin gLt (eVar 1) (ret (.val (.int 0))))) fun o => bnd (ret []) fun os => ret (o :: os))))
def g__law_bag : PM Out :=
(sSeq (sPar2 2 3 (eLc (eIter (eScSl 0 63)) [1] (tgName 1) (ret true) C__law_bag_3) (eBin gAdd (ret (.val (.int 722015))) (eBi gLen (bnd (opn (eScSl 0 63)) fun o => bnd (ret []) fun os => ret (o :: os)))))
(sSeq (sFor (eIter (eVar 2)) (tgName 1) B__law_bag_2)
(sRet (eBag3 "far" "stirred" "count" (eLc (eIter (eVar 2)) [1] (tgName 1) D__law_bag_0 C__law_bag_1) (qVar 3) (qC (.int 0))))))
def F__law_bag : Ab → List D → FR × Ab := runB 4 g__law_bag
def g__law_draw : PM Out :=
(sSeq (sIf (eTest (eBin gLt (eVar 1) (ret (.val (.int 2)))))
(sRet (ret (.val (.int 0))))
(ret .next))
(sSeq (sIf (eCNe 0 "far")
(sSeq (sSet 3 (eCPop0 0 "far"))
(sSeq (sIf (eTest (eBin gGe (eVar 3) (eVar 1)))
(sExpr (eCIns 0 "far" (eBin gDiv (eVar 3) (eVar 1))))
(ret .next))
(sRet (eBin gMod (eBi gInt1 (bnd (opn (eVar 3)) fun o => bnd (ret []) fun os => ret (o :: os))) (eVar 1)))))
(ret .next))
(sSeq (sPutD 0 (eBin gAdd (eGetC 0 "count") (ret (.val (.int 1)))) (ret (.val (.str "count"))))
(sSeq (sSet 2 (eBin gMod (eBi gInt1 (bnd (opn (eBin gAdd (eGetC 0 "stirred") (eBin gMul (ret (.val (.int 2654435761))) (eGetC 0 "count")))) fun o => bnd (ret []) fun os => ret (o :: os))) (ret (.val (.int 4294967279)))))
(sSeq (sSet 2 (eBin gMod (eBi gInt1 (bnd (opn (eBin gAdd (eBin gAdd (eBin gMul (eVar 2) (eVar 2)) (eBin gMul (ret (.val (.int 40503))) (eGetC 0 "count"))) (ret (.val (.int 19))))) fun o => bnd (ret []) fun os => ret (o :: os))) (ret (.val (.int 4294967231)))))
(sSeq (sSet 2 (eBin gMod (eBi gInt1 (bnd (opn (eBin gAdd (eBin gMul (eVar 2) (eVar 2)) (eGetC 0 "stirred"))) fun o => bnd (ret []) fun os => ret (o :: os))) (ret (.val (.int 4294967197)))))
(sRet (eBin gMod (eBi gInt1 (bnd (opn (eBin gDiv (eVar 2) (ret (.val (.int 256))))) fun o => bnd (ret []) fun os => ret (o :: os))) (eVar 1)))))))))
def F__law_draw : Ab → List D → FR × Ab := runB 4 g__law_draw
def g__law_pick : PM Out :=
(sRet (eBin gIx (eVar 1) (eCallB 0 F__law_draw (bnd (kept (eBi gLen (bnd (opn (eVar 1)) fun o => bnd (ret []) fun os => ret (o :: os)))) fun d => bnd (ret []) fun ds => ret (d :: ds)))))
def F__law_pick : Ab → List D → FR × Ab := runB 2 g__law_pick
def D__law_mixed_0 : PM Bool :=
(eTest (eBin (gEq true) (eVar 2) (eLst (ret []))))
def B__law_mixed_1 : PM Out :=
(sSeq (sExpr (eApp 3 (ePopAt 2 (eCallB 0 F__law_draw (bnd (kept (eBi gLen (bnd (opn (eVar 2)) fun o => bnd (ret []) fun os => ret (o :: os)))) fun d => bnd (ret []) fun ds => ret (d :: ds))))))
(ret .next))
def g__law_mixed : PM Out :=
(sSeq (sPar2 2 3 (eBi gList (bnd (opn (eVar 1)) fun o => bnd (ret []) fun os => ret (o :: os))) (eLst (ret [])))
(sSeq (goWhile D__law_mixed_0 B__law_mixed_1 1000000)
(sRet (eVar 3))))
def F__law_mixed : Ab → List D → FR × Ab := runB 4 g__law_mixed
def C__law_net_0 : PM Opd :=
(eCallB 0 F__law_pick (bnd (kept (eLst (bnd (kept (ret (.val (.int 1)))) fun d => bnd (bnd (kept (ret (.val (.int 1)))) fun d => bnd (bnd (kept (ret (.val (.int 1)))) fun d => bnd (bnd (kept (ret (.val (.int 2)))) fun d => bnd (bnd (kept (ret (.val (.int 2)))) fun d => bnd (bnd (kept (ret (.val (.int 3)))) fun d => bnd (bnd (kept (ret (.val (.int 4)))) fun d => bnd (ret []) fun ds => ret (d :: ds)) fun ds => ret (d :: ds)) fun ds => ret (d :: ds)) fun ds => ret (d :: ds)) fun ds => ret (d :: ds)) fun ds => ret (d :: ds)) fun ds => ret (d :: ds)))) fun d => bnd (ret []) fun ds => ret (d :: ds)))
def B__law_net_1 : PM Out :=
(sSeq (sAsg (tgName 7) (eIf (eTest (eBin gLt (eVar 5) (ret (.val (.int 2))))) (eBin gSub (eVar 3) (ret (.val (.int 1)))) (eIf (eTest (eBin (gEq false) (eVar 5) (ret (.val (.int 2))))) (ret (.val (.int 0))) (eCallB 0 F__law_draw (bnd (kept (eVar 3)) fun d => bnd (ret []) fun ds => ret (d :: ds))))))
(sSeq (sSet 6 (eBin gAdd (eVar 6) (eLst (bnd (kept (eTup (bnd (kept (eVar 7)) fun d => bnd (bnd (kept (eVar 3)) fun d => bnd (ret []) fun ds => ret (d :: ds)) fun ds => ret (d :: ds)))) fun d => bnd (bnd (kept (eTup (bnd (kept (eVar 3)) fun d => bnd (bnd (kept (eVar 7)) fun d => bnd (ret []) fun ds => ret (d :: ds)) fun ds => ret (d :: ds)))) fun d => bnd (ret []) fun ds => ret (d :: ds)) fun ds => ret (d :: ds)))))
(sSeq (sWipe [3, 7]) (ret .next))))
def B__law_net_2 : PM Out :=
(sSeq (sAsg (tgName 3) (eCallB 0 F__law_draw (bnd (kept (eVar 1)) fun d => bnd (ret []) fun ds => ret (d :: ds))))
(sSeq (sExpr (eApp 6 (eTup (bnd (kept (eVar 3)) fun d => bnd (bnd (kept (eBin gMod (eBi gInt1 (bnd (opn (eBin gAdd (eBin gAdd (eVar 3) (ret (.val (.int 1)))) (eCallB 0 F__law_draw (bnd (kept (eBin gSub (eVar 1) (ret (.val (.int 1))))) fun d => bnd (ret []) fun ds => ret (d :: ds))))) fun o => bnd (ret []) fun os => ret (o :: os))) (eVar 1))) fun d => bnd (ret []) fun ds => ret (d :: ds)) fun ds => ret (d :: ds)))))
(sSeq (sWipe [3, 4]) (ret .next))))
def D__law_net_3 : PM Bool :=
(eTest (eBin gGt (eCallB 0 F__law_draw (bnd (kept (ret (.val (.int 4)))) fun d => bnd (ret []) fun ds => ret (d :: ds))) (ret (.val (.int 0)))))
def C__law_net_4 : PM Opd :=
(eVar 9)
def g__law_net : PM Out :=
(sSeq (sAsg (tgName 2) (eBi gTuple (bnd (opn (eLc (eRng1 (bnd (kept (eVar 1)) fun d => bnd (ret []) fun ds => ret (d :: ds))) [8] (tgName 8) (ret true) C__law_net_0)) fun o => bnd (ret []) fun os => ret (o :: os))))
(sSeq (sPar2 5 6 (eCallB 0 F__law_draw (bnd (kept (ret (.val (.int 5)))) fun d => bnd (ret []) fun ds => ret (d :: ds))) (eLst (ret [])))
(sSeq (sFor (eRng2 (bnd (kept (ret (.val (.int 1)))) fun d => bnd (bnd (kept (eVar 1)) fun d => bnd (ret []) fun ds => ret (d :: ds)) fun ds => ret (d :: ds))) (tgName 3) B__law_net_1)
(sSeq (sIf (bAnd (eTest (eBin (gEq false) (eVar 5) (ret (.val (.int 1))))) (eTest (eBin gGt (eVar 1) (ret (.val (.int 2))))))
(sSeq (sSet 6 (eBin gAdd (eVar 6) (eLst (bnd (kept (eTup (bnd (kept (eBin gSub (eVar 1) (ret (.val (.int 1))))) fun d => bnd (bnd (kept (ret (.val (.int 0)))) fun d => bnd (ret []) fun ds => ret (d :: ds)) fun ds => ret (d :: ds)))) fun d => bnd (bnd (kept (eTup (bnd (kept (ret (.val (.int 0)))) fun d => bnd (bnd (kept (eBin gSub (eVar 1) (ret (.val (.int 1))))) fun d => bnd (ret []) fun ds => ret (d :: ds)) fun ds => ret (d :: ds)))) fun d => bnd (ret []) fun ds => ret (d :: ds)) fun ds => ret (d :: ds)))))
(ret .next))
(ret .next))
(sSeq (sFor (eRng1 (bnd (kept (eIf (eTest (eBin gGt (eVar 1) (ret (.val (.int 1))))) (eCallB 0 F__law_draw (bnd (kept (eBin gAdd (eVar 1) (ret (.val (.int 1))))) fun d => bnd (ret []) fun ds => ret (d :: ds))) (ret (.val (.int 0))))) fun d => bnd (ret []) fun ds => ret (d :: ds))) (tgName 4) B__law_net_2)
(sSeq (sIf (eTest (eBin (gEq false) (eVar 5) (ret (.val (.int 4)))))
(sSeq (sSet 6 (eLc (eIter (eVar 6)) [9] (tgName 9) D__law_net_3 C__law_net_4))
(ret .next))
(ret .next))
(sRet (eTup (bnd (kept (eVar 2)) fun d => bnd (bnd (kept (eBi gTuple (bnd (opn (eSortSet (eVar 6))) fun o => bnd (ret []) fun os => ret (o :: os)))) fun d => bnd (ret []) fun ds => ret (d :: ds)) fun ds => ret (d :: ds))))))))))
def F__law_net : Ab → List D → FR × Ab := runB 10 g__law_net
def D__law_nexts_0 : PM Bool :=
(eTest (eBin (gEq false) (eVar 2) (eVar 1)))
def C__law_nexts_1 : PM Opd :=
(eVar 3)
def g__law_nexts : PM Out :=
(sRet (eLc (eIter (eBin gIx (eVar 0) (ret (.val (.int 1))))) [2, 3] (tgTup 2 (tgCons (tgName 2) (tgCons (tgName 3) tgNil))) D__law_nexts_0 C__law_nexts_1))
def F__law_nexts : List D → FR := runA 4 g__law_nexts
def B__law_way_0 (F__law_way : Ab → List D → List D → FR × Ab × List D) : PM Out :=
(sSeq (sAsg (tgName 9) (eIf (eTest (eBin (gEq false) (eCallB 0 F__law_draw (bnd (kept (ret (.val (.int 3)))) fun d => bnd (ret []) fun ds => ret (d :: ds))) (ret (.val (.int 0))))) (eCallB 0 F__law_draw (bnd (kept (ret (.val (.int 3)))) fun d => bnd (ret []) fun ds => ret (d :: ds))) (ret (.val (.int 0)))))
(sSeq (sExpr (eApp 7 (eCallW 0 F__law_way (bnd (kept (eVar 1)) fun d => bnd (bnd (kept (eVar 8)) fun d => bnd (bnd (kept (eBi gMax2 (bnd (opn (ret (.val (.int 0)))) fun o => bnd (bnd (opn (eBin gSub (eBin gSub (eVar 3) (ret (.val (.int 1)))) (eVar 9))) fun o => bnd (ret []) fun os => ret (o :: os)) fun os => ret (o :: os)))) fun d => bnd (bnd (eVar 4) fun o => ret ([], o)) fun r => ret (d :: r.1, r.2)) fun r => ret (d :: r.1, r.2)) fun r => ret (d :: r.1, r.2)))))
(sSeq (sWipe [8, 9]) (ret .next))))
def g__law_way (F__law_way : Ab → List D → List D → FR × Ab × List D) : PM Out :=
(sSeq (sAsg (tgName 5) (eCallA F__law_nexts (bnd (kept (eVar 1)) fun d => bnd (bnd (kept (eVar 2)) fun d => bnd (ret []) fun ds => ret (d :: ds)) fun ds => ret (d :: ds))))
(sSeq (sIf (bOr (eTest (eBin (gEq false) (eVar 3) (ret (.val (.int 0))))) (eTest (eBin (gEq false) (eVar 5) (eLst (ret [])))))
(sRet (eTup (bnd (kept (eVar 2)) fun d => bnd (bnd (kept (eTup (ret []))) fun d => bnd (ret []) fun ds => ret (d :: ds)) fun ds => ret (d :: ds))))
(ret .next))
(sSeq (sAsg (tgName 6) (ret (.val (.int 1))))
(sSeq (sIf (bAnd (eTest (eBin gGt (eBin gIx (eVar 4) (ret (.val (.int 0)))) (ret (.val (.int 0))))) (bAnd (eTest (eBin gGt (eBi gLen (bnd (opn (eVar 5)) fun o => bnd (ret []) fun os => ret (o :: os))) (ret (.val (.int 1))))) (eTest (eBin (gEq false) (eCallB 0 F__law_draw (bnd (kept (ret (.val (.int 3)))) fun d => bnd (ret []) fun ds => ret (d :: ds))) (ret (.val (.int 0)))))))
(sSeq (sAsg (tgName 6) (eBi gMin3 (bnd (opn (eBi gLen (bnd (opn (eVar 5)) fun o => bnd (ret []) fun os => ret (o :: os)))) fun o => bnd (bnd (opn (eBin gAdd (eBin gIx (eVar 4) (ret (.val (.int 0)))) (ret (.val (.int 1))))) fun o => bnd (bnd (opn (eBin gAdd (ret (.val (.int 2))) (eCallB 0 F__law_draw (bnd (kept (ret (.val (.int 2)))) fun d => bnd (ret []) fun ds => ret (d :: ds))))) fun o => bnd (ret []) fun os => ret (o :: os)) fun os => ret (o :: os)) fun os => ret (o :: os))))
(sSeq (sPutFl 4 (eBin gAdd (eBin gSub (eBin gIx (eVar 4) (ret (.val (.int 0)))) (eVar 6)) (ret (.val (.int 1)))) (ret (.val (.int 0))))
(ret .next)))
(ret .next))
(sSeq (sSet 7 (eLst (ret [])))
(sSeq (sFor (eIter (eBi gSorted (bnd (opn (eSl gSl (eCallB 0 F__law_mixed (bnd (kept (eVar 5)) fun d => bnd (ret []) fun ds => ret (d :: ds))) (ret none) (bnd (eVar 6) toPart))) fun o => bnd (ret []) fun os => ret (o :: os)))) (tgName 8) (B__law_way_0 F__law_way))
(sRet (eTup (bnd (kept (eVar 2)) fun d => bnd (bnd (kept (eBi gTuple (bnd (opn (eVar 7)) fun o => bnd (ret []) fun os => ret (o :: os)))) fun d => bnd (ret []) fun ds => ret (d :: ds)) fun ds => ret (d :: ds))))))))))
def F__law_way : Nat → Ab → List D → List D → FR × Ab × List D
  | 0 => badW
  | n + 1 => runW 10 4 (g__law_way (F__law_way n))
def C__law_far_0 (F__law_far : List D → FR) : PM Opd :=
(eBin gAdd (ret (.val (.int 1))) (eCallA F__law_far (bnd (kept (eVar 1)) fun d => bnd (ret []) fun ds => ret (d :: ds))))
def g__law_far (F__law_far : List D → FR) : PM Out :=
(sRet (eBi gMaxL (bnd (opn (eBin gAdd (eLst (bnd (kept (ret (.val (.int 0)))) fun d => bnd (ret []) fun ds => ret (d :: ds))) (eLc (eIter (eBin gIx (eVar 0) (ret (.val (.int 1))))) [1] (tgName 1) (ret true) (C__law_far_0 F__law_far)))) fun o => bnd (ret []) fun os => ret (o :: os))))
def F__law_far : Nat → List D → FR
  | 0 => badA
  | n + 1 => runA 2 (g__law_far (F__law_far n))
def D__law_standing_0 : PM Bool :=
(eTest (eBin gGt (eBin gIx (eVar 5) (eVar 8)) (ret (.val (.int 0)))))
def C__law_standing_1 : PM Opd :=
(eVar 8)
def B__law_standing_2 : PM Out :=
(sSeq (sSet 7 (eLc (eRng1 (bnd (kept (eBi gLen (bnd (opn (eVar 5)) fun o => bnd (ret []) fun os => ret (o :: os)))) fun d => bnd (ret []) fun ds => ret (d :: ds))) [8] (tgName 8) D__law_standing_0 C__law_standing_1))
(sSeq (sFrz 7)
(sSeq (sIf (bOr (eTest (eBin (gEq false) (eVar 7) (eLst (ret [])))) (eTest (eBin (gEq false) (eCallB 0 F__law_draw (bnd (kept (ret (.val (.int 9)))) fun d => bnd (ret []) fun ds => ret (d :: ds))) (ret (.val (.int 0))))))
(sSeq (sExpr (eApp 6 (ret (.val .none))))
(ret .next))
(sSeq (sAsg (tgName 8) (eCallB 0 F__law_pick (bnd (kept (eVar 7)) fun d => bnd (ret []) fun ds => ret (d :: ds))))
(sSeq (sPutAt 5 (eBin gSub (eBin gIx (eVar 5) (eVar 8)) (ret (.val (.int 1)))) (eVar 8))
(sSeq (sSet 9 (eLst (bnd (kept (eCallB 0 F__law_pick (bnd (kept (eLst (bnd (kept (ret (.val (.int 0)))) fun d => bnd (bnd (kept (ret (.val (.int 0)))) fun d => bnd (bnd (kept (ret (.val (.int 1)))) fun d => bnd (bnd (kept (ret (.val (.int 2)))) fun d => bnd (ret []) fun ds => ret (d :: ds)) fun ds => ret (d :: ds)) fun ds => ret (d :: ds)) fun ds => ret (d :: ds)))) fun d => bnd (ret []) fun ds => ret (d :: ds)))) fun d => bnd (ret []) fun ds => ret (d :: ds))))
(sSeq (sExpr (eApp 6 (eCallW 0 (F__law_way 14) (bnd (kept (eVar 1)) fun d => bnd (bnd (kept (eVar 8)) fun d => bnd (bnd (kept (eCallB 0 F__law_draw (bnd (kept (eBin gAdd (eVar 3) (ret (.val (.int 1))))) fun d => bnd (ret []) fun ds => ret (d :: ds)))) fun d => bnd (bnd (eVar 9) fun o => ret ([], o)) fun r => ret (d :: r.1, r.2)) fun r => ret (d :: r.1, r.2)) fun r => ret (d :: r.1, r.2)))))
(sSeq (sWipe [8, 9]) (ret .next)))))))
(sSeq (sWipe [4, 7]) (ret .next)))))
def g__law_standing : PM Out :=
(sSeq (sPar2 5 6 (eBi gList (bnd (opn (eBin gIx (eVar 1) (ret (.val (.int 0))))) fun o => bnd (ret []) fun os => ret (o :: os))) (eLst (ret [])))
(sSeq (sFor (eRng1 (bnd (kept (eVar 2)) fun d => bnd (ret []) fun ds => ret (d :: ds))) (tgName 4) B__law_standing_2)
(sRet (eBi gTuple (bnd (opn (eVar 6)) fun o => bnd (ret []) fun os => ret (o :: os))))))
def F__law_standing : Ab → List D → FR × Ab := runB 10 g__law_standing
def D__law_at_0 : PM Bool :=
(bAnd (eTest (eBin (gIsN true) (eVar 3) (ret (.val .none)))) (eTest (eBin (gEq false) (eBin gIx (eVar 3) (ret (.val (.int 0)))) (eVar 1))))
def C__law_at_1 : PM Opd :=
(eVar 2)
def g__law_at : PM Out :=
(sRet (eLc (eEnum (eVar 0)) [2, 3] (tgTup 2 (tgCons (tgName 2) (tgCons (tgName 3) tgNil))) D__law_at_0 C__law_at_1))
def F__law_at : List D → FR := runA 4 g__law_at
def B__law_is_counted_0 : PM Out :=
(sSeq (sAsg (tgName 4) (eCallA F__law_at (bnd (kept (eVar 1)) fun d => bnd (bnd (kept (eVar 3)) fun d => bnd (ret []) fun ds => ret (d :: ds)) fun ds => ret (d :: ds))))
(sSeq (sSet 5 (eLst (bnd (kept (eCallA F_trains_at (bnd (kept (eVar 1)) fun d => bnd (bnd (kept (eVar 3)) fun d => bnd (ret []) fun ds => ret (d :: ds)) fun ds => ret (d :: ds)))) fun d => bnd (bnd (kept (eCallA F_free_tracks (bnd (kept (eVar 0)) fun d => bnd (bnd (kept (eVar 1)) fun d => bnd (bnd (kept (eVar 3)) fun d => bnd (ret []) fun ds => ret (d :: ds)) fun ds => ret (d :: ds)) fun ds => ret (d :: ds)))) fun d => bnd (ret []) fun ds => ret (d :: ds)) fun ds => ret (d :: ds))))
(sSeq (sIf (eTruth (eVar 2))
(sSeq (sSet 5 (eLst (bnd (kept (eCallK [1, 0] F_trains_at (bnd (kept (eVar 3)) fun d => bnd (bnd (kept (eVar 1)) fun d => bnd (ret []) fun ds => ret (d :: ds)) fun ds => ret (d :: ds)))) fun d => bnd (ret []) fun ds => ret (d :: ds))))
(sSeq (sExpr (eApp 5 (eCallK [2, 1, 0] F_free_tracks (bnd (kept (eVar 3)) fun d => bnd (bnd (kept (eVar 1)) fun d => bnd (bnd (kept (eVar 0)) fun d => bnd (ret []) fun ds => ret (d :: ds)) fun ds => ret (d :: ds)) fun ds => ret (d :: ds)))))
(ret .next)))
(ret .next))
(sSeq (sIf (eTest (eBin (gEq true) (eBi gRepr (bnd (opn (eVar 5)) fun o => bnd (ret []) fun os => ret (o :: os))) (eBi gRepr (bnd (opn (eLst (bnd (kept (eBi gTuple (bnd (opn (eVar 4)) fun o => bnd (ret []) fun os => ret (o :: os)))) fun d => bnd (bnd (kept (eBin gSub (eBin gIx (eBin gIx (eVar 0) (ret (.val (.int 0)))) (eVar 3)) (eBi gLen (bnd (opn (eVar 4)) fun o => bnd (ret []) fun os => ret (o :: os))))) fun d => bnd (ret []) fun ds => ret (d :: ds)) fun ds => ret (d :: ds)))) fun o => bnd (ret []) fun os => ret (o :: os)))))
(sRet (ret (.val (.bool false))))
(ret .next))
(sSeq (sWipe [3, 4, 5]) (ret .next))))))
def g__law_is_counted : PM Out :=
(sSeq (sFor (eRng1 (bnd (kept (eBi gLen (bnd (opn (eBin gIx (eVar 0) (ret (.val (.int 0))))) fun o => bnd (ret []) fun os => ret (o :: os)))) fun d => bnd (ret []) fun ds => ret (d :: ds))) (tgName 3) B__law_is_counted_0)
(sRet (ret (.val (.bool true)))))
def F__law_is_counted : List D → FR := runA 6 g__law_is_counted
def C__law_are_wishes_told_0 : PM Opd :=
(eBin gIx (eVar 7) (ret (.val (.int 0))))
def B__law_are_wishes_told_1 : PM Out :=
(sSeq (sAsg (tgName 6) (eIf (eTest (eBin (gIsN false) (eVar 5) (ret (.val .none)))) (eTup (ret [])) (eBi gTuple (bnd (opn (eLc (eIter (eBin gIx (eVar 5) (ret (.val (.int 1))))) [7] (tgName 7) (ret true) C__law_are_wishes_told_0)) fun o => bnd (ret []) fun os => ret (o :: os)))))
(sSeq (sAsg (tgName 3) (eIf (eTruth (eVar 1)) (eCallK [1, 0] F_wants (bnd (kept (eVar 4)) fun d => bnd (bnd (kept (eVar 0)) fun d => bnd (ret []) fun ds => ret (d :: ds)) fun ds => ret (d :: ds))) (eCallA F_wants (bnd (kept (eVar 0)) fun d => bnd (bnd (kept (eVar 4)) fun d => bnd (ret []) fun ds => ret (d :: ds)) fun ds => ret (d :: ds)))))
(sSeq (sIf (bOr (eTest (eBin (gEq true) (eBi gRepr (bnd (opn (eVar 3)) fun o => bnd (ret []) fun os => ret (o :: os))) (eBi gRepr (bnd (opn (eVar 6)) fun o => bnd (ret []) fun os => ret (o :: os))))) (eTest (eBin (gEq true) (eBi gRepr (bnd (opn (eCallA F_wants (bnd (kept (eVar 0)) fun d => bnd (bnd (kept (eVar 4)) fun d => bnd (ret []) fun ds => ret (d :: ds)) fun ds => ret (d :: ds)))) fun o => bnd (ret []) fun os => ret (o :: os))) (eBi gRepr (bnd (opn (eVar 6)) fun o => bnd (ret []) fun os => ret (o :: os))))))
(sRet (ret (.val (.bool false))))
(ret .next))
(sSeq (sAsg (tgName 2) (eBin gAdd (eVar 2) (eIf (eTest (eBin (gIsN false) (eVar 5) (ret (.val .none)))) (ret (.val (.int 0))) (eBin gAdd (ret (.val (.int 1))) (eCallA (F__law_far 16) (bnd (kept (eVar 5)) fun d => bnd (ret []) fun ds => ret (d :: ds)))))))
(sSeq (sWipe [3, 4, 5, 6]) (ret .next))))))
def D__law_are_wishes_told_2 : PM Bool :=
(eTest (eBin (gIsN true) (eVar 5) (ret (.val .none))))
def C__law_are_wishes_told_3 : PM Opd :=
(eVar 5)
def g__law_are_wishes_told : PM Out :=
(sSeq (sAsg (tgName 2) (ret (.val (.int 0))))
(sSeq (sFor (eEnum (eVar 0)) (tgTup 2 (tgCons (tgName 4) (tgCons (tgName 5) tgNil))) B__law_are_wishes_told_1)
(sSeq (sAsg (tgName 3) (eLst (bnd (kept (eCallA F_steps_left (bnd (kept (eVar 0)) fun d => bnd (ret []) fun ds => ret (d :: ds)))) fun d => bnd (bnd (kept (eCallA F_all_gone (bnd (kept (eVar 0)) fun d => bnd (ret []) fun ds => ret (d :: ds)))) fun d => bnd (ret []) fun ds => ret (d :: ds)) fun ds => ret (d :: ds))))
(sSeq (sIf (eTruth (eVar 1))
(sSeq (sAsg (tgName 3) (eLst (bnd (kept (eCallK [0] F_steps_left (bnd (kept (eVar 0)) fun d => bnd (ret []) fun ds => ret (d :: ds)))) fun d => bnd (bnd (kept (eCallK [0] F_all_gone (bnd (kept (eVar 0)) fun d => bnd (ret []) fun ds => ret (d :: ds)))) fun d => bnd (ret []) fun ds => ret (d :: ds)) fun ds => ret (d :: ds))))
(ret .next))
(ret .next))
(sRet (eBin (gEq false) (eBi gRepr (bnd (opn (eVar 3)) fun o => bnd (ret []) fun os => ret (o :: os))) (eBi gRepr (bnd (opn (eLst (bnd (kept (eVar 2)) fun d => bnd (bnd (kept (eBin (gEq false) (eLc (eIter (eVar 0)) [5] (tgName 5) D__law_are_wishes_told_2 C__law_are_wishes_told_3) (eLst (ret [])))) fun d => bnd (ret []) fun ds => ret (d :: ds)) fun ds => ret (d :: ds)))) fun o => bnd (ret []) fun os => ret (o :: os)))))))))
def F__law_are_wishes_told : List D → FR := runA 8 g__law_are_wishes_told
def C__law_are_left_0 : PM Opd :=
(eIf (eTest (eBin (gIn false) (eVar 8) (eVar 5))) (ret (.val .none)) (eVar 9))
def B__law_are_left_1 : PM Out :=
(sSeq (sAsg (tgName 6) (eBi gRepr (bnd (opn (eBi gTuple (bnd (opn (eLc (eEnum (eVar 1)) [8, 9] (tgTup 2 (tgCons (tgName 8) (tgCons (tgName 9) tgNil))) (ret true) C__law_are_left_0)) fun o => bnd (ret []) fun os => ret (o :: os)))) fun o => bnd (ret []) fun os => ret (o :: os))))
(sSeq (sAsg (tgName 7) (eIf (eTruth (eVar 2)) (eCallK [1, 0] F_without (bnd (kept (eVar 5)) fun d => bnd (bnd (kept (eVar 1)) fun d => bnd (ret []) fun ds => ret (d :: ds)) fun ds => ret (d :: ds))) (eCallA F_without (bnd (kept (eVar 1)) fun d => bnd (bnd (kept (eVar 5)) fun d => bnd (ret []) fun ds => ret (d :: ds)) fun ds => ret (d :: ds)))))
(sSeq (sIf (bOr (eTest (eBin (gEq true) (eBi gRepr (bnd (opn (eVar 7)) fun o => bnd (ret []) fun os => ret (o :: os))) (eVar 6))) (eTest (eBin (gEq true) (eBi gRepr (bnd (opn (eCallA F_without (bnd (kept (eVar 1)) fun d => bnd (bnd (kept (eVar 5)) fun d => bnd (ret []) fun ds => ret (d :: ds)) fun ds => ret (d :: ds)))) fun o => bnd (ret []) fun os => ret (o :: os))) (eVar 6))))
(sRet (ret (.val (.bool false))))
(ret .next))
(sSeq (sWipe [5, 6, 7]) (ret .next)))))
def g__law_are_left : PM Out :=
(sSeq (sAsg (tgName 3) (eLrg1 (eBi gLen (bnd (opn (eVar 1)) fun o => bnd (ret []) fun os => ret (o :: os)))))
(sSeq (sAsg (tgName 4) (eLst (bnd (kept (eTup (ret []))) fun d => bnd (bnd (kept (eBi gTuple (bnd (opn (eVar 3)) fun o => bnd (ret []) fun os => ret (o :: os)))) fun d => bnd (bnd (kept (eBi gTuple (bnd (opn (eBi gSorted (bnd (opn (eSl gSl (eCallB 0 F__law_mixed (bnd (kept (eVar 3)) fun d => bnd (ret []) fun ds => ret (d :: ds))) (ret none) (bnd (eCallB 0 F__law_draw (bnd (kept (eBin gAdd (eBi gLen (bnd (opn (eVar 3)) fun o => bnd (ret []) fun os => ret (o :: os))) (ret (.val (.int 1))))) fun d => bnd (ret []) fun ds => ret (d :: ds))) toPart))) fun o => bnd (ret []) fun os => ret (o :: os)))) fun o => bnd (ret []) fun os => ret (o :: os)))) fun d => bnd (ret []) fun ds => ret (d :: ds)) fun ds => ret (d :: ds)) fun ds => ret (d :: ds))))
(sSeq (sFor (eIter (eVar 4)) (tgName 5) B__law_are_left_1)
(sRet (ret (.val (.bool true)))))))
def F__law_are_left : Ab → List D → FR × Ab := runB 10 g__law_are_left
def B_law_0 : PM Out :=
(sSeq (sAsg (tgName 3) (eCallB 1 F__law_net (bnd (kept (eBin gIx (eLst (bnd (kept (ret (.val (.int 1)))) fun d => bnd (bnd (kept (ret (.val (.int 2)))) fun d => bnd (bnd (kept (ret (.val (.int 3)))) fun d => bnd (bnd (kept (ret (.val (.int 4)))) fun d => bnd (bnd (kept (ret (.val (.int 5)))) fun d => bnd (bnd (kept (ret (.val (.int 7)))) fun d => bnd (bnd (kept (ret (.val (.int 10)))) fun d => bnd (ret []) fun ds => ret (d :: ds)) fun ds => ret (d :: ds)) fun ds => ret (d :: ds)) fun ds => ret (d :: ds)) fun ds => ret (d :: ds)) fun ds => ret (d :: ds)) fun ds => ret (d :: ds))) (eVar 2))) fun d => bnd (ret []) fun ds => ret (d :: ds))))
(sSeq (sAsg (tgName 4) (eCallB 1 F__law_standing (bnd (kept (eVar 3)) fun d => bnd (bnd (kept (eCallB 1 F__law_pick (bnd (kept (eLst (bnd (kept (ret (.val (.int 0)))) fun d => bnd (bnd (kept (ret (.val (.int 1)))) fun d => bnd (bnd (kept (ret (.val (.int 3)))) fun d => bnd (bnd (kept (ret (.val (.int 5)))) fun d => bnd (bnd (kept (ret (.val (.int 8)))) fun d => bnd (bnd (kept (ret (.val (.int 12)))) fun d => bnd (ret []) fun ds => ret (d :: ds)) fun ds => ret (d :: ds)) fun ds => ret (d :: ds)) fun ds => ret (d :: ds)) fun ds => ret (d :: ds)) fun ds => ret (d :: ds)))) fun d => bnd (ret []) fun ds => ret (d :: ds)))) fun d => bnd (bnd (kept (ret (.val (.int 5)))) fun d => bnd (ret []) fun ds => ret (d :: ds)) fun ds => ret (d :: ds)) fun ds => ret (d :: ds))))
(sSeq (sIf (bAnd (eTest (eBin (gEq false) (eVar 2) (ret (.val (.int 2))))) (eTest (eBin (gEq false) (eCallB 1 F__law_draw (bnd (kept (ret (.val (.int 3)))) fun d => bnd (ret []) fun ds => ret (d :: ds))) (ret (.val (.int 0))))))
(sSeq (sAsg (tgName 4) (eBin gMulT (eTup (bnd (kept (ret (.val .none))) fun d => bnd (ret []) fun ds => ret (d :: ds))) (eBi gLen (bnd (opn (eVar 4)) fun o => bnd (ret []) fun os => ret (o :: os)))))
(ret .next))
(ret .next))
(sSeq (sAsg (tgName 5) (eBi gRepr (bnd (opn (eLst (bnd (kept (eVar 3)) fun d => bnd (bnd (kept (eVar 4)) fun d => bnd (ret []) fun ds => ret (d :: ds)) fun ds => ret (d :: ds)))) fun o => bnd (ret []) fun os => ret (o :: os))))
(sSeq (sIf (bOr (bNot (eTruth (eCallA F__law_is_counted (bnd (kept (eVar 3)) fun d => bnd (bnd (kept (eVar 4)) fun d => bnd (bnd (kept (eBin (gEq false) (eVar 2) (ret (.val (.int 1))))) fun d => bnd (ret []) fun ds => ret (d :: ds)) fun ds => ret (d :: ds)) fun ds => ret (d :: ds))))) (bNot (eTruth (eCallA F__law_are_wishes_told (bnd (kept (eVar 4)) fun d => bnd (bnd (kept (eBin (gEq false) (eVar 2) (ret (.val (.int 3))))) fun d => bnd (ret []) fun ds => ret (d :: ds)) fun ds => ret (d :: ds))))))
(sRet (ret (.val (.bool false))))
(ret .next))
(sSeq (sIf (bOr (bNot (eTruth (eCallB 1 F__law_are_left (bnd (kept (eVar 4)) fun d => bnd (bnd (kept (eBin (gEq false) (eVar 2) (ret (.val (.int 4))))) fun d => bnd (ret []) fun ds => ret (d :: ds)) fun ds => ret (d :: ds))))) (eTest (eBin (gEq true) (eBi gRepr (bnd (opn (eLst (bnd (kept (eVar 3)) fun d => bnd (bnd (kept (eVar 4)) fun d => bnd (ret []) fun ds => ret (d :: ds)) fun ds => ret (d :: ds)))) fun o => bnd (ret []) fun os => ret (o :: os))) (eVar 5))))
(sRet (ret (.val (.bool false))))
(ret .next))
(sSeq (sWipe [2, 3, 4, 5]) (ret .next))))))))
def g_law : PM Out :=
(sSeq (sSet 1 (eCallB 0 F__law_bag (ret [])))
(sSeq (sFor (eRng1 (bnd (kept (ret (.val (.int 7)))) fun d => bnd (ret []) fun ds => ret (d :: ds))) (tgName 2) B_law_0)
(sRet (ret (.val (.bool true))))))
section
variable {P : Program} {w : World} {K : PySem.W.Frag} {mg : Str → Option Value} {base : Heap}
theorem G_longest (t : T K mg) : ∀ n : Nat, FnG P w K mg base CX0 (1 + n) t.a_longest t.d_longest ["way"] (SpA K 1 (F_longest n))
  | 0 => fn0A
  | n + 1 => by
    have ih := G_longest t n
    refine fnA_of (k := 1 + n) (g := g_longest (F_longest n)) t.F_longest sclongest rfl rfl fun cdv A outer s H E hr hgu => ?_
    have hu := hr.units
    have hu1 := hr.units0
    have hd := units1 hr
    exact (pssx_one (psx_ret (px_bi (bi_maxL rfl) (pax_cons (px_op o2_add (px_lst (paf_cons px_int paf_nil)) (px_lc (own := [("branch", 1)]) rfl sclongest.nd (pix_seq (px_ix i2_ix (px_var 0) px_int (fun _ _ => rfl))) (blkOk_by (show blkC ["way", "branch"] (defScope slongest) _ _ = true from by decide +kernel)) (fun _ _ _ _ _ => (tgx_name (i := 1) sclongest.nd)) (fun _ _ _ _ _ => ptsx_nil) (fun _ _ _ _ _ => (px_op o2_add (px_callA ((ih).mono (Nat.le_refl _)) hr hgu t.g_longest t.F_longest.kp t.n_longest pass0A (paf_cons (px_var 1) paf_nil)) px_int)) (by decide) (by decide))) pax_nil) rfl t.b_max bt_max)))
theorem G_trains_at (t : T K mg) : FnG P w K mg base CX0 1 t.a_trains_at t.d_trains_at ["standing", "station"] (SpA K 2 F_trains_at) := by
  refine fnA_of (g := g_trains_at) t.F_trains_at sctrains_at rfl rfl fun cdv A outer s H E hr hgu => ?_
  have hu := hr.units
  have hu1 := hr.units0
  have hd := units1 hr
  exact (pssx_one (psx_ret (px_ty bi_tuple (pax_cons (px_lc (own := [("train", 2), ("way", 3)]) rfl sctrains_at.nd (pix_enum t.b_enumerate (px_var 0)) (blkOk_by (show blkC ["standing", "station", "train", "way"] (defScope strains_at) _ _ = true from by decide +kernel)) (fun _ _ _ _ _ => (tgx_tup rfl (tgsx_cons (tgx_name (i := 2) sctrains_at.nd) (tgsx_cons (tgx_name (i := 3) sctrains_at.nd) tgsx_nil)))) (fun _ _ _ _ _ => (ptsx_one (ptx_pw (pwx_and (ptx_cmp o2_notN (px_var 3) px_non (nomark _)) (pwx_and1 (ptx_cmp (o2_eq hu) (px_ix i2_ix (px_var 3) px_int (fun _ _ => rfl)) (px_var 1) (nomark _))))))) (fun _ _ _ _ _ => (px_var 2)) (by decide) (by decide)) pax_nil) rfl t.b_tuple bt_tuple)))
theorem G_free_tracks (t : T K mg) : FnG P w K mg base CX0 2 t.a_free_tracks t.d_free_tracks ["net", "standing", "station"] (SpA K 3 F_free_tracks) := by
  refine fnA_of (g := g_free_tracks) t.F_free_tracks scfree_tracks rfl rfl fun cdv A outer s H E hr hgu => ?_
  have hu := hr.units
  have hu1 := hr.units0
  have hd := units1 hr
  exact (pssx_one (psx_ret (px_op o2_sub (px_ix i2_ix (px_ix i2_ix (px_var 0) px_int (fun _ _ => rfl)) (px_var 2) (fun _ _ => rfl)) (px_bi bi_len (pax_cons (px_callA ((G_trains_at t).mono (by decide)) hr hgu t.g_trains_at t.F_trains_at.kp t.n_trains_at pass0A (paf_cons (px_var 1) (paf_cons (px_var 2) paf_nil))) pax_nil) rfl t.b_len bt_len))))
theorem G_wants (t : T K mg) : FnG P w K mg base CX0 1 t.a_wants t.d_wants ["standing", "train"] (SpA K 2 F_wants) := by
  refine fnA_of (g := g_wants) t.F_wants scwants rfl rfl fun cdv A outer s H E hr hgu => ?_
  have hu := hr.units
  have hu1 := hr.units0
  have hd := units1 hr
  exact (pssx_cons (psx_asg (px_ix i2_ix (px_var 0) (px_var 1) (fun _ _ => rfl)) (tgx_name (i := 2) scwants.nd))
    (pssx_cons (psx_if (ptx_cmp o2_isN (px_var 2) px_non (nomark _))
    (pssx_one (psx_ret (px_tup paf_nil)))
    pssx_nil)
    (pssx_one (psx_ret (px_ty bi_tuple (pax_cons (px_lc (own := [("branch", 3)]) rfl scwants.nd (pix_seq (px_ix i2_ix (px_var 2) px_int (fun _ _ => rfl))) (blkOk_by (show blkC ["standing", "train", "way", "branch"] (defScope swants) _ _ = true from by decide +kernel)) (fun _ _ _ _ _ => (tgx_name (i := 3) scwants.nd)) (fun _ _ _ _ _ => ptsx_nil) (fun _ _ _ _ _ => (px_ix i2_ix (px_var 3) px_int (fun _ _ => rfl))) (by decide) (by decide)) pax_nil) rfl t.b_tuple bt_tuple)))))
theorem G_steps_left (t : T K mg) : FnG P w K mg base CX0 18 t.a_steps_left t.d_steps_left ["standing"] (SpA K 1 F_steps_left) := by
  refine fnA_of (g := g_steps_left) t.F_steps_left scsteps_left rfl rfl fun cdv A outer s H E hr hgu => ?_
  have hu := hr.units
  have hu1 := hr.units0
  have hd := units1 hr
  exact (pssx_one (psx_ret (px_bi (bi_sum rfl) (pax_cons (px_lc (own := [("way", 1)]) rfl scsteps_left.nd (pix_seq (px_var 0)) (blkOk_by (show blkC ["standing", "way"] (defScope ssteps_left) _ _ = true from by decide +kernel)) (fun _ _ _ _ _ => (tgx_name (i := 1) scsteps_left.nd)) (fun _ _ _ _ _ => (ptsx_one (ptx_cmp o2_notN (px_var 1) px_non (nomark _)))) (fun _ _ _ _ _ => (px_op o2_add (px_callA ((G_longest t 16).mono (by decide)) hr hgu t.g_longest t.F_longest.kp t.n_longest pass0A (paf_cons (px_var 1) paf_nil)) px_int)) (by decide) (by decide)) pax_nil) rfl t.b_sum bt_sum)))
theorem G_all_gone (t : T K mg) : FnG P w K mg base CX0 1 t.a_all_gone t.d_all_gone ["standing"] (SpA K 1 F_all_gone) := by
  refine fnA_of (g := g_all_gone) t.F_all_gone scall_gone rfl rfl fun cdv A outer s H E hr hgu => ?_
  have hu := hr.units
  have hu1 := hr.units0
  have hd := units1 hr
  exact (pssx_one (psx_ret (px_bi (bi_all rfl) (pax_cons (px_lc (own := [("way", 1)]) rfl scall_gone.nd (pix_seq (px_var 0)) (blkOk_by (show blkC ["standing", "way"] (defScope sall_gone) _ _ = true from by decide +kernel)) (fun _ _ _ _ _ => (tgx_name (i := 1) scall_gone.nd)) (fun _ _ _ _ _ => ptsx_nil) (fun _ _ _ _ _ => (px_cmp o2_isN (px_var 1) px_non (nomark _))) (by decide) (by decide)) pax_nil) rfl t.b_all bt_all)))
theorem G_without (t : T K mg) : FnG P w K mg base CX0 1 t.a_without t.d_without ["standing", "trains"] (SpA K 2 F_without) := by
  refine fnA_of (g := g_without) t.F_without scwithout rfl rfl fun cdv A outer s H E hr hgu => ?_
  have hu := hr.units
  have hu1 := hr.units0
  have hd := units1 hr
  exact (pssx_one (psx_ret (px_ty bi_tuple (pax_cons (px_lc (own := [("train", 2), ("way", 3)]) rfl scwithout.nd (pix_enum t.b_enumerate (px_var 0)) (blkOk_by (show blkC ["standing", "trains", "train", "way"] (defScope swithout) _ _ = true from by decide +kernel)) (fun _ _ _ _ _ => (tgx_tup rfl (tgsx_cons (tgx_name (i := 2) scwithout.nd) (tgsx_cons (tgx_name (i := 3) scwithout.nd) tgsx_nil)))) (fun _ _ _ _ _ => ptsx_nil) (fun _ _ _ _ _ => (px_if (ptx_cmp (o2_in hu) (px_var 2) (px_var 1) rfl) px_non (px_var 3))) (by decide) (by decide)) pax_nil) rfl t.b_tuple bt_tuple)))
theorem G__law_bag (t : T K mg) : FnG P w K mg base CX0 1 t.a__law_bag t.d__law_bag ["script"] (SpB K 0 F__law_bag) := by
  refine fnB_of (g := g__law_bag) t.F__law_bag sc_law_bag rfl rfl fun cdv A outer s H E hr hgu => ?_
  have hu := hr.units
  have hu1 := hr.units0
  have hd := units1 hr
  exact (pssx_cons (psx_par2 (i := 2) (j := 3) rfl sc_law_bag.nd (px_lc (own := [("cell", 1)]) rfl sc_law_bag.nd (pix_seq (px_scSl (i := 0))) (blkOk_by (show blkC ["script", "cell", "cells", "stirred"] (defScope s_law_bag) _ _ = true from by decide +kernel)) (fun _ _ _ _ _ => (tgx_name (i := 1) sc_law_bag.nd)) (fun _ _ _ _ _ => ptsx_nil) (fun _ _ _ _ _ => (px_op o2_add (px_op o2_mul px_int (px_bi bi_abs (pax_cons (px_var 1) pax_nil) rfl t.b_abs bt_abs)) (px_ty bi_int (pax_cons (px_cmp (o2_lt hu1) (px_var 1) px_int (nomark _)) pax_nil) rfl t.b_int bt_int))) (by decide) (by decide)) (px_op o2_add px_int (px_bi bi_len (pax_cons (px_scSl (i := 0)) pax_nil) rfl t.b_len bt_len)))
    (pssx_cons (psx_for PassesOwn.never rfl (pix_seq (px_var 2)) (tgx_name (i := 1) sc_law_bag.nd)
    (pssx_one (psx_set (i := 3) sc_law_bag.nd (px_op o2_mod (px_ty bi_int (pax_cons (px_op o2_add (px_op o2_add (px_op o2_mul (px_var 3) px_int) (px_var 1)) px_int) pax_nil) rfl t.b_int bt_int) px_int))))
    (pssx_one (psx_ret (px_bag3 (px_lc (own := [("cell", 1)]) rfl sc_law_bag.nd (pix_seq (px_var 2)) (blkOk_by (show blkC ["script", "cell", "cells", "stirred"] (defScope s_law_bag) _ _ = true from by decide +kernel)) (fun _ _ _ _ _ => (tgx_name (i := 1) sc_law_bag.nd)) (fun _ _ _ _ _ => (ptsx_one (ptx_cmp o2_ge (px_var 1) (px_op o2_pow px_int px_int) (nomark _)))) (fun _ _ _ _ _ => (px_var 1)) (by decide) (by decide)) (pq_var 3) pq_int)))))
theorem G__law_draw (t : T K mg) : FnG P w K mg base CX0 1 t.a__law_draw t.d__law_draw ["bag", "many"] (SpB K 1 F__law_draw) := by
  refine fnB_of (g := g__law_draw) t.F__law_draw sc_law_draw rfl rfl fun cdv A outer s H E hr hgu => ?_
  have hu := hr.units
  have hu1 := hr.units0
  have hd := units1 hr
  exact (pssx_cons (psx_if (ptx_cmp (o2_lt hu1) (px_var 1) px_int (nomark _))
    (pssx_one (psx_ret px_int))
    pssx_nil)
    (pssx_cons (psx_if (ptx_cNe (i := 0) hu hd)
    (pssx_cons (psx_set (i := 3) sc_law_draw.nd (px_cPop0 (i := 0) hd))
    (pssx_cons (psx_if (ptx_cmp o2_ge (px_var 3) (px_var 1) (nomark _))
    (pssx_one (psx_expr (px_cIns (i := 0) hd (px_op o2_div (px_var 3) (px_var 1)))))
    pssx_nil)
    (pssx_one (psx_ret (px_op o2_mod (px_ty bi_int (pax_cons (px_var 3) pax_nil) rfl t.b_int bt_int) (px_var 1))))))
    pssx_nil)
    (pssx_cons (psx_putD (i := 0) hd (px_op o2_add (px_getC (i := 0) hd) px_int) px_str)
    (pssx_cons (psx_set (i := 2) sc_law_draw.nd (px_op o2_mod (px_ty bi_int (pax_cons (px_op o2_add (px_getC (i := 0) hd) (px_op o2_mul px_int (px_getC (i := 0) hd))) pax_nil) rfl t.b_int bt_int) px_int))
    (pssx_cons (psx_set (i := 2) sc_law_draw.nd (px_op o2_mod (px_ty bi_int (pax_cons (px_op o2_add (px_op o2_add (px_op o2_mul (px_var 2) (px_var 2)) (px_op o2_mul px_int (px_getC (i := 0) hd))) px_int) pax_nil) rfl t.b_int bt_int) px_int))
    (pssx_cons (psx_set (i := 2) sc_law_draw.nd (px_op o2_mod (px_ty bi_int (pax_cons (px_op o2_add (px_op o2_mul (px_var 2) (px_var 2)) (px_getC (i := 0) hd)) pax_nil) rfl t.b_int bt_int) px_int))
    (pssx_one (psx_ret (px_op o2_mod (px_ty bi_int (pax_cons (px_op o2_div (px_var 2) px_int) pax_nil) rfl t.b_int bt_int) (px_var 1))))))))))
theorem G__law_pick (t : T K mg) : FnG P w K mg base CX0 2 t.a__law_pick t.d__law_pick ["bag", "items"] (SpB K 1 F__law_pick) := by
  refine fnB_of (g := g__law_pick) t.F__law_pick sc_law_pick rfl rfl fun cdv A outer s H E hr hgu => ?_
  have hu := hr.units
  have hu1 := hr.units0
  have hd := units1 hr
  exact (pssx_one (psx_ret (px_ix i2_ix (px_var 1) (px_callB (i := 0) ((G__law_draw t).mono (by decide)) hr hgu t.g__law_draw t.F__law_draw.kp t.n__law_draw pass0A (paf_cons (px_bi bi_len (pax_cons (px_var 1) pax_nil) rfl t.b_len bt_len) paf_nil)) (fun _ _ => rfl))))
theorem G__law_mixed (t : T K mg) : FnG P w K mg base CX0 2 t.a__law_mixed t.d__law_mixed ["bag", "items"] (SpB K 1 F__law_mixed) := by
  refine fnB_of (g := g__law_mixed) t.F__law_mixed sc_law_mixed rfl rfl fun cdv A outer s H E hr hgu => ?_
  have hu := hr.units
  have hu1 := hr.units0
  have hd := units1 hr
  exact (pssx_cons (psx_par2 (i := 2) (j := 3) rfl sc_law_mixed.nd (px_ty bi_list (pax_cons (px_var 1) pax_nil) rfl t.b_list bt_list) (px_lst paf_nil))
    (pssx_cons (psx_while 1000000 PassesOwn.never (ptx_cmp (o2_ne hu) (px_var 2) (px_lst paf_nil) (nomark _))
    (pssx_cons (psx_expr (px_app (i := 3) (px_popAt (i := 2) (px_callB (i := 0) ((G__law_draw t).mono (by decide)) hr hgu t.g__law_draw t.F__law_draw.kp t.n__law_draw pass0A (paf_cons (px_bi bi_len (pax_cons (px_var 2) pax_nil) rfl t.b_len bt_len) paf_nil)))))
    pssx_nil))
    (pssx_one (psx_ret (px_var 3)))))
theorem G__law_net (t : T K mg) : FnG P w K mg base CX0 3 t.a__law_net t.d__law_net ["bag", "many"] (SpB K 1 F__law_net) := by
  refine fnB_of (g := g__law_net) t.F__law_net sc_law_net rfl rfl fun cdv A outer s H E hr hgu => ?_
  have hu := hr.units
  have hu1 := hr.units0
  have hd := units1 hr
  exact (pssx_cons (psx_asg (px_ty bi_tuple (pax_cons (px_lc (own := [("station", 8)]) rfl sc_law_net.nd (pix_range1 rfl t.b_range (paf_cons (px_var 1) paf_nil)) (blkOk_by (show blkC ["bag", "many", "tracks", "i", "turn", "kind", "lines", "j", "station", "line"] (defScope s_law_net) _ _ = true from by decide +kernel)) (fun _ _ _ _ _ => (tgx_name (i := 8) sc_law_net.nd)) (fun _ _ _ _ _ => ptsx_nil) (fun _ _ _ _ _ => (px_callB (i := 0) ((G__law_pick t).mono (by decide)) hr hgu t.g__law_pick t.F__law_pick.kp t.n__law_pick pass0A (paf_cons (px_lst (paf_cons px_int (paf_cons px_int (paf_cons px_int (paf_cons px_int (paf_cons px_int (paf_cons px_int (paf_cons px_int paf_nil)))))))) paf_nil))) (by decide) (by decide)) pax_nil) rfl t.b_tuple bt_tuple) (tgx_name (i := 2) sc_law_net.nd))
    (pssx_cons (psx_par2 (i := 5) (j := 6) rfl sc_law_net.nd (px_callB (i := 0) ((G__law_draw t).mono (by decide)) hr hgu t.g__law_draw t.F__law_draw.kp t.n__law_draw pass0A (paf_cons px_int paf_nil)) (px_lst paf_nil))
    (pssx_cons (psx_for PassesOwn.never rfl (pix_range2 rfl t.b_range (paf_cons px_int (paf_cons (px_var 1) paf_nil))) (tgx_name (i := 3) sc_law_net.nd)
    (pssx_cons (psx_asg (px_if (ptx_cmp (o2_lt hu1) (px_var 5) px_int (nomark _)) (px_op o2_sub (px_var 3) px_int) (px_if (ptx_cmp (o2_eq hu) (px_var 5) px_int (nomark _)) px_int (px_callB (i := 0) ((G__law_draw t).mono (by decide)) hr hgu t.g__law_draw t.F__law_draw.kp t.n__law_draw pass0A (paf_cons (px_var 3) paf_nil)))) (tgx_name (i := 7) sc_law_net.nd))
    (pssx_cons (psx_set (i := 6) sc_law_net.nd (px_op o2_add (px_var 6) (px_lst (paf_cons (px_tup (paf_cons (px_var 7) (paf_cons (px_var 3) paf_nil))) (paf_cons (px_tup (paf_cons (px_var 3) (paf_cons (px_var 7) paf_nil))) paf_nil)))))
    (pssx_wipe (is := [3, 7]) (by decide) pssx_nil))))
    (pssx_cons (psx_if (ptx_pw (pwx_and (ptx_cmp (o2_eq hu) (px_var 5) px_int (nomark _)) (pwx_and1 (ptx_cmp o2_gt (px_var 1) px_int (nomark _)))))
    (pssx_cons (psx_set (i := 6) sc_law_net.nd (px_op o2_add (px_var 6) (px_lst (paf_cons (px_tup (paf_cons (px_op o2_sub (px_var 1) px_int) (paf_cons px_int paf_nil))) (paf_cons (px_tup (paf_cons px_int (paf_cons (px_op o2_sub (px_var 1) px_int) paf_nil))) paf_nil)))))
    pssx_nil)
    pssx_nil)
    (pssx_cons (psx_for PassesOwn.never rfl (pix_range1 rfl t.b_range (paf_cons (px_if (ptx_cmp o2_gt (px_var 1) px_int (nomark _)) (px_callB (i := 0) ((G__law_draw t).mono (by decide)) hr hgu t.g__law_draw t.F__law_draw.kp t.n__law_draw pass0A (paf_cons (px_op o2_add (px_var 1) px_int) paf_nil)) px_int) paf_nil)) (tgx_name (i := 4) sc_law_net.nd)
    (pssx_cons (psx_asg (px_callB (i := 0) ((G__law_draw t).mono (by decide)) hr hgu t.g__law_draw t.F__law_draw.kp t.n__law_draw pass0A (paf_cons (px_var 1) paf_nil)) (tgx_name (i := 3) sc_law_net.nd))
    (pssx_cons (psx_expr (px_app (i := 6) (px_tup (paf_cons (px_var 3) (paf_cons (px_op o2_mod (px_ty bi_int (pax_cons (px_op o2_add (px_op o2_add (px_var 3) px_int) (px_callB (i := 0) ((G__law_draw t).mono (by decide)) hr hgu t.g__law_draw t.F__law_draw.kp t.n__law_draw pass0A (paf_cons (px_op o2_sub (px_var 1) px_int) paf_nil))) pax_nil) rfl t.b_int bt_int) (px_var 1)) paf_nil)))))
    (pssx_wipe (is := [3, 4]) (by decide) pssx_nil))))
    (pssx_cons (psx_if (ptx_cmp (o2_eq hu) (px_var 5) px_int (nomark _))
    (pssx_cons (psx_setLc (own := [("line", 9)]) (i := 6) rfl sc_law_net.nd (pix_seq (px_var 6)) (blkOk_by (show blkC ["bag", "many", "tracks", "i", "turn", "kind", "lines", "j", "station", "line"] (defScope s_law_net) _ _ = true from by decide +kernel)) (fun _ _ _ _ _ => (tgx_name (i := 9) sc_law_net.nd)) (fun _ _ _ _ _ => (ptsx_one (ptx_cmp o2_gt (px_callB (i := 0) ((G__law_draw t).mono (by decide)) hr hgu t.g__law_draw t.F__law_draw.kp t.n__law_draw pass0A (paf_cons px_int paf_nil)) px_int (nomark _)))) (fun _ _ _ _ _ => (px_var 9)) (by decide) (by decide) rfl rfl rfl (sw_true rfl rfl rfl (by decide +kernel)))
    pssx_nil)
    pssx_nil)
    (pssx_one (psx_ret (px_tup (paf_cons (px_var 2) (paf_cons (px_ty bi_tuple (pax_cons (px_sortSet rfl hu t.b_sorted t.b_set (px_var 6)) pax_nil) rfl t.b_tuple bt_tuple) paf_nil)))))))))))
theorem G__law_nexts (t : T K mg) : FnG P w K mg base CX0 1 t.a__law_nexts t.d__law_nexts ["net", "station"] (SpA K 2 F__law_nexts) := by
  refine fnA_of (g := g__law_nexts) t.F__law_nexts sc_law_nexts rfl rfl fun cdv A outer s H E hr hgu => ?_
  have hu := hr.units
  have hu1 := hr.units0
  have hd := units1 hr
  exact (pssx_one (psx_ret (px_lc (own := [("i", 2), ("j", 3)]) rfl sc_law_nexts.nd (pix_seq (px_ix i2_ix (px_var 0) px_int (fun _ _ => rfl))) (blkOk_by (show blkC ["net", "station", "i", "j"] (defScope s_law_nexts) _ _ = true from by decide +kernel)) (fun _ _ _ _ _ => (tgx_tup rfl (tgsx_cons (tgx_name (i := 2) sc_law_nexts.nd) (tgsx_cons (tgx_name (i := 3) sc_law_nexts.nd) tgsx_nil)))) (fun _ _ _ _ _ => (ptsx_one (ptx_cmp (o2_eq hu) (px_var 2) (px_var 1) (nomark _)))) (fun _ _ _ _ _ => (px_var 3)) (by decide) (by decide))))
theorem G__law_way (t : T K mg) : ∀ n : Nat, FnG P w K mg base CX0 (3 + n) t.a__law_way t.d__law_way ["bag", "net", "station", "steps", "wide"] (SpW K 3 (F__law_way n))
  | 0 => fn0W
  | n + 1 => by
    have ih := G__law_way t n
    refine fnW_of (k := 3 + n) (g := g__law_way (F__law_way n)) t.F__law_way sc_law_way rfl rfl rfl fun cdv A outer s H E hr hgu => ?_
    have hu := hr.units
    have hu1 := hr.units0
    have hd := units1 hr
    exact (pssx_cons (psx_asg (px_callA ((G__law_nexts t).mono (by omega)) hr hgu t.g__law_nexts t.F__law_nexts.kp t.n__law_nexts pass0A (paf_cons (px_var 1) (paf_cons (px_var 2) paf_nil))) (tgx_name (i := 5) sc_law_way.nd))
      (pssx_cons (psx_if (ptx_pw (pwx_or (ptx_cmp (o2_eq hu) (px_var 3) px_int (nomark _)) (pwx_or1 (ptx_cmp (o2_eq hu) (px_var 5) (px_lst paf_nil) (nomark _)))))
      (pssx_one (psx_ret (px_tup (paf_cons (px_var 2) (paf_cons (px_tup paf_nil) paf_nil)))))
      pssx_nil)
      (pssx_cons (psx_asg px_int (tgx_name (i := 6) sc_law_way.nd))
      (pssx_cons (psx_if (ptx_pw (pwx_and (ptx_cmp o2_gt (px_ix i2_ix (px_var 4) px_int (fun _ _ => rfl)) px_int (nomark _)) (pwx_and (ptx_cmp o2_gt (px_bi bi_len (pax_cons (px_var 5) pax_nil) rfl t.b_len bt_len) px_int (nomark _)) (pwx_and1 (ptx_cmp (o2_eq hu) (px_callB (i := 0) ((G__law_draw t).mono (by omega)) hr hgu t.g__law_draw t.F__law_draw.kp t.n__law_draw pass0A (paf_cons px_int paf_nil)) px_int (nomark _))))))
      (pssx_cons (psx_asg (px_bi (bi_min3 rfl) (pax_cons (px_bi bi_len (pax_cons (px_var 5) pax_nil) rfl t.b_len bt_len) (pax_cons (px_op o2_add (px_ix i2_ix (px_var 4) px_int (fun _ _ => rfl)) px_int) (pax_cons (px_op o2_add px_int (px_callB (i := 0) ((G__law_draw t).mono (by omega)) hr hgu t.g__law_draw t.F__law_draw.kp t.n__law_draw pass0A (paf_cons px_int paf_nil))) pax_nil))) rfl t.b_min bt_min) (tgx_name (i := 6) sc_law_way.nd))
      (pssx_cons (psx_putFl (i := 4) (px_op o2_add (px_op o2_sub (px_ix i2_ix (px_var 4) px_int (fun _ _ => rfl)) (px_var 6)) px_int) px_int)
      pssx_nil))
      pssx_nil)
      (pssx_cons (psx_set (i := 7) sc_law_way.nd (px_lst paf_nil))
      (pssx_cons (psx_for PassesOwn.never rfl (pix_seq (px_bi (bi_sorted hu) (pax_cons (px_slice s2_sl (px_callB (i := 0) ((G__law_mixed t).mono (by omega)) hr hgu t.g__law_mixed t.F__law_mixed.kp t.n__law_mixed pass0A (paf_cons (px_var 5) paf_nil)) pox_none (pox_some (px_var 6))) pax_nil) rfl t.b_sorted bt_sorted)) (tgx_name (i := 8) sc_law_way.nd)
      (pssx_cons (psx_asg (px_if (ptx_cmp (o2_eq hu) (px_callB (i := 0) ((G__law_draw t).mono (by omega)) hr hgu t.g__law_draw t.F__law_draw.kp t.n__law_draw pass0A (paf_cons px_int paf_nil)) px_int (nomark _)) (px_callB (i := 0) ((G__law_draw t).mono (by omega)) hr hgu t.g__law_draw t.F__law_draw.kp t.n__law_draw pass0A (paf_cons px_int paf_nil)) px_int) (tgx_name (i := 9) sc_law_way.nd))
      (pssx_cons (psx_expr (px_app (i := 7) (px_callW (i := 0) ((ih).mono (Nat.le_refl _)) hr hgu t.g__law_way t.F__law_way.kp t.n__law_way pass0A (paw_cons (px_var 1) (paw_cons (px_var 8) (paw_cons (px_bi (bi_max2 rfl) (pax_cons px_int (pax_cons (px_op o2_sub (px_op o2_sub (px_var 3) px_int) (px_var 9)) pax_nil)) rfl t.b_max bt_max) (paw_one (px_var 4))))))))
      (pssx_wipe (is := [8, 9]) (by decide) pssx_nil))))
      (pssx_one (psx_ret (px_tup (paf_cons (px_var 2) (paf_cons (px_ty bi_tuple (pax_cons (px_var 7) pax_nil) rfl t.b_tuple bt_tuple) paf_nil)))))))))))
theorem G__law_far (t : T K mg) : ∀ n : Nat, FnG P w K mg base CX0 (1 + n) t.a__law_far t.d__law_far ["way"] (SpA K 1 (F__law_far n))
  | 0 => fn0A
  | n + 1 => by
    have ih := G__law_far t n
    refine fnA_of (k := 1 + n) (g := g__law_far (F__law_far n)) t.F__law_far sc_law_far rfl rfl fun cdv A outer s H E hr hgu => ?_
    have hu := hr.units
    have hu1 := hr.units0
    have hd := units1 hr
    exact (pssx_one (psx_ret (px_bi (bi_maxL rfl) (pax_cons (px_op o2_add (px_lst (paf_cons px_int paf_nil)) (px_lc (own := [("branch", 1)]) rfl sc_law_far.nd (pix_seq (px_ix i2_ix (px_var 0) px_int (fun _ _ => rfl))) (blkOk_by (show blkC ["way", "branch"] (defScope s_law_far) _ _ = true from by decide +kernel)) (fun _ _ _ _ _ => (tgx_name (i := 1) sc_law_far.nd)) (fun _ _ _ _ _ => ptsx_nil) (fun _ _ _ _ _ => (px_op o2_add px_int (px_callA ((ih).mono (Nat.le_refl _)) hr hgu t.g__law_far t.F__law_far.kp t.n__law_far pass0A (paf_cons (px_var 1) paf_nil)))) (by decide) (by decide))) pax_nil) rfl t.b_max bt_max)))
theorem G__law_standing (t : T K mg) : FnG P w K mg base CX0 18 t.a__law_standing t.d__law_standing ["bag", "net", "many", "steps"] (SpB K 3 F__law_standing) := by
  refine fnB_of (g := g__law_standing) t.F__law_standing sc_law_standing rfl rfl fun cdv A outer s H E hr hgu => ?_
  have hu := hr.units
  have hu1 := hr.units0
  have hd := units1 hr
  exact (pssx_cons (psx_par2C (i := 5) (j := 6) rfl sc_law_standing.nd (px_ty bi_list (pax_cons (px_ix i2_ix (px_var 1) px_int (fun _ _ => rfl)) pax_nil) rfl t.b_list bt_list) (px_lst paf_nil))
    (pssx_cons (psx_for PassesOwn.never rfl (pix_range1 rfl t.b_range (paf_cons (px_var 2) paf_nil)) (tgx_name (i := 4) sc_law_standing.nd)
    (pssx_cons (psx_setLc (own := [("station", 8)]) (i := 7) rfl sc_law_standing.nd (pix_range1 rfl t.b_range (paf_cons (px_bi bi_len (pax_cons (px_var 5) pax_nil) rfl t.b_len bt_len) paf_nil)) (blkOk_by (show blkC ["bag", "net", "many", "steps", "train", "free", "found", "spots", "station", "wide"] (defScope s_law_standing) _ _ = true from by decide +kernel)) (fun _ _ _ _ _ => (tgx_name (i := 8) sc_law_standing.nd)) (fun _ _ _ _ _ => (ptsx_one (ptx_cmp o2_gt (px_ix i2_ix (px_var 5) (px_var 8) (fun _ _ => rfl)) px_int (nomark _)))) (fun _ _ _ _ _ => (px_var 8)) (by decide) (by decide) rfl rfl rfl (sw_true rfl rfl rfl (by decide +kernel)))
    (pssx_frz (i := 7) (pssx_cons (psx_if (ptx_pw (pwx_or (ptx_cmp (o2_eq hu) (px_var 7) (px_lst paf_nil) (nomark _)) (pwx_or1 (ptx_cmp (o2_eq hu) (px_callB (i := 0) ((G__law_draw t).mono (by decide)) hr hgu t.g__law_draw t.F__law_draw.kp t.n__law_draw pass0A (paf_cons px_int paf_nil)) px_int (nomark _)))))
    (pssx_cons (psx_expr (px_app (i := 6) px_non))
    pssx_nil)
    (pssx_cons (psx_asg (px_callB (i := 0) ((G__law_pick t).mono (by decide)) hr hgu t.g__law_pick t.F__law_pick.kp t.n__law_pick pass0A (paf_cons (px_var 7) paf_nil)) (tgx_name (i := 8) sc_law_standing.nd))
    (pssx_cons (psx_putAt (i := 5) (px_op o2_sub (px_ix i2_ix (px_var 5) (px_var 8) (fun _ _ => rfl)) px_int) (px_var 8))
    (pssx_cons (psx_set (i := 9) sc_law_standing.nd (px_lst (paf_cons (px_callB (i := 0) ((G__law_pick t).mono (by decide)) hr hgu t.g__law_pick t.F__law_pick.kp t.n__law_pick pass0A (paf_cons (px_lst (paf_cons px_int (paf_cons px_int (paf_cons px_int (paf_cons px_int paf_nil))))) paf_nil)) paf_nil)))
    (pssx_cons (psx_expr (px_app (i := 6) (px_callW (i := 0) ((G__law_way t 14).mono (by decide)) hr hgu t.g__law_way t.F__law_way.kp t.n__law_way pass0A (paw_cons (px_var 1) (paw_cons (px_var 8) (paw_cons (px_callB (i := 0) ((G__law_draw t).mono (by decide)) hr hgu t.g__law_draw t.F__law_draw.kp t.n__law_draw pass0A (paf_cons (px_op o2_add (px_var 3) px_int) paf_nil)) (paw_one (px_var 9))))))))
    (pssx_wipe (is := [8, 9]) (by decide) pssx_nil))))))
    (pssx_wipe (is := [4, 7]) (by decide) pssx_nil)))))
    (pssx_one (psx_ret (px_ty bi_tuple (pax_cons (px_var 6) pax_nil) rfl t.b_tuple bt_tuple)))))
theorem G__law_at (t : T K mg) : FnG P w K mg base CX0 1 t.a__law_at t.d__law_at ["standing", "station"] (SpA K 2 F__law_at) := by
  refine fnA_of (g := g__law_at) t.F__law_at sc_law_at rfl rfl fun cdv A outer s H E hr hgu => ?_
  have hu := hr.units
  have hu1 := hr.units0
  have hd := units1 hr
  exact (pssx_one (psx_ret (px_lc (own := [("train", 2), ("way", 3)]) rfl sc_law_at.nd (pix_enum t.b_enumerate (px_var 0)) (blkOk_by (show blkC ["standing", "station", "train", "way"] (defScope s_law_at) _ _ = true from by decide +kernel)) (fun _ _ _ _ _ => (tgx_tup rfl (tgsx_cons (tgx_name (i := 2) sc_law_at.nd) (tgsx_cons (tgx_name (i := 3) sc_law_at.nd) tgsx_nil)))) (fun _ _ _ _ _ => (ptsx_one (ptx_pw (pwx_and (ptx_cmp o2_notN (px_var 3) px_non (nomark _)) (pwx_and1 (ptx_cmp (o2_eq hu) (px_ix i2_ix (px_var 3) px_int (fun _ _ => rfl)) (px_var 1) (nomark _))))))) (fun _ _ _ _ _ => (px_var 2)) (by decide) (by decide))))
theorem G__law_is_counted (t : T K mg) : FnG P w K mg base CX0 3 t.a__law_is_counted t.d__law_is_counted ["net", "standing", "is_named"] (SpA K 3 F__law_is_counted) := by
  refine fnA_of (g := g__law_is_counted) t.F__law_is_counted sc_law_is_counted rfl rfl fun cdv A outer s H E hr hgu => ?_
  have hu := hr.units
  have hu1 := hr.units0
  have hd := units1 hr
  exact (pssx_cons (psx_for PassesOwn.never rfl (pix_range1 rfl t.b_range (paf_cons (px_bi bi_len (pax_cons (px_ix i2_ix (px_var 0) px_int (fun _ _ => rfl)) pax_nil) rfl t.b_len bt_len) paf_nil)) (tgx_name (i := 3) sc_law_is_counted.nd)
    (pssx_cons (psx_asg (px_callA ((G__law_at t).mono (by decide)) hr hgu t.g__law_at t.F__law_at.kp t.n__law_at pass0A (paf_cons (px_var 1) (paf_cons (px_var 3) paf_nil))) (tgx_name (i := 4) sc_law_is_counted.nd))
    (pssx_cons (psx_set (i := 5) sc_law_is_counted.nd (px_lst (paf_cons (px_callA ((G_trains_at t).mono (by decide)) hr hgu t.g_trains_at t.F_trains_at.kp t.n_trains_at pass0A (paf_cons (px_var 1) (paf_cons (px_var 3) paf_nil))) (paf_cons (px_callA ((G_free_tracks t).mono (by decide)) hr hgu t.g_free_tracks t.F_free_tracks.kp t.n_free_tracks pass0A (paf_cons (px_var 0) (paf_cons (px_var 1) (paf_cons (px_var 3) paf_nil)))) paf_nil))))
    (pssx_cons (psx_if (ptx_truth (px_var 2))
    (pssx_cons (psx_set (i := 5) sc_law_is_counted.nd (px_lst (paf_cons (px_callK (is := [1, 0]) (ks := ["station", "standing"]) ((G_trains_at t).mono (by decide)) hr hgu t.g_trains_at t.F_trains_at.kp pass0A t.k_trains_at_station_standing (pkf_cons (px_var 3) (pkf_cons (px_var 1) pkf_nil))) paf_nil)))
    (pssx_cons (psx_expr (px_app (i := 5) (px_callK (is := [2, 1, 0]) (ks := ["station", "standing", "net"]) ((G_free_tracks t).mono (by decide)) hr hgu t.g_free_tracks t.F_free_tracks.kp pass0A t.k_free_tracks_station_standing_net (pkf_cons (px_var 3) (pkf_cons (px_var 1) (pkf_cons (px_var 0) pkf_nil))))))
    pssx_nil))
    pssx_nil)
    (pssx_cons (psx_if (ptx_cmp (o2_ne hu) (px_bi (bi_repr hgu hu) (pax_cons (px_var 5) pax_nil) rfl t.b_repr bt_repr) (px_bi (bi_repr hgu hu) (pax_cons (px_lst (paf_cons (px_ty bi_tuple (pax_cons (px_var 4) pax_nil) rfl t.b_tuple bt_tuple) (paf_cons (px_op o2_sub (px_ix i2_ix (px_ix i2_ix (px_var 0) px_int (fun _ _ => rfl)) (px_var 3) (fun _ _ => rfl)) (px_bi bi_len (pax_cons (px_var 4) pax_nil) rfl t.b_len bt_len)) paf_nil))) pax_nil) rfl t.b_repr bt_repr) (nomark _))
    (pssx_one (psx_ret px_bl))
    pssx_nil)
    (pssx_wipe (is := [3, 4, 5]) (by decide) pssx_nil))))))
    (pssx_one (psx_ret px_bl)))
theorem G__law_are_wishes_told (t : T K mg) : FnG P w K mg base CX0 19 t.a__law_are_wishes_told t.d__law_are_wishes_told ["standing", "is_named"] (SpA K 2 F__law_are_wishes_told) := by
  refine fnA_of (g := g__law_are_wishes_told) t.F__law_are_wishes_told sc_law_are_wishes_told rfl rfl fun cdv A outer s H E hr hgu => ?_
  have hu := hr.units
  have hu1 := hr.units0
  have hd := units1 hr
  exact (pssx_cons (psx_asg px_int (tgx_name (i := 2) sc_law_are_wishes_told.nd))
    (pssx_cons (psx_for PassesOwn.never rfl (pix_enum t.b_enumerate (px_var 0)) (tgx_tup rfl (tgsx_cons (tgx_name (i := 4) sc_law_are_wishes_told.nd) (tgsx_cons (tgx_name (i := 5) sc_law_are_wishes_told.nd) tgsx_nil)))
    (pssx_cons (psx_asg (px_if (ptx_cmp o2_isN (px_var 5) px_non (nomark _)) (px_tup paf_nil) (px_ty bi_tuple (pax_cons (px_lc (own := [("branch", 7)]) rfl sc_law_are_wishes_told.nd (pix_seq (px_ix i2_ix (px_var 5) px_int (fun _ _ => rfl))) (blkOk_by (show blkC ["standing", "is_named", "total", "told", "train", "way", "due", "branch"] (defScope s_law_are_wishes_told) _ _ = true from by decide +kernel)) (fun _ _ _ _ _ => (tgx_name (i := 7) sc_law_are_wishes_told.nd)) (fun _ _ _ _ _ => ptsx_nil) (fun _ _ _ _ _ => (px_ix i2_ix (px_var 7) px_int (fun _ _ => rfl))) (by decide) (by decide)) pax_nil) rfl t.b_tuple bt_tuple)) (tgx_name (i := 6) sc_law_are_wishes_told.nd))
    (pssx_cons (psx_asg (px_if (ptx_truth (px_var 1)) (px_callK (is := [1, 0]) (ks := ["train", "standing"]) ((G_wants t).mono (by decide)) hr hgu t.g_wants t.F_wants.kp pass0A t.k_wants_train_standing (pkf_cons (px_var 4) (pkf_cons (px_var 0) pkf_nil))) (px_callA ((G_wants t).mono (by decide)) hr hgu t.g_wants t.F_wants.kp t.n_wants pass0A (paf_cons (px_var 0) (paf_cons (px_var 4) paf_nil)))) (tgx_name (i := 3) sc_law_are_wishes_told.nd))
    (pssx_cons (psx_if (ptx_pw (pwx_or (ptx_cmp (o2_ne hu) (px_bi (bi_repr hgu hu) (pax_cons (px_var 3) pax_nil) rfl t.b_repr bt_repr) (px_bi (bi_repr hgu hu) (pax_cons (px_var 6) pax_nil) rfl t.b_repr bt_repr) (nomark _)) (pwx_or1 (ptx_cmp (o2_ne hu) (px_bi (bi_repr hgu hu) (pax_cons (px_callA ((G_wants t).mono (by decide)) hr hgu t.g_wants t.F_wants.kp t.n_wants pass0A (paf_cons (px_var 0) (paf_cons (px_var 4) paf_nil))) pax_nil) rfl t.b_repr bt_repr) (px_bi (bi_repr hgu hu) (pax_cons (px_var 6) pax_nil) rfl t.b_repr bt_repr) (nomark _)))))
    (pssx_one (psx_ret px_bl))
    pssx_nil)
    (pssx_cons (psx_asg (px_op o2_add (px_var 2) (px_if (ptx_cmp o2_isN (px_var 5) px_non (nomark _)) px_int (px_op o2_add px_int (px_callA ((G__law_far t 16).mono (by decide)) hr hgu t.g__law_far t.F__law_far.kp t.n__law_far pass0A (paf_cons (px_var 5) paf_nil))))) (tgx_name (i := 2) sc_law_are_wishes_told.nd))
    (pssx_wipe (is := [3, 4, 5, 6]) (by decide) pssx_nil))))))
    (pssx_cons (psx_asg (px_lst (paf_cons (px_callA ((G_steps_left t).mono (by decide)) hr hgu t.g_steps_left t.F_steps_left.kp t.n_steps_left pass0A (paf_cons (px_var 0) paf_nil)) (paf_cons (px_callA ((G_all_gone t).mono (by decide)) hr hgu t.g_all_gone t.F_all_gone.kp t.n_all_gone pass0A (paf_cons (px_var 0) paf_nil)) paf_nil))) (tgx_name (i := 3) sc_law_are_wishes_told.nd))
    (pssx_cons (psx_if (ptx_truth (px_var 1))
    (pssx_cons (psx_asg (px_lst (paf_cons (px_callK (is := [0]) (ks := ["standing"]) ((G_steps_left t).mono (by decide)) hr hgu t.g_steps_left t.F_steps_left.kp pass0A t.k_steps_left_standing (pkf_cons (px_var 0) pkf_nil)) (paf_cons (px_callK (is := [0]) (ks := ["standing"]) ((G_all_gone t).mono (by decide)) hr hgu t.g_all_gone t.F_all_gone.kp pass0A t.k_all_gone_standing (pkf_cons (px_var 0) pkf_nil)) paf_nil))) (tgx_name (i := 3) sc_law_are_wishes_told.nd))
    pssx_nil)
    pssx_nil)
    (pssx_one (psx_ret (px_cmp (o2_eq hu) (px_bi (bi_repr hgu hu) (pax_cons (px_var 3) pax_nil) rfl t.b_repr bt_repr) (px_bi (bi_repr hgu hu) (pax_cons (px_lst (paf_cons (px_var 2) (paf_cons (px_cmp (o2_eq hu) (px_lc (own := [("way", 5)]) rfl sc_law_are_wishes_told.nd (pix_seq (px_var 0)) (blkOk_by (show blkC ["standing", "is_named", "total", "told", "train", "way", "due", "branch"] (defScope s_law_are_wishes_told) _ _ = true from by decide +kernel)) (fun _ _ _ _ _ => (tgx_name (i := 5) sc_law_are_wishes_told.nd)) (fun _ _ _ _ _ => (ptsx_one (ptx_cmp o2_notN (px_var 5) px_non (nomark _)))) (fun _ _ _ _ _ => (px_var 5)) (by decide) (by decide)) (px_lst paf_nil) (nomark _)) paf_nil))) pax_nil) rfl t.b_repr bt_repr) (nomark _))))))))
theorem G__law_are_left (t : T K mg) : FnG P w K mg base CX0 3 t.a__law_are_left t.d__law_are_left ["bag", "standing", "is_named"] (SpB K 2 F__law_are_left) := by
  refine fnB_of (g := g__law_are_left) t.F__law_are_left sc_law_are_left rfl rfl fun cdv A outer s H E hr hgu => ?_
  have hu := hr.units
  have hu1 := hr.units0
  have hd := units1 hr
  exact (pssx_cons (psx_asg (px_lrg1 rfl t.b_list t.b_range (px_bi bi_len (pax_cons (px_var 1) pax_nil) rfl t.b_len bt_len)) (tgx_name (i := 3) sc_law_are_left.nd))
    (pssx_cons (psx_asg (px_lst (paf_cons (px_tup paf_nil) (paf_cons (px_ty bi_tuple (pax_cons (px_var 3) pax_nil) rfl t.b_tuple bt_tuple) (paf_cons (px_ty bi_tuple (pax_cons (px_bi (bi_sorted hu) (pax_cons (px_slice s2_sl (px_callB (i := 0) ((G__law_mixed t).mono (by decide)) hr hgu t.g__law_mixed t.F__law_mixed.kp t.n__law_mixed pass0A (paf_cons (px_var 3) paf_nil)) pox_none (pox_some (px_callB (i := 0) ((G__law_draw t).mono (by decide)) hr hgu t.g__law_draw t.F__law_draw.kp t.n__law_draw pass0A (paf_cons (px_op o2_add (px_bi bi_len (pax_cons (px_var 3) pax_nil) rfl t.b_len bt_len) px_int) paf_nil)))) pax_nil) rfl t.b_sorted bt_sorted) pax_nil) rfl t.b_tuple bt_tuple) paf_nil)))) (tgx_name (i := 4) sc_law_are_left.nd))
    (pssx_cons (psx_for PassesOwn.never rfl (pix_seq (px_var 4)) (tgx_name (i := 5) sc_law_are_left.nd)
    (pssx_cons (psx_asg (px_bi (bi_repr hgu hu) (pax_cons (px_ty bi_tuple (pax_cons (px_lc (own := [("train", 8), ("way", 9)]) rfl sc_law_are_left.nd (pix_enum t.b_enumerate (px_var 1)) (blkOk_by (show blkC ["bag", "standing", "is_named", "every", "lots", "lot", "due", "told", "train", "way"] (defScope s_law_are_left) _ _ = true from by decide +kernel)) (fun _ _ _ _ _ => (tgx_tup rfl (tgsx_cons (tgx_name (i := 8) sc_law_are_left.nd) (tgsx_cons (tgx_name (i := 9) sc_law_are_left.nd) tgsx_nil)))) (fun _ _ _ _ _ => ptsx_nil) (fun _ _ _ _ _ => (px_if (ptx_cmp (o2_in hu) (px_var 8) (px_var 5) rfl) px_non (px_var 9))) (by decide) (by decide)) pax_nil) rfl t.b_tuple bt_tuple) pax_nil) rfl t.b_repr bt_repr) (tgx_name (i := 6) sc_law_are_left.nd))
    (pssx_cons (psx_asg (px_if (ptx_truth (px_var 2)) (px_callK (is := [1, 0]) (ks := ["trains", "standing"]) ((G_without t).mono (by decide)) hr hgu t.g_without t.F_without.kp pass0A t.k_without_trains_standing (pkf_cons (px_var 5) (pkf_cons (px_var 1) pkf_nil))) (px_callA ((G_without t).mono (by decide)) hr hgu t.g_without t.F_without.kp t.n_without pass0A (paf_cons (px_var 1) (paf_cons (px_var 5) paf_nil)))) (tgx_name (i := 7) sc_law_are_left.nd))
    (pssx_cons (psx_if (ptx_pw (pwx_or (ptx_cmp (o2_ne hu) (px_bi (bi_repr hgu hu) (pax_cons (px_var 7) pax_nil) rfl t.b_repr bt_repr) (px_var 6) (nomark _)) (pwx_or1 (ptx_cmp (o2_ne hu) (px_bi (bi_repr hgu hu) (pax_cons (px_callA ((G_without t).mono (by decide)) hr hgu t.g_without t.F_without.kp t.n_without pass0A (paf_cons (px_var 1) (paf_cons (px_var 5) paf_nil))) pax_nil) rfl t.b_repr bt_repr) (px_var 6) (nomark _)))))
    (pssx_one (psx_ret px_bl))
    pssx_nil)
    (pssx_wipe (is := [5, 6, 7]) (by decide) pssx_nil)))))
    (pssx_one (psx_ret px_bl)))))
end
end Pu.L

namespace Pu.L
open PySem PySem.Spec PyProof.Rows L2 Pu
theorem eApp_e {i : Nat} {f : PM Opd} {e : PEnv} : eApp i f e = bnd (lsAt i) (fun _ => bnd (kept f) fun d => bnd (lsAt i) fun ds => if ds.length < bigLine then bnd (putS i (.ls (ds ++ [d]))) fun _ => ret (.val .none) else oops) e := rfl
def extD (i : Nat) (ds : List D) : D → PM Opd
  | .list ds' => if ds.length + ds'.length < bigLine then bnd (putS i (.ls (ds ++ ds'))) fun _ => ret (.val .none) else oops
  | _ => oops
theorem eExt_e {i : Nat} {f : PM Opd} {e : PEnv} : eExt i f e = bnd (lsAt i) (fun _ => bnd (kept f) fun d => bnd (lsAt i) fun ds => extD i ds d) e := by
  unfold eExt
  congr
theorem extD_l {i : Nat} {ds ds' : List D} : extD i ds (.list ds') = if ds.length + ds'.length < bigLine then bnd (putS i (.ls (ds ++ ds'))) (fun _ => ret (.val .none)) else oops := rfl
theorem eM0_e {g : Str → Option Opd} {f : PM Opd} {e : PEnv} : eM0 g f e = bnd (opn f) (fun x => bnd (rsv x) fun dx => bnd (lift (strD dx)) fun a => lift (g a)) e := rfl
theorem eM1_e {g : Str → D → Option Opd} {f h : PM Opd} {e : PEnv} : eM1 g f h e = bnd (opn f) (fun x => bnd (rsv x) fun dx => bnd (lift (strD dx)) fun a => bnd (opn h) fun y => bnd (rsv y) fun dy => lift (g a dy)) e := rfl
theorem strD_s {a : Str} : strD (.str a) = some a := rfl
theorem eJoin_e {f : Str → PM Str} {e : PEnv} : eJoin f e = bnd (f Str.empty) (fun y => ret (.val (.str y))) e := rfl
theorem jLit_e {s acc : Str} {f : Str → PM Str} {e : PEnv} : jLit s f acc e = bnd (lift (addS acc s)) f e := rfl
theorem jFmt_e {g : PM Opd} {acc : Str} {f : Str → PM Str} {e : PEnv} : jFmt g f acc e = bnd (opn g) (fun x => bnd (rsv x) fun d => bnd (lift (fmtD d)) fun y => bnd (lift (addS acc y)) f) e := rfl
theorem jNil_e {acc : Str} {e : PEnv} : jNil acc e = ret acc e := rfl

/-! ### the bag: far, stirred, count -/
theorem goFor_next {s : D → PEnv → Option PEnv} {body : PM Out} {d : D} {ds : List D} {e e1 e2 : PEnv} (h1 : s d e = some e1) (h2 : body e1 = .ok .next e2) : goFor s body (d :: ds) e = goFor s body ds e2 := by
  conv => lhs; unfold goFor
  simp only [h1, h2]
def bagE (far : List D) (st ct : Int) : List (Key × Cell) := [(.inr "far", .fl far), (.inr "stirred", .im (.int st)), (.inr "count", .im (.int ct))]
theorem kfs : ¬ ((Sum.inr (Str.ofString "far") : Key) = Sum.inr (Str.ofString "stirred")) := by decide +kernel
theorem kfc : ¬ ((Sum.inr (Str.ofString "far") : Key) = Sum.inr (Str.ofString "count")) := by decide +kernel
theorem ksc : ¬ ((Sum.inr (Str.ofString "stirred") : Key) = Sum.inr (Str.ofString "count")) := by decide +kernel
theorem fl_far {far : List D} {st ct : Int} : flAt (bagE far st ct) (.inr "far") = some far := by
  unfold flAt bagE cellAt
  rw [if_pos rfl]
theorem im_st {far : List D} {st ct : Int} : imAt (bagE far st ct) (.inr "stirred") = some (.int st) := by
  unfold imAt bagE cellAt cellAt
  rw [if_neg kfs, if_pos rfl]
theorem im_ct {far : List D} {st ct : Int} : imAt (bagE far st ct) (.inr "count") = some (.int ct) := by
  unfold imAt bagE cellAt cellAt cellAt
  rw [if_neg kfc, if_neg ksc, if_pos rfl]
theorem set_far {far far' : List D} {st ct : Int} : setC (bagE far st ct) (.inr "far") (.fl far') = bagE far' st ct := by
  unfold bagE setC
  rw [if_pos rfl]
theorem put_ct {far : List D} {st ct c : Int} : putC (bagE far st ct) (.inr "count") (.int c) = bagE far st c := by
  unfold putC bagE
  simp only [List.any_cons, List.any_nil, List.map_cons, List.map_nil, kfc, ksc, decide_false, decide_true, Bool.false_or, Bool.or_false, if_true, if_false]
theorem nofl_ct {far : List D} {st ct : Int} : noFl (bagE far st ct) (.inr "count") = true := by
  unfold noFl bagE
  simp only [List.all_cons, List.all_nil, kfc, decide_false, Bool.not_false, Bool.and_self]
def Bg (t : Ab) : Prop := ∃ (far : List Int) (st ct : Int), t = .dc (bagE (far.map PyData.int) st ct) ∧ (∀ x ∈ far, 0 ≤ x) ∧ far.length ≤ 100 ∧ 0 ≤ st ∧ st < 4294967296 ∧ 0 ≤ ct
theorem dcAt_e {i : Nat} {e : PEnv} : dcAt i e = bnd (abAtE i) (fun t => lift (dcE t)) e := rfl
theorem dcE_d {es : List (Key × Cell)} : dcE (.dc es) = some es := rfl
theorem eGetC_e {i : Nat} {k : Str} {e : PEnv} : eGetC i k e = bnd (dcAt i) (fun es => bnd (lift (imAt es (.inr k))) fun d => ret (.val d)) e := rfl
theorem eCNe_e {i : Nat} {k : Str} {e : PEnv} : eCNe i k e = bnd (dcAt i) (fun es => bnd (lift (flAt es (.inr k))) fun ds => bnd (lift (gEq true (.list ds) (.list []))) fun o => lift (boolO o)) e := rfl
theorem eCPop0_e {i : Nat} {k : Str} {e : PEnv} : eCPop0 i k e = bnd (dcAt i) (fun es => bnd (lift (flAt es (.inr k))) fun ds => bnd (lift ds.head?) fun d => bnd (putS i (.ab (.dc (setC es (.inr k) (.fl ds.tail))))) fun _ => ret (.val d)) e := rfl
theorem hid_e {α : Type} {i : Nat} {f : PM D} {k : D → PM α} {e : PEnv} : hid i f k e = (match f (e.set i none) with | .ok d e' => k d (e'.set i (e.getD i none)) | _ => .bad) := rfl
theorem eCIns_e {i : Nat} {k : Str} {f : PM Opd} {e : PEnv} : eCIns i k f e = bnd (dcAt i) (fun es => bnd (lift (flAt es (.inr k))) fun ds => hid i (kept f) fun d => if ds.length < bigLine then bnd (putS i (.ab (.dc (setC es (.inr k) (.fl (d :: ds)))))) fun _ => ret (.val .none) else oops) e := rfl
theorem sPutD_e {i : Nat} {fe fk : PM Opd} {e : PEnv} : sPutD i fe fk e = bnd (kept fe) (fun d => bnd (dcAt i) fun _ => bnd (opn fk) fun o => bnd (rsv o) fun dk => bnd (lift (keyD dk)) fun k => bnd (dcAt i) fun es => if noFl es k = true ∧ es.length < bigLine then bnd (putS i (.ab (.dc (putC es k d)))) fun _ => ret .next else oops) e := rfl
theorem keyD_s {s : Str} : keyD (.str s) = some (.inr s) := rfl
theorem boolO_b {b : Bool} : boolO (.val (.bool b)) = some b := rfl
theorem lay_ints : ∀ ts : List Int, PyData.canLayAll0 (ts.map PyData.int) = true
  | [] => by simp [PyData.canLayAll0]
  | t :: ts => by
    have := lay_ints ts
    simp only [List.map_cons, PyData.canLayAll0, PyData.canLay0, this, Bool.and_self]
theorem depth_ints : ∀ xs : List Int, PyData.depthAll (xs.map PyData.int) = 0
  | [] => by simp [PyData.depthAll]
  | x :: xs => by
    have := depth_ints xs
    simp only [List.map_cons, PyData.depthAll, this, PyData.depth]
    rfl
theorem gNe_ints (xs : List Int) : gEq true (.list (xs.map PyData.int)) (.list []) = some (.val (.bool (!decide (xs = [])))) := by
  have sp : strPair (.list (xs.map PyData.int)) (.list []) = none := rfl
  have s1 : SeqAt.shaped (.list (xs.map PyData.int)) = true := by
    show ((PyData.list (xs.map PyData.int)).canLay0 && decide ((PyData.list (xs.map PyData.int)).depth ≤ 64)) = true
    have h1 : (PyData.list (xs.map PyData.int)).depth ≤ 64 := by
      simp only [PyData.depth, depth_ints]
      decide
    have h2 : (PyData.list (xs.map PyData.int)).canLay0 = true := by simp only [PyData.canLay0, lay_ints]
    rw [h2, decide_eq_true h1]
    rfl
  have s2 : SeqAt.shaped (.list []) = true := rfl
  have e : PyData.eqv (.list (xs.map PyData.int)) (.list []) = decide (xs = []) := by
    cases xs with
    | nil => rfl
    | cons x xs => simp [PyData.eqv, PyData.eqvAll]
  unfold gEq
  rw [sp]
  simp only [s1, s2, e, and_self, if_true]
theorem gMod_ok {x m : Int} (h : 0 < m) : gMod (.int x) (.int m) = some (.val (.int (x % m))) := if_pos (decide_eq_true h)
theorem gDiv_ok {x m : Int} (h : 0 < m) (h2 : m < 1073741824) : gDiv (.int x) (.int m) = some (.val (.int (x / m))) := if_pos (decide_eq_true ⟨h, h2⟩)
theorem gMul_l {x y : Int} (h : -(2 ^ 64) < x) (h2 : x < 2 ^ 64) : gMul (.int x) (.int y) = some (.val (.int (x * y))) := if_pos (.inl ⟨h, h2⟩)
theorem gInt1_i {x : Int} : gInt1 [.int x] = some (.val (.int x)) := rfl
theorem draw_ok {t : Ab} {m : Int} (h : Bg t) (hm : m < 1073741824) : ∃ i t', F__law_draw t [.int m] = (.ok (.val (.int i)), t') ∧ 0 ≤ i ∧ (1 ≤ m → i < m) ∧ Bg t' := by
  obtain ⟨far, st, ct, rfl, h1, h2, h3, h4, h5⟩ := h
  have he : envOf 4 (SV.ab (.dc (bagE (far.map PyData.int) st ct)) :: [PyData.int m].map SV.im) = [some (.ab (.dc (bagE (far.map PyData.int) st ct))), some (.im (.int m)), none, none] := rfl
  by_cases c : m < 2
  · refine ⟨0, _, ?_, by omega, fun h => by omega, far, st, ct, rfl, h1, h2, h3, h4, h5⟩
    unfold F__law_draw runB g__law_draw
    rw [he]
    have c' : decide (m < 2) = true := decide_eq_true c
    simp only [bnd_e, ret_e, oops_e, lift_s, lift_n, opn_e, thaw_v, thaw_t, thaw_s, rsv_v, rsv_s, frz_v, frz_t, frz_s, kept_e, eVar_e, eBin_e, toB_b, eTest_e, bAnd_e, bOr_e, bNot_e, eTruth_e, vAnd_e, vOr_e, vNot_e, eIf_e, eTup_e, eLst_e, rsvs_n, rsvs_c, eBi_e, toPart_i, eSl_e, eUn_e, eIsi_e, eChain_e, sSeq_e, sRet_e, sExpr_e, sIf_e, putS_e, asg_v, asg_t, sSet_e, tgTup_e, tgCons_e, tgNil_e, tgName_e, sAsg_e, sFor_e, eIter_e, eEnum_e, eRng1_e, eRng2_e, eCallA_e, eCallK_e, frOf_k, ite_ap, mtc_out, isi_int, isi_bool, isi_tuple, isIntD, isBoolD, isTupD, gLen, truth, gEq_int, gNe_int, gLe_int, gLt_int, gSub_int, gAdd_int, sPar_e, gEq_str, abAtE_e, frB_k, eCallB_e, noExc_e, eDict1_e, gNeg_int, gPow_30, eLc_e, gTuple_l, gTuple_t, gList_l, gList_t, sPutAt_e, lsAt_e, gSl_t, finR, sRaise0_e, frOf_x, sTry_e, noX_k, isi_str, List.set, List.getElem?_cons_zero, List.getElem?_cons_succ, List.map_cons, List.map_nil, List.length_cons, List.length_nil, Option.bind_some, Bool.false_eq_true, if_false, if_true, reduceIte, Nat.reduceAdd, reduceCtorEq, decide_true, decide_false, Bool.not_true, Bool.not_false, eApp_e, eExt_e, extD_l, eM0_e, eM1_e, strD_s, lsAt_e, putS_e, c', ab0]
  · have c' : decide (m < 2) = false := decide_eq_false c
    have m0 : 0 < m := by omega
    have ne := gNe_ints far
    cases far with
    | nil =>
      simp only [decide_true, Bool.not_true] at ne
      have a1 : gAdd (.int ct) (.int 1) = some (.val (.int (ct + 1))) := rfl
      have u1 : gMul (.int 2654435761) (.int (ct + 1)) = some (.val (.int (2654435761 * (ct + 1)))) := gMul_l (by decide) (by decide)
      let o1 : Int := (st + 2654435761 * (ct + 1)) % 4294967279
      have b1 : 0 ≤ o1 ∧ o1 < 4294967279 := ⟨Int.emod_nonneg _ (by decide), Int.emod_lt_of_pos _ (by decide)⟩
      have u2 : gMul (.int o1) (.int o1) = some (.val (.int (o1 * o1))) := gMul_l (by omega) (by omega)
      have u3 : gMul (.int 40503) (.int (ct + 1)) = some (.val (.int (40503 * (ct + 1)))) := gMul_l (by decide) (by decide)
      let o2 : Int := (o1 * o1 + 40503 * (ct + 1) + 19) % 4294967231
      have b2 : 0 ≤ o2 ∧ o2 < 4294967231 := ⟨Int.emod_nonneg _ (by decide), Int.emod_lt_of_pos _ (by decide)⟩
      have u4 : gMul (.int o2) (.int o2) = some (.val (.int (o2 * o2))) := gMul_l (by omega) (by omega)
      let o3 : Int := (o2 * o2 + st) % 4294967197
      have q1 : gMod (.int (st + 2654435761 * (ct + 1))) (.int 4294967279) = some (.val (.int o1)) := gMod_ok (by decide)
      have q2 : gMod (.int (o1 * o1 + 40503 * (ct + 1) + 19)) (.int 4294967231) = some (.val (.int o2)) := gMod_ok (by decide)
      have q3 : gMod (.int (o2 * o2 + st)) (.int 4294967197) = some (.val (.int o3)) := gMod_ok (by decide)
      have q4 : gDiv (.int o3) (.int 256) = some (.val (.int (o3 / 256))) := gDiv_ok (by decide) (by decide)
      have q5 : gMod (.int (o3 / 256)) (.int m) = some (.val (.int (o3 / 256 % m))) := gMod_ok m0
      have hb : 3 < bigLine := by decide
      refine ⟨o3 / 256 % m, .dc (bagE [] st (ct + 1)), ?_, Int.emod_nonneg _ (by omega), fun _ => Int.emod_lt_of_pos _ m0, [], st, ct + 1, rfl, h1, h2, h3, h4, by omega⟩
      have len3 : ∀ c, (bagE ([] : List D) st c).length = 3 := fun _ => rfl
      unfold F__law_draw runB g__law_draw
      rw [he]
      clear_value o1 o2 o3
      simp only [List.map_nil] at ne ⊢
      simp only [bnd_e, ret_e, oops_e, lift_s, lift_n, opn_e, thaw_v, thaw_t, thaw_s, rsv_v, rsv_s, frz_v, frz_t, frz_s, kept_e, eVar_e, eBin_e, toB_b, eTest_e, bAnd_e, bOr_e, bNot_e, eTruth_e, vAnd_e, vOr_e, vNot_e, eIf_e, eTup_e, eLst_e, rsvs_n, rsvs_c, eBi_e, toPart_i, eSl_e, eUn_e, eIsi_e, eChain_e, sSeq_e, sRet_e, sExpr_e, sIf_e, putS_e, asg_v, asg_t, sSet_e, tgTup_e, tgCons_e, tgNil_e, tgName_e, sAsg_e, sFor_e, eIter_e, eEnum_e, eRng1_e, eRng2_e, eCallA_e, eCallK_e, frOf_k, ite_ap, mtc_out, isi_int, isi_bool, isi_tuple, isIntD, isBoolD, isTupD, gLen, truth, gEq_int, gNe_int, gLe_int, gLt_int, gSub_int, gAdd_int, sPar_e, gEq_str, abAtE_e, frB_k, eCallB_e, noExc_e, eDict1_e, gNeg_int, gPow_30, eLc_e, gTuple_l, gTuple_t, gList_l, gList_t, sPutAt_e, lsAt_e, gSl_t, finR, sRaise0_e, frOf_x, sTry_e, noX_k, isi_str, List.set, List.getElem?_cons_zero, List.getElem?_cons_succ, List.map_cons, List.map_nil, List.length_cons, List.length_nil, Option.bind_some, Bool.false_eq_true, if_false, if_true, reduceIte, Nat.reduceAdd, reduceCtorEq, decide_true, decide_false, Bool.not_true, Bool.not_false, eApp_e, eExt_e, extD_l, eM0_e, eM1_e, strD_s, lsAt_e, putS_e, c', dcAt_e, dcE_d, eGetC_e, eCNe_e, sPutD_e, keyD_s, boolO_b, fl_far, im_st, im_ct, put_ct, nofl_ct, len3, hb, and_self, ne, a1, u1, u2, u3, u4, gInt1_i, q1, q2, q3, q4, q5, ab0]
    | cons x far =>
      simp only [reduceCtorEq, decide_false, Bool.not_false] at ne
      have x0 : 0 ≤ x := h1 x (by simp)
      have q1 : gMod (.int x) (.int m) = some (.val (.int (x % m))) := gMod_ok m0
      have q2 : gDiv (.int x) (.int m) = some (.val (.int (x / m))) := gDiv_ok m0 hm
      have hl : (far.map PyData.int).length < bigLine := by
        rw [List.length_map]
        rw [List.length_cons] at h2
        unfold bigLine
        omega
      have r1 := Int.emod_nonneg x (show m ≠ 0 by omega)
      have r2 := Int.emod_lt_of_pos x m0
      rw [List.length_cons] at h2
      by_cases cx : m ≤ x
      · refine ⟨x % m, .dc (bagE ((x / m :: far).map PyData.int) st ct), ?_, r1, fun _ => r2, x / m :: far, st, ct, rfl, fun y hy => ?_, by rw [List.length_cons]; omega, h3, h4, h5⟩
        · have g1 : gGe (.int x) (.int m) = some (.val (.bool true)) := by
            show some (Opd.val (.bool (decide (x ≥ m)))) = _
            rw [decide_eq_true (show x ≥ m from cx)]
          unfold F__law_draw runB g__law_draw
          rw [he]
          simp only [List.map_cons] at ne ⊢
          simp only [bnd_e, ret_e, oops_e, lift_s, lift_n, opn_e, thaw_v, thaw_t, thaw_s, rsv_v, rsv_s, frz_v, frz_t, frz_s, kept_e, eVar_e, eBin_e, toB_b, eTest_e, bAnd_e, bOr_e, bNot_e, eTruth_e, vAnd_e, vOr_e, vNot_e, eIf_e, eTup_e, eLst_e, rsvs_n, rsvs_c, eBi_e, toPart_i, eSl_e, eUn_e, eIsi_e, eChain_e, sSeq_e, sRet_e, sExpr_e, sIf_e, putS_e, asg_v, asg_t, sSet_e, tgTup_e, tgCons_e, tgNil_e, tgName_e, sAsg_e, sFor_e, eIter_e, eEnum_e, eRng1_e, eRng2_e, eCallA_e, eCallK_e, frOf_k, ite_ap, mtc_out, isi_int, isi_bool, isi_tuple, isIntD, isBoolD, isTupD, gLen, truth, gEq_int, gNe_int, gLe_int, gLt_int, gSub_int, gAdd_int, sPar_e, gEq_str, abAtE_e, frB_k, eCallB_e, noExc_e, eDict1_e, gNeg_int, gPow_30, eLc_e, gTuple_l, gTuple_t, gList_l, gList_t, sPutAt_e, lsAt_e, gSl_t, finR, sRaise0_e, frOf_x, sTry_e, noX_k, isi_str, List.set, List.getElem?_cons_zero, List.getElem?_cons_succ, List.map_cons, List.map_nil, List.length_cons, List.length_nil, Option.bind_some, Bool.false_eq_true, if_false, if_true, reduceIte, Nat.reduceAdd, reduceCtorEq, decide_true, decide_false, Bool.not_true, Bool.not_false, eApp_e, eExt_e, extD_l, eM0_e, eM1_e, strD_s, lsAt_e, putS_e, c', dcAt_e, dcE_d, eCNe_e, eCPop0_e, eCIns_e, hid_e, boolO_b, fl_far, set_far, ne, g1, List.head?_cons, List.tail_cons, hl, q1, q2, gInt1_i, ab0, List.getD_cons_zero]
        · rcases List.mem_cons.mp hy with rfl | hy
          · exact Int.ediv_nonneg x0 (by omega)
          · exact h1 y (by simp [hy])
      · refine ⟨x % m, .dc (bagE (far.map PyData.int) st ct), ?_, r1, fun _ => r2, far, st, ct, rfl, fun y hy => h1 y (by simp [hy]), by omega, h3, h4, h5⟩
        have g1 : gGe (.int x) (.int m) = some (.val (.bool false)) := by
          show some (Opd.val (.bool (decide (x ≥ m)))) = _
          rw [decide_eq_false (show ¬ x ≥ m from cx)]
        unfold F__law_draw runB g__law_draw
        rw [he]
        simp only [List.map_cons] at ne ⊢
        simp only [bnd_e, ret_e, oops_e, lift_s, lift_n, opn_e, thaw_v, thaw_t, thaw_s, rsv_v, rsv_s, frz_v, frz_t, frz_s, kept_e, eVar_e, eBin_e, toB_b, eTest_e, bAnd_e, bOr_e, bNot_e, eTruth_e, vAnd_e, vOr_e, vNot_e, eIf_e, eTup_e, eLst_e, rsvs_n, rsvs_c, eBi_e, toPart_i, eSl_e, eUn_e, eIsi_e, eChain_e, sSeq_e, sRet_e, sExpr_e, sIf_e, putS_e, asg_v, asg_t, sSet_e, tgTup_e, tgCons_e, tgNil_e, tgName_e, sAsg_e, sFor_e, eIter_e, eEnum_e, eRng1_e, eRng2_e, eCallA_e, eCallK_e, frOf_k, ite_ap, mtc_out, isi_int, isi_bool, isi_tuple, isIntD, isBoolD, isTupD, gLen, truth, gEq_int, gNe_int, gLe_int, gLt_int, gSub_int, gAdd_int, sPar_e, gEq_str, abAtE_e, frB_k, eCallB_e, noExc_e, eDict1_e, gNeg_int, gPow_30, eLc_e, gTuple_l, gTuple_t, gList_l, gList_t, sPutAt_e, lsAt_e, gSl_t, finR, sRaise0_e, frOf_x, sTry_e, noX_k, isi_str, List.set, List.getElem?_cons_zero, List.getElem?_cons_succ, List.map_cons, List.map_nil, List.length_cons, List.length_nil, Option.bind_some, Bool.false_eq_true, if_false, if_true, reduceIte, Nat.reduceAdd, reduceCtorEq, decide_true, decide_false, Bool.not_true, Bool.not_false, eApp_e, eExt_e, extD_l, eM0_e, eM1_e, strD_s, lsAt_e, putS_e, c', dcAt_e, dcE_d, eCNe_e, eCPop0_e, boolO_b, fl_far, set_far, ne, g1, List.head?_cons, List.tail_cons, q1, gInt1_i, ab0]

end Pu.L

namespace Pu.L
open PySem PySem.Spec PyProof.Rows L2 Pu
def w__law_draw (many : Int) : WP Int := fun Q _ => many < 1073741824 ∧ ∀ i : Int, 0 ≤ i → (1 ≤ many → i < many) → Q i
theorem T__law_draw (many : Int) : ∀ t Q E, Bg t → w__law_draw many Q E → TRB Bg (F__law_draw t [eI many]) (kV eI) Q E := by
  rintro t Q E ht ⟨h1, h2⟩
  obtain ⟨i, t', e, i0, i1, hb⟩ := draw_ok ht h1
  rw [e]
  exact ⟨i, rfl, hb, h2 i i0 i1⟩



end Pu.L

namespace Pu.L
open PySem PySem.Spec PyProof.Rows L2 Pu
/-! ### the bag is made; one of several; all in some order -/
theorem filter_yes {α : Type} (xs : List α) : xs.filter (fun _ => true) = xs := List.filter_eq_self.mpr fun _ _ => rfl
theorem sPar2_e {i j : Nat} {f g : PM Opd} {e : PEnv} : sPar2 i j f g e = bnd f (fun o1 => bnd g fun o2 => bnd (lift (slotOf o1)) fun s1 => bnd (lift (slotOf o2)) fun s2 => bnd (putS i s1) fun _ => bnd (putS j s2) fun _ => ret .next) e := rfl
theorem slotOf_v {d : D} : slotOf (.val d) = some (.im d) := rfl
theorem slotOf_t {ds : List D} : slotOf (.tmp ds) = some (.ls ds) := rfl
theorem eScSl_e {i : Nat} {n : Int} {e : PEnv} : eScSl i n e = bnd (abAtE i) (fun t => bnd (lift (scE t)) fun ns => ret (.tmp (cutD (ns.map PyData.int) none (some n)))) e := rfl
theorem scE_s {ns : List Int} : scE (.sc ns) = some ns := rfl
theorem eBag3_t {k1 k2 k3 : Str} {f : PM Opd} {q2 q3 : PEnv → Option D} {e e' : PEnv} {ds : List D} {d2 d3 : D} (h1 : f e = .ok (.tmp ds) e') (h2 : q2 e' = some d2) (h3 : q3 e' = some d3) : eBag3 k1 k2 k3 f q2 q3 e = .ok (.tab (.dc [(.inr k1, .fl ds), (.inr k2, .im d2), (.inr k3, .im d3)])) e' := by
  simp only [eBag3, bnd, h1, h2, h3]
theorem cut_all (ds : List D) (h : ds.length ≤ 63) : cutD ds none (some 63) = ds := by
  unfold cutD
  have h1 : HT.sIx ds.length 0 none = 0 := rfl
  have h2 : HT.sIx ds.length ds.length (some 63) = ds.length := by
    unfold HT.sIx
    simp
    omega
  rw [h1, h2, List.drop_zero, Nat.sub_zero, List.take_length]
def cellI (c : Int) : Int := 2 * (c.natAbs : Int) + (if c < 0 then 1 else 0)
theorem cellI_nn (c : Int) : 0 ≤ cellI c := by
  unfold cellI
  split <;> omega
theorem C3_ok (t : Ab) (c : Int) (x2 x3 : Option SV) : C__law_bag_3 [some (.ab t), some (.im (.int c)), x2, x3] = .ok (.val (.int (cellI c))) [some (.ab t), some (.im (.int c)), x2, x3] := by
  have a0 : gAbs [.int c] = some (.val (.int (c.natAbs : Int))) := by
    show some (Opd.val (PyData.int (if c < 0 then -c else c))) = _
    congr 3
    split <;> omega
  have u0 : gMul (.int 2) (.int (c.natAbs : Int)) = some (.val (.int (2 * (c.natAbs : Int)))) := gMul_l (by decide) (by decide)
  unfold C__law_bag_3 cellI
  by_cases h : c < 0
  · have h' : decide (c < 0) = true := decide_eq_true h
    have i1 : gInt1 [.bool true] = some (.val (.int 1)) := rfl
    simp only [bnd_e, ret_e, oops_e, lift_s, lift_n, opn_e, thaw_v, thaw_t, thaw_s, rsv_v, rsv_s, frz_v, frz_t, frz_s, kept_e, eVar_e, eBin_e, toB_b, eTest_e, bAnd_e, bOr_e, bNot_e, eTruth_e, vAnd_e, vOr_e, vNot_e, eIf_e, eTup_e, eLst_e, rsvs_n, rsvs_c, eBi_e, toPart_i, eSl_e, eUn_e, eIsi_e, eChain_e, sSeq_e, sRet_e, sExpr_e, sIf_e, putS_e, asg_v, asg_t, sSet_e, tgTup_e, tgCons_e, tgNil_e, tgName_e, sAsg_e, sFor_e, eIter_e, eEnum_e, eRng1_e, eRng2_e, eCallA_e, eCallK_e, frOf_k, ite_ap, mtc_out, isi_int, isi_bool, isi_tuple, isIntD, isBoolD, isTupD, gLen, truth, gEq_int, gNe_int, gLe_int, gLt_int, gSub_int, gAdd_int, sPar_e, gEq_str, abAtE_e, frB_k, eCallB_e, noExc_e, eDict1_e, gNeg_int, gPow_30, eLc_e, gTuple_l, gTuple_t, gList_l, gList_t, sPutAt_e, lsAt_e, gSl_t, finR, sRaise0_e, frOf_x, sTry_e, noX_k, isi_str, List.set, List.getElem?_cons_zero, List.getElem?_cons_succ, List.map_cons, List.map_nil, List.length_cons, List.length_nil, Option.bind_some, Bool.false_eq_true, if_false, if_true, reduceIte, Nat.reduceAdd, reduceCtorEq, decide_true, decide_false, Bool.not_true, Bool.not_false, eApp_e, eExt_e, extD_l, eM0_e, eM1_e, strD_s, lsAt_e, putS_e, a0, u0, h', i1, h, if_true]
  · have h' : decide (c < 0) = false := decide_eq_false h
    have i1 : gInt1 [.bool false] = some (.val (.int 0)) := rfl
    simp only [bnd_e, ret_e, oops_e, lift_s, lift_n, opn_e, thaw_v, thaw_t, thaw_s, rsv_v, rsv_s, frz_v, frz_t, frz_s, kept_e, eVar_e, eBin_e, toB_b, eTest_e, bAnd_e, bOr_e, bNot_e, eTruth_e, vAnd_e, vOr_e, vNot_e, eIf_e, eTup_e, eLst_e, rsvs_n, rsvs_c, eBi_e, toPart_i, eSl_e, eUn_e, eIsi_e, eChain_e, sSeq_e, sRet_e, sExpr_e, sIf_e, putS_e, asg_v, asg_t, sSet_e, tgTup_e, tgCons_e, tgNil_e, tgName_e, sAsg_e, sFor_e, eIter_e, eEnum_e, eRng1_e, eRng2_e, eCallA_e, eCallK_e, frOf_k, ite_ap, mtc_out, isi_int, isi_bool, isi_tuple, isIntD, isBoolD, isTupD, gLen, truth, gEq_int, gNe_int, gLe_int, gLt_int, gSub_int, gAdd_int, sPar_e, gEq_str, abAtE_e, frB_k, eCallB_e, noExc_e, eDict1_e, gNeg_int, gPow_30, eLc_e, gTuple_l, gTuple_t, gList_l, gList_t, sPutAt_e, lsAt_e, gSl_t, finR, sRaise0_e, frOf_x, sTry_e, noX_k, isi_str, List.set, List.getElem?_cons_zero, List.getElem?_cons_succ, List.map_cons, List.map_nil, List.length_cons, List.length_nil, Option.bind_some, Bool.false_eq_true, if_false, if_true, reduceIte, Nat.reduceAdd, reduceCtorEq, decide_true, decide_false, Bool.not_true, Bool.not_false, eApp_e, eExt_e, extD_l, eM0_e, eM1_e, strD_s, lsAt_e, putS_e, a0, u0, h', i1, h, if_false]
theorem bag_loop (t : Ab) : ∀ (cs : List Int) (x1 x2 : Option SV) (st : Int), 0 ≤ st → st < 4294967296 → ∃ x1' st', goFor (tgName 1) B__law_bag_2 (cs.map PyData.int) [some (.ab t), x1, x2, some (.im (.int st))] = .ok .next [some (.ab t), x1', x2, some (.im (.int st'))] ∧ 0 ≤ st' ∧ st' < 4294967296
  | [], x1, x2, st, h0, h1 => ⟨x1, st, rfl, h0, h1⟩
  | c :: cs, x1, x2, st, h0, h1 => by
    have u1 : gMul (.int st) (.int 48271) = some (.val (.int (st * 48271))) := gMul_l (by omega) (by omega)
    have q1 : gMod (.int (st * 48271 + c + 13)) (.int 4294967291) = some (.val (.int ((st * 48271 + c + 13) % 4294967291))) := gMod_ok (by decide)
    obtain ⟨x1', st', ih, h2, h3⟩ := bag_loop t cs (some (.im (.int c))) x2 ((st * 48271 + c + 13) % 4294967291) (Int.emod_nonneg _ (by decide)) (Int.lt_trans (Int.emod_lt_of_pos _ (by decide)) (by decide))
    refine ⟨x1', st', ?_, h2, h3⟩
    rw [List.map_cons, goFor_next (e1 := [some (.ab t), some (.im (.int c)), x2, some (.im (.int st))]) rfl ?_, ih]
    unfold B__law_bag_2
    simp only [bnd_e, ret_e, oops_e, lift_s, lift_n, opn_e, thaw_v, thaw_t, thaw_s, rsv_v, rsv_s, frz_v, frz_t, frz_s, kept_e, eVar_e, eBin_e, toB_b, eTest_e, bAnd_e, bOr_e, bNot_e, eTruth_e, vAnd_e, vOr_e, vNot_e, eIf_e, eTup_e, eLst_e, rsvs_n, rsvs_c, eBi_e, toPart_i, eSl_e, eUn_e, eIsi_e, eChain_e, sSeq_e, sRet_e, sExpr_e, sIf_e, putS_e, asg_v, asg_t, sSet_e, tgTup_e, tgCons_e, tgNil_e, tgName_e, sAsg_e, sFor_e, eIter_e, eEnum_e, eRng1_e, eRng2_e, eCallA_e, eCallK_e, frOf_k, ite_ap, mtc_out, isi_int, isi_bool, isi_tuple, isIntD, isBoolD, isTupD, gLen, truth, gEq_int, gNe_int, gLe_int, gLt_int, gSub_int, gAdd_int, sPar_e, gEq_str, abAtE_e, frB_k, eCallB_e, noExc_e, eDict1_e, gNeg_int, gPow_30, eLc_e, gTuple_l, gTuple_t, gList_l, gList_t, sPutAt_e, lsAt_e, gSl_t, finR, sRaise0_e, frOf_x, sTry_e, noX_k, isi_str, List.set, List.getElem?_cons_zero, List.getElem?_cons_succ, List.map_cons, List.map_nil, List.length_cons, List.length_nil, Option.bind_some, Bool.false_eq_true, if_false, if_true, reduceIte, Nat.reduceAdd, reduceCtorEq, decide_true, decide_false, Bool.not_true, Bool.not_false, eApp_e, eExt_e, extD_l, eM0_e, eM1_e, strD_s, lsAt_e, putS_e, u1, gInt1_i, q1]
theorem bag_ok (ns : List Int) (hl : ns.length ≤ 63) : ∃ t, F__law_bag (.sc ns) [] = (.ok (.tab t), .sc ns) ∧ Bg t := by
  have he : envOf 4 (SV.ab (.sc ns) :: ([] : List D).map SV.im) = [some (.ab (.sc ns)), none, none, none] := rfl
  have cu := cut_all (ns.map PyData.int) (by rw [List.length_map]; exact hl)
  have lc1 := lc_map (vs := [1]) (s := tgName 1) (t := ret true) (f := C__law_bag_3) (W := [some (.ab (.sc ns)), none, none, none]) (enc := PyData.int) (p := fun _ => true) (k := fun c => PyData.int (cellI c)) ns [] (by simp; omega)
    (fun c _ => ⟨[some (.ab (.sc ns)), some (.im (.int c)), none, none], [some (.ab (.sc ns)), some (.im (.int c)), none, none], rfl, rfl, fun _ => ⟨[some (.ab (.sc ns)), some (.im (.int c)), none, none], by rw [kept_e, bnd_e, C3_ok]; rfl, rfl⟩, fun _ => rfl⟩)
  rw [filter_yes] at lc1
  have em : ns.map (fun c => PyData.int (cellI c)) = (ns.map cellI).map PyData.int := by rw [List.map_map]; rfl
  rw [em, List.nil_append] at lc1
  have ln : (if (ns.map PyData.int).length ≤ 10 then 1 else 0) = (if (ns.map PyData.int).length ≤ 10 then 1 else 0) := rfl
  have a1 : gAdd (.int 722015) (.int (ns.length : Int)) = some (.val (.int (722015 + (ns.length : Int)))) := rfl
  obtain ⟨x1, st, e2, s0, s1⟩ := bag_loop (.sc ns) (ns.map cellI) none (some (.im (.list ((ns.map cellI).map PyData.int)))) (722015 + (ns.length : Int)) (by omega) (by omega)
  have p15 : gPow (.int 10) (.int 15) = some (.val (.int 1000000000000000)) := rfl
  have lc2 := lc_map (vs := [1]) (s := tgName 1) (t := D__law_bag_0) (f := C__law_bag_1) (W := [some (.ab (.sc ns)), none, some (.im (.list ((ns.map cellI).map PyData.int))), some (.im (.int st))]) (enc := PyData.int) (p := fun c => decide (c ≥ 1000000000000000)) (k := PyData.int) (ns.map cellI) [] (by simp; omega)
    (fun c _ => ⟨[some (.ab (.sc ns)), some (.im (.int c)), some (.im (.list ((ns.map cellI).map PyData.int))), some (.im (.int st))], [some (.ab (.sc ns)), some (.im (.int c)), some (.im (.list ((ns.map cellI).map PyData.int))), some (.im (.int st))], rfl, by
      have g1 : gGe (.int c) (.int 1000000000000000) = some (.val (.bool (decide (c ≥ 1000000000000000)))) := rfl
      unfold D__law_bag_0
      generalize (ns.map cellI).map PyData.int = CC
      simp only [bnd_e, ret_e, oops_e, lift_s, lift_n, opn_e, thaw_v, thaw_t, thaw_s, rsv_v, rsv_s, frz_v, frz_t, frz_s, kept_e, eVar_e, eBin_e, toB_b, eTest_e, bAnd_e, bOr_e, bNot_e, eTruth_e, vAnd_e, vOr_e, vNot_e, eIf_e, eTup_e, eLst_e, rsvs_n, rsvs_c, eBi_e, toPart_i, eSl_e, eUn_e, eIsi_e, eChain_e, sSeq_e, sRet_e, sExpr_e, sIf_e, putS_e, asg_v, asg_t, sSet_e, tgTup_e, tgCons_e, tgNil_e, tgName_e, sAsg_e, sFor_e, eIter_e, eEnum_e, eRng1_e, eRng2_e, eCallA_e, eCallK_e, frOf_k, ite_ap, mtc_out, isi_int, isi_bool, isi_tuple, isIntD, isBoolD, isTupD, gLen, truth, gEq_int, gNe_int, gLe_int, gLt_int, gSub_int, gAdd_int, sPar_e, gEq_str, abAtE_e, frB_k, eCallB_e, noExc_e, eDict1_e, gNeg_int, gPow_30, eLc_e, gTuple_l, gTuple_t, gList_l, gList_t, sPutAt_e, lsAt_e, gSl_t, finR, sRaise0_e, frOf_x, sTry_e, noX_k, isi_str, List.set, List.getElem?_cons_zero, List.getElem?_cons_succ, List.map_cons, List.map_nil, List.length_cons, List.length_nil, Option.bind_some, Bool.false_eq_true, if_false, if_true, reduceIte, Nat.reduceAdd, reduceCtorEq, decide_true, decide_false, Bool.not_true, Bool.not_false, p15, g1], fun _ => ⟨_, by unfold C__law_bag_1; simp only [bnd_e, ret_e, oops_e, lift_s, lift_n, opn_e, thaw_v, thaw_t, thaw_s, rsv_v, rsv_s, frz_v, frz_t, frz_s, kept_e, eVar_e, eBin_e, toB_b, eTest_e, bAnd_e, bOr_e, bNot_e, eTruth_e, vAnd_e, vOr_e, vNot_e, eIf_e, eTup_e, eLst_e, rsvs_n, rsvs_c, eBi_e, toPart_i, eSl_e, eUn_e, eIsi_e, eChain_e, sSeq_e, sRet_e, sExpr_e, sIf_e, putS_e, asg_v, asg_t, sSet_e, tgTup_e, tgCons_e, tgNil_e, tgName_e, sAsg_e, sFor_e, eIter_e, eEnum_e, eRng1_e, eRng2_e, eCallA_e, eCallK_e, frOf_k, ite_ap, mtc_out, isi_int, isi_bool, isi_tuple, isIntD, isBoolD, isTupD, gLen, truth, gEq_int, gNe_int, gLe_int, gLt_int, gSub_int, gAdd_int, sPar_e, gEq_str, abAtE_e, frB_k, eCallB_e, noExc_e, eDict1_e, gNeg_int, gPow_30, eLc_e, gTuple_l, gTuple_t, gList_l, gList_t, sPutAt_e, lsAt_e, gSl_t, finR, sRaise0_e, frOf_x, sTry_e, noX_k, isi_str, List.set, List.getElem?_cons_zero, List.getElem?_cons_succ, List.map_cons, List.map_nil, List.length_cons, List.length_nil, Option.bind_some, Bool.false_eq_true, if_false, if_true, reduceIte, Nat.reduceAdd, reduceCtorEq, decide_true, decide_false, Bool.not_true, Bool.not_false]; rfl, rfl⟩, fun _ => rfl⟩)
  rw [List.nil_append] at lc2
  refine ⟨.dc (bagE (((ns.map cellI).filter fun c => decide (c ≥ 1000000000000000)).map PyData.int) st 0), ?_, _, st, 0, rfl, fun x hx => ?_, ?_, s0, s1, by decide⟩
  · unfold F__law_bag runB g__law_bag
    rw [he]
    generalize hF : ((ns.map cellI).filter fun c => decide (c ≥ 1000000000000000)).map PyData.int = FF at *
    generalize (ns.map cellI).map PyData.int = CC at *
    have nl : (ns.map PyData.int).length = ns.length := List.length_map _
    have bg : eBag3 "far" "stirred" "count" (eLc (eIter (eVar 2)) [1] (tgName 1) D__law_bag_0 C__law_bag_1) (qVar 3) (qC (.int 0)) [some (.ab (.sc ns)), x1, some (.im (.list CC)), some (.im (.int st))] = .ok (.tab (.dc (bagE FF st 0))) (rst [some (.ab (.sc ns)), x1, some (.im (.list CC)), some (.im (.int st))] [some (.ab (.sc ns)), none, some (.im (.list CC)), some (.im (.int st))] [1]) := by
      refine eBag3_t ?_ rfl rfl
      simp only [bnd_e, ret_e, oops_e, lift_s, lift_n, opn_e, thaw_v, thaw_t, thaw_s, rsv_v, rsv_s, frz_v, frz_t, frz_s, kept_e, eVar_e, eBin_e, toB_b, eTest_e, bAnd_e, bOr_e, bNot_e, eTruth_e, vAnd_e, vOr_e, vNot_e, eIf_e, eTup_e, eLst_e, rsvs_n, rsvs_c, eBi_e, toPart_i, eSl_e, eUn_e, eIsi_e, eChain_e, sSeq_e, sRet_e, sExpr_e, sIf_e, putS_e, asg_v, asg_t, sSet_e, tgTup_e, tgCons_e, tgNil_e, tgName_e, sAsg_e, sFor_e, eIter_e, eEnum_e, eRng1_e, eRng2_e, eCallA_e, eCallK_e, frOf_k, ite_ap, mtc_out, isi_int, isi_bool, isi_tuple, isIntD, isBoolD, isTupD, gLen, truth, gEq_int, gNe_int, gLe_int, gLt_int, gSub_int, gAdd_int, sPar_e, gEq_str, abAtE_e, frB_k, eCallB_e, noExc_e, eDict1_e, gNeg_int, gPow_30, eLc_e, gTuple_l, gTuple_t, gList_l, gList_t, sPutAt_e, lsAt_e, gSl_t, finR, sRaise0_e, frOf_x, sTry_e, noX_k, isi_str, List.set, List.getElem?_cons_zero, List.getElem?_cons_succ, List.map_cons, List.map_nil, List.length_cons, List.length_nil, Option.bind_some, Bool.false_eq_true, if_false, if_true, reduceIte, Nat.reduceAdd, reduceCtorEq, decide_true, decide_false, Bool.not_true, Bool.not_false, itemsOf, wipeE]
      rw [lc2]
    simp only [bnd_e, ret_e, oops_e, lift_s, lift_n, opn_e, thaw_v, thaw_t, thaw_s, rsv_v, rsv_s, frz_v, frz_t, frz_s, kept_e, eVar_e, eBin_e, toB_b, eTest_e, bAnd_e, bOr_e, bNot_e, eTruth_e, vAnd_e, vOr_e, vNot_e, eIf_e, eTup_e, eLst_e, rsvs_n, rsvs_c, eBi_e, toPart_i, eSl_e, eUn_e, eIsi_e, eChain_e, sSeq_e, sRet_e, sExpr_e, sIf_e, putS_e, asg_v, asg_t, sSet_e, tgTup_e, tgCons_e, tgNil_e, tgName_e, sAsg_e, sFor_e, eIter_e, eEnum_e, eRng1_e, eRng2_e, eCallA_e, eCallK_e, frOf_k, ite_ap, mtc_out, isi_int, isi_bool, isi_tuple, isIntD, isBoolD, isTupD, gLen, truth, gEq_int, gNe_int, gLe_int, gLt_int, gSub_int, gAdd_int, sPar_e, gEq_str, abAtE_e, frB_k, eCallB_e, noExc_e, eDict1_e, gNeg_int, gPow_30, eLc_e, gTuple_l, gTuple_t, gList_l, gList_t, sPutAt_e, lsAt_e, gSl_t, finR, sRaise0_e, frOf_x, sTry_e, noX_k, isi_str, List.set, List.getElem?_cons_zero, List.getElem?_cons_succ, List.map_cons, List.map_nil, List.length_cons, List.length_nil, Option.bind_some, Bool.false_eq_true, if_false, if_true, reduceIte, Nat.reduceAdd, reduceCtorEq, decide_true, decide_false, Bool.not_true, Bool.not_false, eApp_e, eExt_e, extD_l, eM0_e, eM1_e, strD_s, lsAt_e, putS_e, sPar2_e, slotOf_v, slotOf_t, eScSl_e, scE_s, cu, nl, itemsOf, wipeE, lc1, rst, imOnly, a1, e2, bg, ab0]
  · obtain ⟨c, _, rfl⟩ := List.mem_map.mp (List.mem_filter.mp hx).1
    exact cellI_nn c
  · have := List.length_filter_le (fun c => decide (c ≥ 1000000000000000)) (ns.map cellI)
    rw [List.length_map] at this
    omega

end Pu.L

namespace Pu.L
open PySem PySem.Spec PyProof.Rows L2 Pu
abbrev BAGP : Ab → Prop := Bg
def w_longest : Nat → Way → WP Int
  | 0, _ => wfail
  | n + 1, a_way => wdone (
(wret (wbind (wbind (wpure [(0 : Int)]) fun a4 => wbind (wbind (wpure (Way.fu a_way)) fun xs => wlc (fun x1 => (wpure true)) (fun x1 => (wbind (w_longest n x1) fun a2 => wbind (wpure (1 : Int)) fun b3 => (wpure (a2 + b3)))) xs) fun b5 => (wcat a4 b5)) fun a6 => (wmaxL a6))))
theorem T_longest : ∀ (n : Nat) (a_way : Way) Q E, w_longest n a_way Q E → TR (F_longest n [eW a_way]) (kV eI) Q E
  | 0, _, _, _, h => h.elim
  | n + 1, a_way, Q, E, h => tA (V' := fun s => nomatch s) (
(js_ret (rkA_v) (j_bi1 ow_maxL (jo_t (j_bin (ow_catL (e := eI)) (jo_up (jop_t (jp_lst (jks_consP (jkp_v jp_val) jks_nil)))) (jo_t (j_lc (e2 := eI) (Vx := fun (x1 : Way) tb => [some (.im (eW a_way)), some (.im (eW x1))]) (ji_up (jip_t (e1 := eW) (jkp_v (jp_bin o_wfu (jop_v (jp_var (fun _ => rfl))) (jop_v jp_val))))) (fun _ _ => rfl) (fun x1 => (jt_up (jp_ret rfl))) (fun x1 => (jk_v (j_bin ow_add (jo_v (jc_AP xok_t (T_longest n x1) (jks_consP (jkp_v (jp_var (fun _ => rfl))) jks_nil))) (jo_up (jop_v jp_val))))) (fun _ _ => rfl) (fun _ _ => rfl)))))))) Q E h
def w_trains_at (a_standing : (List (Option Way))) (a_station : Int) : WP (List Int) := wdone (
(wret (wbind (wbind (wpure (enumL a_standing)) fun xs => wlc (fun x1 => (if (Option.isSome x1.2) = true then (wbind (wbind (wsome x1.2) fun a => wpure (Way.st a)) fun a2 => wbind (wpure a_station) fun b3 => (wpure (decide (a2 = b3)))) else wpure false)) (fun x1 => (wpure x1.1)) xs) fun a4 => (wpure a4))))
theorem T_trains_at (a_standing : (List (Option Way))) (a_station : Int) : ∀ Q E, w_trains_at a_standing a_station Q E → TR (F_trains_at [(eT (eO eW)) a_standing, eI a_station]) (kV (eT eI)) Q E := tA (V' := fun s => nomatch s) (
(js_ret (rkA_v) (j_bi1 (ow_tupL (e := eI)) (jo_t (j_lc (e2 := eI) (Vx := fun (x1 : (Int × (Option Way))) tb => [some (.im ((eT (eO eW)) a_standing)), some (.im (eI a_station)), some (.im (eI x1.1)), some (.im ((eO eW) x1.2))]) (ji_up (jip_enum (jip_t (e1 := (eO eW)) (jkp_v (jp_var (fun _ => rfl)))))) (fun _ _ => rfl) (fun x1 => (jt_andP (jtp_e (jp_bin (o_notNO isNon_W) (jop_v (jp_var (fun _ => rfl))) (jop_v jp_val))) (jt_e (j_bin (ow_eq qI) (jo_v (j_binR (db := eI 0) ow_wst (jo_v (j_someP (jp_var (fun _ => rfl)))) (jop_v jp_val))) (jo_up (jop_v (jp_var (fun _ => rfl)))))))) (fun x1 => (jk_up (jkp_v (jp_var (fun _ => rfl))))) (fun _ _ => rfl) (fun _ _ => rfl))))))
def w_free_tracks (a_net : ((List Int) × (List (Int × Int)))) (a_standing : (List (Option Way))) (a_station : Int) : WP Int := wdone (
(wret (wbind (wix a_net.1 a_station) fun a2 => wbind (wbind (w_trains_at a_standing a_station) fun a1 => (wpure (List.length a1 : Int))) fun b3 => (wpure (a2 - b3)))))
theorem T_free_tracks (a_net : ((List Int) × (List (Int × Int)))) (a_standing : (List (Option Way))) (a_station : Int) : ∀ Q E, w_free_tracks a_net a_standing a_station Q E → TR (F_free_tracks [(eTp (cc (eT eI) (c1 (eT (eTp (cc eI (c1 eI))))))) a_net, (eT (eO eW)) a_standing, eI a_station]) (kV eI) Q E := tA (V' := fun s => nomatch s) (
(js_ret (rkA_v) (j_bin ow_sub (jo_v (j_binP (ow_ixT (e := eI)) (jop_v (jp_bin (db := eI 0) (K := kV (eT eI) a_net.1) ⟨_, rfl, rfl⟩ (jop_v (jp_var (fun _ => rfl))) (jop_v jp_val))) (jop_v (jp_var (fun _ => rfl))))) (jo_v (j_bi1 (ow_lenT (e := eI)) (jo_v (jc_AP xok_t (T_trains_at a_standing a_station) (jks_consP (jkp_v (jp_var (fun _ => rfl))) (jks_consP (jkp_v (jp_var (fun _ => rfl))) jks_nil)))))))))
def w_wants (a_standing : (List (Option Way))) (a_train : Int) : WP (List Int) := wdone (
(wseq (wset (wix a_standing a_train)) fun way1 =>
(wseq (if (Option.isNone way1) = true then
(wret (wpure ([] : (List Int))))
else
(wpure (.nx ()))) fun s2 =>
(wret (wbind (wbind (wbind (wsome way1) fun a => wpure (Way.fu a)) fun xs => wlc (fun x3 => (wpure true)) (fun x3 => (wpure (Way.st x3))) xs) fun a4 => (wpure a4))))))
theorem T_wants (a_standing : (List (Option Way))) (a_train : Int) : ∀ Q E, w_wants a_standing a_train Q E → TR (F_wants [(eT (eO eW)) a_standing, eI a_train]) (kV (eT eI)) Q E := tA (V' := fun s => nomatch s) (
(js_seq (js_asg (V' := fun (way1 : (Option Way)) tb => [some (.im ((eT (eO eW)) a_standing)), some (.im (eI a_train)), some (.im ((eO eW) way1)), none]) (fun _ _ => rfl) (jk_v (j_binP (ow_ixT (e := (eO eW))) (jop_v (jp_var (fun _ => rfl))) (jop_v (jp_var (fun _ => rfl)))))) fun way1 =>
(js_seq (js_ifP (V' := (fun (s2 : Unit) tb => [some (.im ((eT (eO eW)) a_standing)), some (.im (eI a_train)), some (.im ((eO eW) way1)), none])) (jtp_e (jp_bin (o_isNO isNon_W) (jop_v (jp_var (fun _ => rfl))) (jop_v jp_val)))
(js_ret (rkA_v) (j_up (jp_tup jks_nil)))
(js_nil () (fun _ => rfl))) fun s2 =>
(js_ret (rkA_v) (j_bi1 (ow_tupL (e := eI)) (jo_t (j_lc (e2 := eI) (Vx := fun (x3 : Way) tb => [some (.im ((eT (eO eW)) a_standing)), some (.im (eI a_train)), some (.im ((eO eW) way1)), some (.im (eW x3))]) (ji_t (e1 := eW) (jk_v (j_binR (db := eI 1) ow_wfu (jo_v (j_someP (jp_var (fun _ => rfl)))) (jop_v jp_val)))) (fun _ _ => rfl) (fun x3 => (jt_up (jp_ret rfl))) (fun x3 => (jk_up (jkp_v (jp_bin o_wst (jop_v (jp_var (fun _ => rfl))) (jop_v jp_val))))) (fun _ _ => rfl) (fun _ _ => rfl))))))))
def w_steps_left (a_standing : (List (Option Way))) : WP Int := wdone (
(wret (wbind (wbind (wpure a_standing) fun xs => wlc (fun x1 => (wpure (Option.isSome x1))) (fun x1 => (wbind (wbind (wsome x1) fun p => w_longest 16 p) fun a2 => wbind (wpure (1 : Int)) fun b3 => (wpure (a2 + b3)))) xs) fun a4 => (wpure (List.sum a4)))))
theorem T_steps_left (a_standing : (List (Option Way))) : ∀ Q E, w_steps_left a_standing Q E → TR (F_steps_left [(eT (eO eW)) a_standing]) (kV eI) Q E := tA (V' := fun s => nomatch s) (
(js_ret (rkA_v) (j_bi1 ow_sum (jo_t (j_lc (e2 := eI) (Vx := fun (x1 : (Option Way)) tb => [some (.im ((eT (eO eW)) a_standing)), some (.im ((eO eW) x1))]) (ji_up (jip_t (e1 := (eO eW)) (jkp_v (jp_var (fun _ => rfl))))) (fun _ _ => rfl) (fun x1 => (jt_up (jtp_e (jp_bin (o_notNO isNon_W) (jop_v (jp_var (fun _ => rfl))) (jop_v jp_val))))) (fun x1 => (jk_v (j_bin ow_add (jo_v (jc_A xok_t (fun p => T_longest 16 p) (jks_one (jk_v (j_someP (jp_var (fun _ => rfl))))))) (jo_up (jop_v jp_val))))) (fun _ _ => rfl) (fun _ _ => rfl))))))
def w_all_gone (a_standing : (List (Option Way))) : WP Bool := wdone (
(wret (wbind (wbind (wpure a_standing) fun xs => wlc (fun x1 => (wpure true)) (fun x1 => (wpure (Option.isNone x1))) xs) fun a2 => (wpure (List.all a2 id)))))
theorem T_all_gone (a_standing : (List (Option Way))) : ∀ Q E, w_all_gone a_standing Q E → TR (F_all_gone [(eT (eO eW)) a_standing]) (kV eB) Q E := tA (V' := fun s => nomatch s) (
(js_ret (rkA_v) (j_bi1 ow_all (jo_t (j_lc (e2 := eB) (Vx := fun (x1 : (Option Way)) tb => [some (.im ((eT (eO eW)) a_standing)), some (.im ((eO eW) x1))]) (ji_up (jip_t (e1 := (eO eW)) (jkp_v (jp_var (fun _ => rfl))))) (fun _ _ => rfl) (fun x1 => (jt_up (jp_ret rfl))) (fun x1 => (jk_up (jkp_v (jp_bin (o_isNO isNon_W) (jop_v (jp_var (fun _ => rfl))) (jop_v jp_val))))) (fun _ _ => rfl) (fun _ _ => rfl))))))
def w_without (a_standing : (List (Option Way))) (a_trains : (List Int)) : WP (List (Option Way)) := wdone (
(wret (wbind (wbind (wpure (enumL a_standing)) fun xs => wlc (fun x1 => (wpure true)) (fun x1 => (wpure (if (decide (x1.1 ∈ a_trains)) = true then none else x1.2))) xs) fun a2 => (wpure a2))))
theorem T_without (a_standing : (List (Option Way))) (a_trains : (List Int)) : ∀ Q E, w_without a_standing a_trains Q E → TR (F_without [(eT (eO eW)) a_standing, (eT eI) a_trains]) (kV (eT (eO eW))) Q E := tA (V' := fun s => nomatch s) (
(js_ret (rkA_v) (j_bi1 (ow_tupL (e := (eO eW))) (jo_t (j_lc (e2 := (eO eW)) (Vx := fun (x1 : (Int × (Option Way))) tb => [some (.im ((eT (eO eW)) a_standing)), some (.im ((eT eI) a_trains)), some (.im (eI x1.1)), some (.im ((eO eW) x1.2))]) (ji_up (jip_enum (jip_t (e1 := (eO eW)) (jkp_v (jp_var (fun _ => rfl)))))) (fun _ _ => rfl) (fun x1 => (jt_up (jp_ret rfl))) (fun x1 => (jk_up (jkp_v (jp_if (K := (kV (eO eW))) (jtp_e (jp_bin (o_inT qI) (jop_v (jp_var (fun _ => rfl))) (jop_v (jp_var (fun _ => rfl))))) jp_val (jp_var (fun _ => rfl)))))) (fun _ _ => rfl) (fun _ _ => rfl))))))
def w__law_pick {α : Type} (eα : α → D) (a_items : (List α)) : WP α := wdone (
(wret (wbind (wpure a_items) fun a1 => wbind (w__law_draw (List.length a_items : Int)) fun b2 => (wix a1 b2))))
theorem T__law_pick {α : Type} (eα : α → D) (a_items : (List α)) : ∀ t Q E, BAGP t → w__law_pick eα a_items Q E → TRB BAGP (F__law_pick t [(eL eα) a_items]) (kV eα) Q E := tB (V' := fun s => nomatch s) (
(js_ret (rkB_v (fun _ => rfl)) (j_bin (ow_ixL (e := eα)) (jo_up (jop_v (jp_var (fun _ => rfl)))) (jo_v (jc_BP (xok_B (fun _ => rfl)) (fun _ => rfl) (fun _ _ => rfl) (T__law_draw (List.length a_items : Int)) (jks_consP (jkp_v (jp_bi1 (o_lenL (e := eα)) (jop_v (jp_var (fun _ => rfl))))) jks_nil))))))
def w__law_mixed {α : Type} (eα : α → D) (a_items : (List α)) : WP (List α) := wdone (
(wseq (wbind (wpure a_items) fun a => wbind (wpure ([] : (List α))) fun b => wpure (.nx (a, b))) fun p1 =>
(wseq (wwhile (fun s2 => (weq (eL eα) (eL eα) true s2.1 ([] : (List α)))) (fun s2 =>
(wseq (wbind (w__law_draw (List.length s2.1 : Int)) fun z Q _ => ∃ k x, popIx (List.length s2.1) (.int z) = some k ∧ s2.1[k]? = some x ∧ List.length s2.2 < bigLine ∧ Q (.nx (List.eraseIdx s2.1 k, s2.2 ++ [x]))) fun found3 =>
(wpure (.nx (found3.1, found3.2))))) 1000000 (p1.1, p1.2)) fun s4 =>
(wpure (.rt s4.2)))))
theorem T__law_mixed {α : Type} (eα : α → D) (a_items : (List α)) : ∀ t Q E, BAGP t → w__law_mixed eα a_items Q E → TRB BAGP (F__law_mixed t [(eL eα) a_items]) (kT eα) Q E := tB (V' := fun s => nomatch s) (
(js_seq (js_par2 (sa := fun (z : (List α)) => .ls (List.map eα z)) (sb := fun (z : (List α)) => .ls (List.map eα z)) (V' := fun (p1 : (List α) × (List α)) tb => [some (.ab tb), some (.im ((eL eα) a_items)), some (.ls (List.map eα p1.1)), some (.ls (List.map eα p1.2))]) slot_t slot_t (fun _ _ => rfl) (j_up (jp_bi1 (o_lisL (e := eα)) (jop_v (jp_var (fun _ => rfl))))) (j_up (jp_lst jks_nil))) fun p1 =>
(js_seq (js_while (VL := fun (s2 : (List α) × (List α)) tb => [some (.ab tb), some (.im ((eL eα) a_items)), some (.ls (List.map eα s2.1)), some (.ls (List.map eα s2.2))]) (p1.1, p1.2) (fun _ => rfl) (fun s2 => (jt_e (j_binP (ow_eqD (e := (eL eα)) (e' := (eL eα)) (neg := true)) (jop_s (fun _ => rfl)) (jop_t (jp_lst jks_nil))))) (fun s2 =>
(js_seq (js_appPop (xs := s2.1) (ys := s2.2) (V' := fun (found3 : List α × List α) tb => [some (.ab tb), some (.im ((eL eα) a_items)), some (.ls (List.map eα found3.1)), some (.ls (List.map eα found3.2))]) (fun _ => rfl) (fun _ => rfl) (fun _ _ => rfl) (fun _ _ => rfl) (jo_v (jc_BP (xok_B (fun _ => rfl)) (fun _ => rfl) (fun _ _ => rfl) (T__law_draw (List.length s2.1 : Int)) (jks_consP (jkp_v (jp_bi1 (o_lenL (e := eα)) (jop_s (fun _ => rfl)))) jks_nil)))) fun found3 =>
(js_nil (found3.1, found3.2) (fun _ => rfl))))) fun s4 =>
(js_retS (fun _ => rfl) (rkB_s (by decide) (fun _ => rfl) (fun _ => rfl))))))
def w__law_net (a_many : Int) : WP ((List Int) × (List (Int × Int))) := wdone (
(wseq (wset (wbind (wbind (wrng1 a_many) fun xs => wlc (fun x2 => (wpure true)) (fun x2 => (w__law_pick eI [(1 : Int), (1 : Int), (1 : Int), (2 : Int), (2 : Int), (3 : Int), (4 : Int)])) xs) fun a3 => (wpure a3))) fun tracks1 =>
(wseq (wbind (w__law_draw (5 : Int)) fun a => wbind (wpure ([] : (List (Int × Int)))) fun b => wpure (.nx (a, b))) fun p4 =>
(wseq (wbind (wrng2 (1 : Int) a_many) fun xs => wfor (fun x6 s5 =>
(wseq (wset (if (decide (p4.1 < (2 : Int))) = true then (wpure (x6 - (1 : Int))) else (if (decide (p4.1 = (2 : Int))) = true then (wpure (0 : Int)) else (w__law_draw x6)))) fun j7 =>
(wseq (wset (wcat s5 [(j7, x6), (x6, j7)])) fun lines8 =>
(wpure (.nx lines8))))) xs p4.2) fun s9 =>
(wseq (if ((decide (p4.1 = (1 : Int))) && (decide ((2 : Int) < a_many))) = true then
(wseq (wset (wcat s9 [((a_many - (1 : Int)), (0 : Int)), ((0 : Int), (a_many - (1 : Int)))])) fun lines11 =>
(wpure (.nx lines11)))
else
(wpure (.nx s9))) fun s10 =>
(wseq (wbind (wbind (if (decide ((1 : Int) < a_many)) = true then (w__law_draw (a_many + (1 : Int))) else (wpure (0 : Int))) wrng1) fun xs => wfor (fun x13 s12 =>
(wseq (wset (w__law_draw a_many)) fun i14 =>
(wseq (wbind (wbind (wpure i14) fun a => wbind (wbind (wbind (wbind (wpure (i14 + (1 : Int))) fun a16 => wbind (w__law_draw (a_many - (1 : Int))) fun b17 => (wpure (a16 + b17))) fun a18 => (wpure a18)) fun a19 => wbind (wpure a_many) fun b20 => (wmod a19 b20)) fun b => wpure (a, b)) fun a Q E => List.length s12 < bigLine ∧ Q (.nx (s12 ++ [a]))) fun lines15 =>
(wpure (.nx lines15))))) xs s10) fun s21 =>
(wseq (if (decide (p4.1 = (4 : Int))) = true then
(wseq (wset (wbind (wpure s21) fun xs => wlc (fun x24 => (wbind (w__law_draw (4 : Int)) fun a25 => wbind (wpure (0 : Int)) fun b26 => (wpure (decide (b26 < a25))))) (fun x24 => (wpure x24)) xs)) fun lines23 =>
(wpure (.nx lines23)))
else
(wpure (.nx s21))) fun s22 =>
(wret (wbind (wpure tracks1) fun a => wbind (wbind (wsortSet s22) fun a27 => (wpure a27)) fun b => wpure (a, b))))))))))
theorem T__law_net (a_many : Int) : ∀ t Q E, BAGP t → w__law_net a_many Q E → TRB BAGP (F__law_net t [eI a_many]) (kV (eTp (cc (eT eI) (c1 (eT (eTp (cc eI (c1 eI)))))))) Q E := tB (V' := fun s => nomatch s) (
(js_seq (js_asg (V' := fun (tracks1 : (List Int)) tb => [some (.ab tb), some (.im (eI a_many)), some (.im ((eT eI) tracks1)), none, none, none, none, none, none, none]) (fun _ _ => rfl) (jk_v (j_bi1 (ow_tupL (e := eI)) (jo_t (j_lc (e2 := eI) (Vx := fun (x2 : Int) tb => [some (.ab tb), some (.im (eI a_many)), none, none, none, none, none, none, some (.im (eI x2)), none]) (ji_rng1P (jks_consP (jkp_v (jp_var (fun _ => rfl))) jks_nil)) (fun _ _ => rfl) (fun x2 => (jt_up (jp_ret rfl))) (fun x2 => (jk_v (jc_BP (xok_B (fun _ => rfl)) (fun _ => rfl) (fun _ _ => rfl) (T__law_pick eI [(1 : Int), (1 : Int), (1 : Int), (2 : Int), (2 : Int), (3 : Int), (4 : Int)]) (jks_consP (jkp_t (jp_lst (jks_consP (jkp_v jp_val) (jks_consP (jkp_v jp_val) (jks_consP (jkp_v jp_val) (jks_consP (jkp_v jp_val) (jks_consP (jkp_v jp_val) (jks_consP (jkp_v jp_val) (jks_consP (jkp_v jp_val) jks_nil))))))))) jks_nil)))) (fun _ _ => rfl) (fun _ _ => rfl)))))) fun tracks1 =>
(js_seq (js_par2 (sa := fun (z : Int) => .im (eI z)) (sb := fun (z : (List (Int × Int))) => .ls (List.map (eTp (cc eI (c1 eI))) z)) (V' := fun (p4 : Int × (List (Int × Int))) tb => [some (.ab tb), some (.im (eI a_many)), some (.im ((eT eI) tracks1)), none, none, some (.im (eI p4.1)), some (.ls (List.map (eTp (cc eI (c1 eI))) p4.2)), none, none, none]) slot_v slot_t (fun _ _ => rfl) (jc_BP (xok_B (fun _ => rfl)) (fun _ => rfl) (fun _ _ => rfl) (T__law_draw (5 : Int)) (jks_consP (jkp_v jp_val) jks_nil)) (j_up (jp_lst jks_nil))) fun p4 =>
(js_seq (js_for (VL := fun (s5 : (List (Int × Int))) tb => [some (.ab tb), some (.im (eI a_many)), some (.im ((eT eI) tracks1)), none, none, some (.im (eI p4.1)), some (.ls (List.map (eTp (cc eI (c1 eI))) s5)), none, none, none]) (Vx := fun (x6 : Int) (s5 : (List (Int × Int))) tb => [some (.ab tb), some (.im (eI a_many)), some (.im ((eT eI) tracks1)), some (.im (eI x6)), none, some (.im (eI p4.1)), some (.ls (List.map (eTp (cc eI (c1 eI))) s5)), none, none, none]) p4.2 (ji_rng2P (jks_consP (jkp_v jp_val) (jks_consP (jkp_v (jp_var (fun _ => rfl))) jks_nil))) (fun _ => rfl) (fun _ _ _ => rfl) (fun x6 s5 =>
(js_seq (js_asg (V' := fun (j7 : Int) tb => [some (.ab tb), some (.im (eI a_many)), some (.im ((eT eI) tracks1)), some (.im (eI x6)), none, some (.im (eI p4.1)), some (.ls (List.map (eTp (cc eI (c1 eI))) s5)), some (.im (eI j7)), none, none]) (fun _ _ => rfl) (jk_v (j_ifP (K := (kV eI)) (jtp_e (jp_bin o_lt (jop_v (jp_var (fun _ => rfl))) (jop_v jp_val))) (j_up (jp_bin o_sub (jop_v (jp_var (fun _ => rfl))) (jop_v jp_val))) (j_ifP (K := (kV eI)) (jtp_e (jp_bin (o_eq qI) (jop_v (jp_var (fun _ => rfl))) (jop_v jp_val))) (j_up jp_val) (jc_BP (xok_B (fun _ => rfl)) (fun _ => rfl) (fun _ _ => rfl) (T__law_draw x6) (jks_consP (jkp_v (jp_var (fun _ => rfl))) jks_nil)))))) fun j7 =>
(js_seq (js_setT (V' := fun (lines8 : (List (Int × Int))) tb => [some (.ab tb), some (.im (eI a_many)), some (.im ((eT eI) tracks1)), some (.im (eI x6)), none, some (.im (eI p4.1)), some (.ls (List.map (eTp (cc eI (c1 eI))) lines8)), some (.im (eI j7)), none, none]) (fun _ _ => rfl) (j_binP (ow_catL (e := (eTp (cc eI (c1 eI))))) (jop_s (fun _ => rfl)) (jop_t (jp_lst (jks_consP (jkp_v (jp_tup (jks_consP (jkp_v (jp_var (fun _ => rfl))) (jks_consP (jkp_v (jp_var (fun _ => rfl))) jks_nil)))) (jks_consP (jkp_v (jp_tup (jks_consP (jkp_v (jp_var (fun _ => rfl))) (jks_consP (jkp_v (jp_var (fun _ => rfl))) jks_nil)))) jks_nil)))))) fun lines8 =>
(js_wipe (js_nil lines8 (fun _ => rfl))))))) fun s9 =>
(js_seq (js_ifP (V' := (fun (s10 : (List (Int × Int))) tb => [some (.ab tb), some (.im (eI a_many)), some (.im ((eT eI) tracks1)), none, none, some (.im (eI p4.1)), some (.ls (List.map (eTp (cc eI (c1 eI))) s10)), none, none, none])) (jtp_and (jtp_e (jp_bin (o_eq qI) (jop_v (jp_var (fun _ => rfl))) (jop_v jp_val))) (jtp_e (jp_bin o_gt (jop_v (jp_var (fun _ => rfl))) (jop_v jp_val))))
(js_seq (js_setT (V' := fun (lines11 : (List (Int × Int))) tb => [some (.ab tb), some (.im (eI a_many)), some (.im ((eT eI) tracks1)), none, none, some (.im (eI p4.1)), some (.ls (List.map (eTp (cc eI (c1 eI))) lines11)), none, none, none]) (fun _ _ => rfl) (j_binP (ow_catL (e := (eTp (cc eI (c1 eI))))) (jop_s (fun _ => rfl)) (jop_t (jp_lst (jks_consP (jkp_v (jp_tup (jks_consP (jkp_v (jp_bin o_sub (jop_v (jp_var (fun _ => rfl))) (jop_v jp_val))) (jks_consP (jkp_v jp_val) jks_nil)))) (jks_consP (jkp_v (jp_tup (jks_consP (jkp_v jp_val) (jks_consP (jkp_v (jp_bin o_sub (jop_v (jp_var (fun _ => rfl))) (jop_v jp_val))) jks_nil)))) jks_nil)))))) fun lines11 =>
(js_nil lines11 (fun _ => rfl)))
(js_nil s9 (fun _ => rfl))) fun s10 =>
(js_seq (js_for (VL := fun (s12 : (List (Int × Int))) tb => [some (.ab tb), some (.im (eI a_many)), some (.im ((eT eI) tracks1)), none, none, some (.im (eI p4.1)), some (.ls (List.map (eTp (cc eI (c1 eI))) s12)), none, none, none]) (Vx := fun (x13 : Int) (s12 : (List (Int × Int))) tb => [some (.ab tb), some (.im (eI a_many)), some (.im ((eT eI) tracks1)), none, some (.im (eI x13)), some (.im (eI p4.1)), some (.ls (List.map (eTp (cc eI (c1 eI))) s12)), none, none, none]) s10 (ji_rng1 (jks_one (jk_v (j_ifP (K := (kV eI)) (jtp_e (jp_bin o_gt (jop_v (jp_var (fun _ => rfl))) (jop_v jp_val))) (jc_BP (xok_B (fun _ => rfl)) (fun _ => rfl) (fun _ _ => rfl) (T__law_draw (a_many + (1 : Int))) (jks_consP (jkp_v (jp_bin o_add (jop_v (jp_var (fun _ => rfl))) (jop_v jp_val))) jks_nil)) (j_up jp_val))))) (fun _ => rfl) (fun _ _ _ => rfl) (fun x13 s12 =>
(js_seq (js_asg (V' := fun (i14 : Int) tb => [some (.ab tb), some (.im (eI a_many)), some (.im ((eT eI) tracks1)), some (.im (eI i14)), some (.im (eI x13)), some (.im (eI p4.1)), some (.ls (List.map (eTp (cc eI (c1 eI))) s12)), none, none, none]) (fun _ _ => rfl) (jk_v (jc_BP (xok_B (fun _ => rfl)) (fun _ => rfl) (fun _ _ => rfl) (T__law_draw a_many) (jks_consP (jkp_v (jp_var (fun _ => rfl))) jks_nil)))) fun i14 =>
(js_seq (js_app (xs := s12) (V' := fun (lines15 : List (Int × Int)) tb => [some (.ab tb), some (.im (eI a_many)), some (.im ((eT eI) tracks1)), some (.im (eI i14)), some (.im (eI x13)), some (.im (eI p4.1)), some (.ls (List.map (eTp (cc eI (c1 eI))) lines15)), none, none, none]) (fun _ => rfl) (fun _ => rfl) (fun _ _ => rfl) (jk_v (j_tup (jks_cons (jk_up (jkp_v (jp_var (fun _ => rfl)))) (jks_one (jk_v (j_bin ow_mod (jo_v (j_bi1 ow_int (jo_v (j_bin ow_add (jo_up (jop_v (jp_bin o_add (jop_v (jp_var (fun _ => rfl))) (jop_v jp_val)))) (jo_v (jc_BP (xok_B (fun _ => rfl)) (fun _ => rfl) (fun _ _ => rfl) (T__law_draw (a_many - (1 : Int))) (jks_consP (jkp_v (jp_bin o_sub (jop_v (jp_var (fun _ => rfl))) (jop_v jp_val))) jks_nil))))))) (jo_up (jop_v (jp_var (fun _ => rfl))))))))))) fun lines15 =>
(js_wipe (js_nil lines15 (fun _ => rfl))))))) fun s21 =>
(js_seq (js_ifP (V' := (fun (s22 : (List (Int × Int))) tb => [some (.ab tb), some (.im (eI a_many)), some (.im ((eT eI) tracks1)), none, none, some (.im (eI p4.1)), some (.ls (List.map (eTp (cc eI (c1 eI))) s22)), none, none, none])) (jtp_e (jp_bin (o_eq qI) (jop_v (jp_var (fun _ => rfl))) (jop_v jp_val)))
(js_seq (js_setT (V' := fun (lines23 : (List (Int × Int))) tb => [some (.ab tb), some (.im (eI a_many)), some (.im ((eT eI) tracks1)), none, none, some (.im (eI p4.1)), some (.ls (List.map (eTp (cc eI (c1 eI))) lines23)), none, none, none]) (fun _ _ => rfl) (j_lc (e2 := (eTp (cc eI (c1 eI)))) (Vx := fun (x24 : (Int × Int)) tb => [some (.ab tb), some (.im (eI a_many)), some (.im ((eT eI) tracks1)), none, none, some (.im (eI p4.1)), some (.im ((eL (eTp (cc eI (c1 eI)))) s21)), none, none, some (.im ((eTp (cc eI (c1 eI))) x24))]) (ji_l (e1 := (eTp (cc eI (c1 eI)))) (jk_s (fun _ => rfl) (fun _ => rfl))) (fun _ _ => rfl) (fun x24 => (jt_e (j_bin ow_gt (jo_v (jc_BP (xok_B (fun _ => rfl)) (fun _ => rfl) (fun _ _ => rfl) (T__law_draw (4 : Int)) (jks_consP (jkp_v jp_val) jks_nil))) (jo_up (jop_v jp_val))))) (fun x24 => (jk_up (jkp_v (jp_var (fun _ => rfl))))) (fun _ _ => rfl) (fun _ _ => rfl))) fun lines23 =>
(js_nil lines23 (fun _ => rfl)))
(js_nil s21 (fun _ => rfl))) fun s22 =>
(js_ret (rkB_v (fun _ => rfl)) (j_tup (jks_cons (jk_up (jkp_v (jp_var (fun _ => rfl)))) (jks_one (jk_v (j_bi1 (ow_tupL (e := (eTp (cc eI (c1 eI))))) (jo_t (j_sortSetP (jop_s (fun _ => rfl)))))))))))))))))
def w__law_nexts (a_net : ((List Int) × (List (Int × Int)))) (a_station : Int) : WP (List Int) := wdone (
(wret (wbind (wpure a_net.2) fun xs => wlc (fun x1 => (wpure (decide (x1.1 = a_station)))) (fun x1 => (wpure x1.2)) xs)))
theorem T__law_nexts (a_net : ((List Int) × (List (Int × Int)))) (a_station : Int) : ∀ Q E, w__law_nexts a_net a_station Q E → TR (F__law_nexts [(eTp (cc (eT eI) (c1 (eT (eTp (cc eI (c1 eI))))))) a_net, eI a_station]) (kT eI) Q E := tA (V' := fun s => nomatch s) (
(js_ret (rkA_t) (j_lc (e2 := eI) (Vx := fun (x1 : (Int × Int)) tb => [some (.im ((eTp (cc (eT eI) (c1 (eT (eTp (cc eI (c1 eI))))))) a_net)), some (.im (eI a_station)), some (.im (eI x1.1)), some (.im (eI x1.2))]) (ji_up (jip_t (e1 := (eTp (cc eI (c1 eI)))) (jkp_v (jp_bin (db := eI 1) (K := kV (eT (eTp (cc eI (c1 eI)))) a_net.2) ⟨_, rfl, rfl⟩ (jop_v (jp_var (fun _ => rfl))) (jop_v jp_val))))) (fun _ _ => rfl) (fun x1 => (jt_up (jtp_e (jp_bin (o_eq qI) (jop_v (jp_var (fun _ => rfl))) (jop_v (jp_var (fun _ => rfl))))))) (fun x1 => (jk_up (jkp_v (jp_var (fun _ => rfl))))) (fun _ _ => rfl) (fun _ _ => rfl))))
def w__law_way : Nat → ((List Int) × (List (Int × Int))) → Int → Int → (List Int) → WP (Way × List Int)
  | 0, _, _, _, _ => wfail
  | n + 1, a_net, a_station, a_steps, a_wide => wnoE (wdone (
(wseq (wset (w__law_nexts a_net a_station)) fun goals1 =>
(wseq (if ((decide (a_steps = (0 : Int))) || (decide (goals1 = ([] : (List Int))))) = true then
(wbind (wpure (Way.mk a_station ([] : (List Way)))) fun r => wpure (.rt (r, a_wide)))
else
(wpure (.nx ()))) fun s2 =>
(wseq (wset (wpure (1 : Int))) fun many3 =>
(wseq (wbind (wbind (wbind (wix a_wide (0 : Int)) fun a4 => wbind (wpure (0 : Int)) fun b5 => (wpure (decide (b5 < a4)))) fun k => if k = true then (if (decide ((1 : Int) < (List.length goals1 : Int))) = true then (wbind (w__law_draw (3 : Int)) fun a6 => wbind (wpure (0 : Int)) fun b7 => (wpure (decide (a6 = b7)))) else wpure false) else wpure false) fun k => if k = true then
(wseq (wset (wbind (wpure (List.length goals1 : Int)) fun a => wbind (wbind (wix a_wide (0 : Int)) fun a10 => wbind (wpure (1 : Int)) fun b11 => (wpure (a10 + b11))) fun b => wbind (wbind (wpure (2 : Int)) fun a12 => wbind (w__law_draw (2 : Int)) fun b13 => (wpure (a12 + b13))) fun c => wpure (mn3 a b c))) fun many9 =>
(wseq (wbind (wbind (wbind (wix a_wide (0 : Int)) fun a15 => wbind (wpure many9) fun b16 => (wpure (a15 - b16))) fun a17 => wbind (wpure (1 : Int)) fun b18 => (wpure (a17 + b18))) fun a => wbind (wpure (0 : Int)) fun z Q E => ∃ k, ixN (List.length a_wide) z = some k ∧ Q (.nx (List.set a_wide k a))) fun wide14 =>
(wpure (.nx (wide14, many9)))))
else
(wpure (.nx (a_wide, many3)))) fun s8 =>
(wseq (wset (wpure ([] : (List Way)))) fun further19 =>
(wseq (wbind (wbind (wbind (w__law_mixed eI goals1) fun a20 => wbind (wpure ()) fun b21 => wbind (wpure ()) fun c22 => wpure (cutL a20 none (some s8.2))) fun a23 => (wsort eI a23)) fun xs => wfor (fun x25 s24 =>
(wseq (wset (wbind (wbind (w__law_draw (3 : Int)) fun a27 => wbind (wpure (0 : Int)) fun b28 => (wpure (decide (a27 = b28)))) fun k => if k = true then (w__law_draw (3 : Int)) else (wpure (0 : Int)))) fun less26 =>
(wseq (wbind (wbind (wpure a_net) fun a => wbind (wbind (wpure x25) fun a => wbind (wbind (wpure (if ((a_steps - (1 : Int)) - less26) > (0 : Int) then ((a_steps - (1 : Int)) - less26) else (0 : Int))) fun a => wbind (wpure ()) fun b => wpure (a, b)) fun b => wpure (a, b)) fun b => wpure (a, b)) fun p => wbind (w__law_way n p.1 p.2.1 p.2.2.1 s24.1) fun r Q E => List.length s24.2 < bigLine ∧ Q (.nx (s24.2 ++ [r.1], r.2))) fun further29 =>
(wpure (.nx (further29.2, further29.1)))))) xs (s8.1, further19)) fun s30 =>
(wbind (wpure (Way.mk a_station s30.2)) fun r => wpure (.rt (r, s30.1)))))))))))
theorem T__law_way : ∀ (n : Nat) (a_net : ((List Int) × (List (Int × Int)))) (a_station : Int) (a_steps : Int) (a_wide : (List Int)) (t : Ab) Q E, BAGP t → w__law_way n a_net a_station a_steps a_wide Q E → TRW BAGP (F__law_way n t [(eTp (cc (eT eI) (c1 (eT (eTp (cc eI (c1 eI))))))) a_net, eI a_station, eI a_steps] (List.map eI a_wide)) (kV eW) Q
  | 0, _, _, _, _, _, _, _, _, h => h.elim
  | n + 1, a_net, a_station, a_steps, a_wide, t, Q, E, hb, h => tW (V' := fun s => nomatch s) (
(js_seq (js_asg (V' := fun (goals1 : (List Int)) tb => [some (.ab tb), some (.im ((eTp (cc (eT eI) (c1 (eT (eTp (cc eI (c1 eI))))))) a_net)), some (.im (eI a_station)), some (.im (eI a_steps)), some (.ab (.fl (List.map eI a_wide))), some (.im ((eL eI) goals1)), none, none, none, none]) (fun _ _ => rfl) (jk_t (jc_AP xok_t (T__law_nexts a_net a_station) (jks_consP (jkp_v (jp_var (fun _ => rfl))) (jks_consP (jkp_v (jp_var (fun _ => rfl))) jks_nil))))) fun goals1 =>
(js_seq (js_ifP (V' := (fun (s2 : Unit) tb => [some (.ab tb), some (.im ((eTp (cc (eT eI) (c1 (eT (eTp (cc eI (c1 eI))))))) a_net)), some (.im (eI a_station)), some (.im (eI a_steps)), some (.ab (.fl (List.map eI a_wide))), some (.im ((eL eI) goals1)), none, none, none, none])) (jtp_or (jtp_e (jp_bin (o_eq qI) (jop_v (jp_var (fun _ => rfl))) (jop_v jp_val))) (jtp_e (jp_bin (o_eq (qL qI)) (jop_v (jp_var (fun _ => rfl))) (jop_t (jp_lst jks_nil)))))
(js_retW (fun _ => rfl) (fun _ => rfl) (j_up (jp_eq (eW_mk (a_station, ([] : (List Way)))) (jp_tup (jks_consP (jkp_v (jp_var (fun _ => rfl))) (jks_consP (jkp_v (jp_tup jks_nil)) jks_nil))))))
(js_nil () (fun _ => rfl))) fun s2 =>
(js_seq (js_asg (V' := fun (many3 : Int) tb => [some (.ab tb), some (.im ((eTp (cc (eT eI) (c1 (eT (eTp (cc eI (c1 eI))))))) a_net)), some (.im (eI a_station)), some (.im (eI a_steps)), some (.ab (.fl (List.map eI a_wide))), some (.im ((eL eI) goals1)), some (.im (eI many3)), none, none, none]) (fun _ _ => rfl) (jk_up (jkp_v jp_val))) fun many3 =>
(js_seq (js_if (V' := (fun (s8 : (List Int) × Int) tb => [some (.ab tb), some (.im ((eTp (cc (eT eI) (c1 (eT (eTp (cc eI (c1 eI))))))) a_net)), some (.im (eI a_station)), some (.im (eI a_steps)), some (.ab (.fl (List.map eI s8.1))), some (.im ((eL eI) goals1)), some (.im (eI s8.2)), none, none, none])) (jt_and (jt_e (j_bin ow_gt (jo_v (j_binP (ow_ixL (e := eI)) (jop_fl (fun _ => rfl)) (jop_v jp_val))) (jo_up (jop_v jp_val)))) (jt_andP (jtp_e (jp_bin o_gt (jop_v (jp_bi1 (o_lenL (e := eI)) (jop_v (jp_var (fun _ => rfl))))) (jop_v jp_val))) (jt_e (j_bin (ow_eq qI) (jo_v (jc_BP xok_t (fun _ => rfl) (fun _ _ => rfl) (T__law_draw (3 : Int)) (jks_consP (jkp_v jp_val) jks_nil))) (jo_up (jop_v jp_val))))))
(js_seq (js_asg (V' := fun (many9 : Int) tb => [some (.ab tb), some (.im ((eTp (cc (eT eI) (c1 (eT (eTp (cc eI (c1 eI))))))) a_net)), some (.im (eI a_station)), some (.im (eI a_steps)), some (.ab (.fl (List.map eI a_wide))), some (.im ((eL eI) goals1)), some (.im (eI many9)), none, none, none]) (fun _ _ => rfl) (jk_v (j_min3 (jo_up (jop_v (jp_bi1 (o_lenL (e := eI)) (jop_v (jp_var (fun _ => rfl)))))) (jo_v (j_bin ow_add (jo_v (j_binP (ow_ixL (e := eI)) (jop_fl (fun _ => rfl)) (jop_v jp_val))) (jo_up (jop_v jp_val)))) (jo_v (j_bin ow_add (jo_up (jop_v jp_val)) (jo_v (jc_BP xok_t (fun _ => rfl) (fun _ _ => rfl) (T__law_draw (2 : Int)) (jks_consP (jkp_v jp_val) jks_nil)))))))) fun many9 =>
(js_seq (js_putFl (xs := a_wide) (V' := fun (wide14 : List Int) tb => [some (.ab tb), some (.im ((eTp (cc (eT eI) (c1 (eT (eTp (cc eI (c1 eI))))))) a_net)), some (.im (eI a_station)), some (.im (eI a_steps)), some (.ab (.fl (List.map eI wide14))), some (.im ((eL eI) goals1)), some (.im (eI many9)), none, none, none]) (fun _ => rfl) (fun _ _ => rfl) (jk_v (j_bin ow_add (jo_v (j_bin ow_sub (jo_v (j_binP (ow_ixL (e := eI)) (jop_fl (fun _ => rfl)) (jop_v jp_val))) (jo_up (jop_v (jp_var (fun _ => rfl)))))) (jo_up (jop_v jp_val)))) (jo_up (jop_v jp_val))) fun wide14 =>
(js_nil (wide14, many9) (fun _ => rfl))))
(js_nil (a_wide, many3) (fun _ => rfl))) fun s8 =>
(js_seq (js_setT (V' := fun (further19 : (List Way)) tb => [some (.ab tb), some (.im ((eTp (cc (eT eI) (c1 (eT (eTp (cc eI (c1 eI))))))) a_net)), some (.im (eI a_station)), some (.im (eI a_steps)), some (.ab (.fl (List.map eI s8.1))), some (.im ((eL eI) goals1)), some (.im (eI s8.2)), some (.ls (List.map eW further19)), none, none]) (fun _ _ => rfl) (j_up (jp_lst jks_nil))) fun further19 =>
(js_seq (js_for (VL := fun (s24 : (List Int) × (List Way)) tb => [some (.ab tb), some (.im ((eTp (cc (eT eI) (c1 (eT (eTp (cc eI (c1 eI))))))) a_net)), some (.im (eI a_station)), some (.im (eI a_steps)), some (.ab (.fl (List.map eI s24.1))), some (.im ((eL eI) goals1)), some (.im (eI s8.2)), some (.ls (List.map eW s24.2)), none, none]) (Vx := fun (x25 : Int) (s24 : (List Int) × (List Way)) tb => [some (.ab tb), some (.im ((eTp (cc (eT eI) (c1 (eT (eTp (cc eI (c1 eI))))))) a_net)), some (.im (eI a_station)), some (.im (eI a_steps)), some (.ab (.fl (List.map eI s24.1))), some (.im ((eL eI) goals1)), some (.im (eI s8.2)), some (.ls (List.map eW s24.2)), some (.im (eI x25)), none]) (s8.1, further19) (ji_l (e1 := eI) (jk_t (j_bi1 (ow_sortL (e := eI)) (jo_t (j_sl (κl := (fun _ => none)) (κh := (fun _ => (some s8.2))) (ow_slL (e := eI)) (jo_t (jc_BP xok_t (fun _ => rfl) (fun _ _ => rfl) (T__law_mixed eI goals1) (jks_consP (jkp_v (jp_var (fun _ => rfl))) jks_nil))) (jup (b := ()) jp_none) (jup (b := ()) (jp_part (jp_var (fun _ => rfl))))))))) (fun _ => rfl) (fun _ _ _ => rfl) (fun x25 s24 =>
(js_seq (js_asg (V' := fun (less26 : Int) tb => [some (.ab tb), some (.im ((eTp (cc (eT eI) (c1 (eT (eTp (cc eI (c1 eI))))))) a_net)), some (.im (eI a_station)), some (.im (eI a_steps)), some (.ab (.fl (List.map eI s24.1))), some (.im ((eL eI) goals1)), some (.im (eI s8.2)), some (.ls (List.map eW s24.2)), some (.im (eI x25)), some (.im (eI less26))]) (fun _ _ => rfl) (jk_v (j_if (K := (kV eI)) (jt_e (j_bin (ow_eq qI) (jo_v (jc_BP xok_t (fun _ => rfl) (fun _ _ => rfl) (T__law_draw (3 : Int)) (jks_consP (jkp_v jp_val) jks_nil))) (jo_up (jop_v jp_val)))) (jc_BP xok_t (fun _ => rfl) (fun _ _ => rfl) (T__law_draw (3 : Int)) (jks_consP (jkp_v jp_val) jks_nil)) (j_up jp_val)))) fun less26 =>
(js_seq (js_appW (F := (F__law_way n)) (wf := fun (p : ((List Int) × (List (Int × Int))) × Int × Int × Unit) => (w__law_way n p.1 p.2.1 p.2.2.1 s24.1)) (k := 4) (ws := s24.1) (sv := fun vs => .ab (.fl (List.map eI vs))) (ys := s24.2) (e3 := eW) (es := fun p => [(eTp (cc (eT eI) (c1 (eT (eTp (cc eI (c1 eI))))))) p.1, eI p.2.1, eI p.2.2.1]) (V' := fun (further29 : List Way × List Int) tb => [some (.ab tb), some (.im ((eTp (cc (eT eI) (c1 (eT (eTp (cc eI (c1 eI))))))) a_net)), some (.im (eI a_station)), some (.im (eI a_steps)), some (.ab (.fl (List.map eI further29.2))), some (.im ((eL eI) goals1)), some (.im (eI s8.2)), some (.ls (List.map eW further29.1)), some (.im (eI x25)), some (.im (eI less26))]) (by decide) (.inr rfl) (fun _ => rfl) (fun _ => rfl) (fun _ => rfl) (fun _ _ => rfl) (fun _ => rfl) (fun _ _ => rfl) (fun _ _ => rfl) (by intro p t Q E hb h; exact T__law_way n p.1 p.2.1 p.2.2.1 s24.1 t Q E hb h) (jw_cons (jk_up (jkp_v (jp_var (fun _ => rfl)))) (jw_cons (jk_up (jkp_v (jp_var (fun _ => rfl)))) (jw_cons (jk_up (jkp_v (jp_bi2 o_max2 (jop_v jp_val) (jop_v (jp_bin o_sub (jop_v (jp_bin o_sub (jop_v (jp_var (fun _ => rfl))) (jop_v jp_val))) (jop_v (jp_var (fun _ => rfl)))))))) (jw_slot (s := .ab (.fl (List.map eI s24.1))) (fun _ z => nomatch z) (fun _ => rfl)))))) fun further29 =>
(js_wipe (js_nil (further29.2, further29.1) (fun _ => rfl))))))) fun s30 =>
(js_retW (fun _ => rfl) (fun _ => rfl) (j_up (jp_eq (eW_mk (a_station, s30.2)) (jp_tup (jks_consP (jkp_v (jp_var (fun _ => rfl))) (jks_consP (jkp_v (jp_bi1 (o_tupL (e := eW)) (jop_s (fun _ => rfl)))) jks_nil))))))))))))) t Q E hb h
def w__law_far : Nat → Way → WP Int
  | 0, _ => wfail
  | n + 1, a_way => wdone (
(wret (wbind (wbind (wpure [(0 : Int)]) fun a4 => wbind (wbind (wpure (Way.fu a_way)) fun xs => wlc (fun x1 => (wpure true)) (fun x1 => (wbind (wpure (1 : Int)) fun a2 => wbind (w__law_far n x1) fun b3 => (wpure (a2 + b3)))) xs) fun b5 => (wcat a4 b5)) fun a6 => (wmaxL a6))))
theorem T__law_far : ∀ (n : Nat) (a_way : Way) Q E, w__law_far n a_way Q E → TR (F__law_far n [eW a_way]) (kV eI) Q E
  | 0, _, _, _, h => h.elim
  | n + 1, a_way, Q, E, h => tA (V' := fun s => nomatch s) (
(js_ret (rkA_v) (j_bi1 ow_maxL (jo_t (j_bin (ow_catL (e := eI)) (jo_up (jop_t (jp_lst (jks_consP (jkp_v jp_val) jks_nil)))) (jo_t (j_lc (e2 := eI) (Vx := fun (x1 : Way) tb => [some (.im (eW a_way)), some (.im (eW x1))]) (ji_up (jip_t (e1 := eW) (jkp_v (jp_bin o_wfu (jop_v (jp_var (fun _ => rfl))) (jop_v jp_val))))) (fun _ _ => rfl) (fun x1 => (jt_up (jp_ret rfl))) (fun x1 => (jk_v (j_bin ow_add (jo_up (jop_v jp_val)) (jo_v (jc_AP xok_t (T__law_far n x1) (jks_consP (jkp_v (jp_var (fun _ => rfl))) jks_nil)))))) (fun _ _ => rfl) (fun _ _ => rfl)))))))) Q E h
def w__law_standing (a_net : ((List Int) × (List (Int × Int)))) (a_many : Int) (a_steps : Int) : WP (List (Option Way)) := wdone (
(wseq (wbind (wpure a_net.1) fun a => wbind (wpure ([] : (List (Option Way)))) fun b => wpure (.nx (a, b))) fun p1 =>
(wseq (wbind (wrng1 a_many) fun xs => wfor (fun x3 s2 =>
(wseq (wset (wbind (wrng1 (List.length s2.1 : Int)) fun xs => wlc (fun x5 => (wbind (wix s2.1 x5) fun a6 => wbind (wpure (0 : Int)) fun b7 => (wpure (decide (b7 < a6))))) (fun x5 => (wpure x5)) xs)) fun spots4 =>
(wseq (wbind (if (decide (spots4 = ([] : (List Int)))) = true then wpure true else (wbind (w__law_draw (9 : Int)) fun a8 => wbind (wpure (0 : Int)) fun b9 => (wpure (decide (a8 = b9))))) fun k => if k = true then
(wseq (wbind (wpure none) fun a Q E => List.length s2.2 < bigLine ∧ Q (.nx (s2.2 ++ [a]))) fun found11 =>
(wpure (.nx (s2.1, found11))))
else
(wseq (wset (w__law_pick eI spots4)) fun station12 =>
(wseq (wbind (wbind (wix s2.1 station12) fun a14 => wbind (wpure (1 : Int)) fun b15 => (wpure (a14 - b15))) fun a => wbind (wpure station12) fun z Q E => ∃ k, ixN (List.length s2.1) z = some k ∧ Q (.nx (List.set s2.1 k a))) fun free13 =>
(wseq (wset (wbind (w__law_pick eI [(0 : Int), (0 : Int), (1 : Int), (2 : Int)]) fun p17 => wpure [p17])) fun wide16 =>
(wseq (wbind (wbind (wpure a_net) fun a => wbind (wbind (wpure station12) fun a => wbind (wbind (w__law_draw (a_steps + (1 : Int))) fun a => wbind (wpure ()) fun b => wpure (a, b)) fun b => wpure (a, b)) fun b => wpure (a, b)) fun p => wbind (wbind (w__law_way 14 p.1 p.2.1 p.2.2.1 wide16) fun r => wpure (some r.1, r.2)) fun r Q E => List.length s2.2 < bigLine ∧ Q (.nx (s2.2 ++ [r.1], r.2))) fun found18 =>
(wpure (.nx (free13, found18.1)))))))) fun s10 =>
(wpure (.nx (s10.1, s10.2)))))) xs (p1.1, p1.2)) fun s19 =>
(wret (wpure s19.2)))))
theorem T__law_standing (a_net : ((List Int) × (List (Int × Int)))) (a_many : Int) (a_steps : Int) : ∀ t Q E, BAGP t → w__law_standing a_net a_many a_steps Q E → TRB BAGP (F__law_standing t [(eTp (cc (eT eI) (c1 (eT (eTp (cc eI (c1 eI))))))) a_net, eI a_many, eI a_steps]) (kV (eT (eO eW))) Q E := tB (V' := fun s => nomatch s) (
(js_seq (js_par2 (sa := fun (z : (List Int)) => .ls (List.map eI z)) (sb := fun (z : (List (Option Way))) => .ls (List.map (eO eW) z)) (V' := fun (p1 : (List Int) × (List (Option Way))) tb => [some (.ab tb), some (.im ((eTp (cc (eT eI) (c1 (eT (eTp (cc eI (c1 eI))))))) a_net)), some (.im (eI a_many)), some (.im (eI a_steps)), none, some (.ls (List.map eI p1.1)), some (.ls (List.map (eO eW) p1.2)), none, none, none]) slot_t slot_t (fun _ _ => rfl) (j_up (jp_bi1 (o_lisT (e := eI)) (jop_v (jp_bin (db := eI 0) (K := kV (eT eI) a_net.1) ⟨_, rfl, rfl⟩ (jop_v (jp_var (fun _ => rfl))) (jop_v jp_val))))) (j_up (jp_lst jks_nil))) fun p1 =>
(js_seq (js_for (VL := fun (s2 : (List Int) × (List (Option Way))) tb => [some (.ab tb), some (.im ((eTp (cc (eT eI) (c1 (eT (eTp (cc eI (c1 eI))))))) a_net)), some (.im (eI a_many)), some (.im (eI a_steps)), none, some (.ls (List.map eI s2.1)), some (.ls (List.map (eO eW) s2.2)), none, none, none]) (Vx := fun (x3 : Int) (s2 : (List Int) × (List (Option Way))) tb => [some (.ab tb), some (.im ((eTp (cc (eT eI) (c1 (eT (eTp (cc eI (c1 eI))))))) a_net)), some (.im (eI a_many)), some (.im (eI a_steps)), some (.im (eI x3)), some (.ls (List.map eI s2.1)), some (.ls (List.map (eO eW) s2.2)), none, none, none]) (p1.1, p1.2) (ji_rng1P (jks_consP (jkp_v (jp_var (fun _ => rfl))) jks_nil)) (fun _ => rfl) (fun _ _ _ => rfl) (fun x3 s2 =>
(js_seq (js_setT (V' := fun (spots4 : (List Int)) tb => [some (.ab tb), some (.im ((eTp (cc (eT eI) (c1 (eT (eTp (cc eI (c1 eI))))))) a_net)), some (.im (eI a_many)), some (.im (eI a_steps)), some (.im (eI x3)), some (.ls (List.map eI s2.1)), some (.ls (List.map (eO eW) s2.2)), some (.ls (List.map eI spots4)), none, none]) (fun _ _ => rfl) (j_lc (e2 := eI) (Vx := fun (x5 : Int) tb => [some (.ab tb), some (.im ((eTp (cc (eT eI) (c1 (eT (eTp (cc eI (c1 eI))))))) a_net)), some (.im (eI a_many)), some (.im (eI a_steps)), some (.im (eI x3)), some (.ls (List.map eI s2.1)), some (.ls (List.map (eO eW) s2.2)), none, some (.im (eI x5)), none]) (ji_rng1P (jks_consP (jkp_v (jp_bi1 (o_lenL (e := eI)) (jop_s (fun _ => rfl)))) jks_nil)) (fun _ _ => rfl) (fun x5 => (jt_e (j_bin ow_gt (jo_v (j_binP (ow_ixL (e := eI)) (jop_s (fun _ => rfl)) (jop_v (jp_var (fun _ => rfl))))) (jo_up (jop_v jp_val))))) (fun x5 => (jk_up (jkp_v (jp_var (fun _ => rfl))))) (fun _ _ => rfl) (fun _ _ => rfl))) fun spots4 =>
(js_frz (fun _ => rfl) (js_seq (js_if (V' := (fun (s10 : (List Int) × (List (Option Way))) tb => [some (.ab tb), some (.im ((eTp (cc (eT eI) (c1 (eT (eTp (cc eI (c1 eI))))))) a_net)), some (.im (eI a_many)), some (.im (eI a_steps)), some (.im (eI x3)), some (.ls (List.map eI s10.1)), some (.ls (List.map (eO eW) s10.2)), some (.im ((eL eI) spots4)), none, none])) (jt_orP (jtp_e (jp_bin (o_eq (qL qI)) (jop_v (jp_var (fun _ => rfl))) (jop_t (jp_lst jks_nil)))) (jt_e (j_bin (ow_eq qI) (jo_v (jc_BP (xok_B (fun _ => rfl)) (fun _ => rfl) (fun _ _ => rfl) (T__law_draw (9 : Int)) (jks_consP (jkp_v jp_val) jks_nil))) (jo_up (jop_v jp_val)))))
(js_seq (js_app (xs := s2.2) (V' := fun (found11 : List (Option Way)) tb => [some (.ab tb), some (.im ((eTp (cc (eT eI) (c1 (eT (eTp (cc eI (c1 eI))))))) a_net)), some (.im (eI a_many)), some (.im (eI a_steps)), some (.im (eI x3)), some (.ls (List.map eI s2.1)), some (.ls (List.map (eO eW) found11)), some (.im ((eL eI) spots4)), none, none]) (fun _ => rfl) (fun _ => rfl) (fun _ _ => rfl) (jk_up (jkp_v jp_val))) fun found11 =>
(js_nil (s2.1, found11) (fun _ => rfl)))
(js_seq (js_asg (V' := fun (station12 : Int) tb => [some (.ab tb), some (.im ((eTp (cc (eT eI) (c1 (eT (eTp (cc eI (c1 eI))))))) a_net)), some (.im (eI a_many)), some (.im (eI a_steps)), some (.im (eI x3)), some (.ls (List.map eI s2.1)), some (.ls (List.map (eO eW) s2.2)), some (.im ((eL eI) spots4)), some (.im (eI station12)), none]) (fun _ _ => rfl) (jk_v (jc_BP (xok_B (fun _ => rfl)) (fun _ => rfl) (fun _ _ => rfl) (T__law_pick eI spots4) (jks_consP (jkp_v (jp_var (fun _ => rfl))) jks_nil)))) fun station12 =>
(js_seq (js_putAt (xs := s2.1) (V' := fun (free13 : List Int) tb => [some (.ab tb), some (.im ((eTp (cc (eT eI) (c1 (eT (eTp (cc eI (c1 eI))))))) a_net)), some (.im (eI a_many)), some (.im (eI a_steps)), some (.im (eI x3)), some (.ls (List.map eI free13)), some (.ls (List.map (eO eW) s2.2)), some (.im ((eL eI) spots4)), some (.im (eI station12)), none]) (fun _ => rfl) (fun _ => rfl) (fun _ _ => rfl) (jk_v (j_bin ow_sub (jo_v (j_binP (ow_ixL (e := eI)) (jop_s (fun _ => rfl)) (jop_v (jp_var (fun _ => rfl))))) (jo_up (jop_v jp_val)))) (jo_up (jop_v (jp_var (fun _ => rfl))))) fun free13 =>
(js_seq (js_setT (V' := fun (wide16 : (List Int)) tb => [some (.ab tb), some (.im ((eTp (cc (eT eI) (c1 (eT (eTp (cc eI (c1 eI))))))) a_net)), some (.im (eI a_many)), some (.im (eI a_steps)), some (.im (eI x3)), some (.ls (List.map eI free13)), some (.ls (List.map (eO eW) s2.2)), some (.im ((eL eI) spots4)), some (.im (eI station12)), some (.ls (List.map eI wide16))]) (fun _ _ => rfl) (j_lst (jks_one (jk_v (jc_BP (xok_B (fun _ => rfl)) (fun _ => rfl) (fun _ _ => rfl) (T__law_pick eI [(0 : Int), (0 : Int), (1 : Int), (2 : Int)]) (jks_consP (jkp_t (jp_lst (jks_consP (jkp_v jp_val) (jks_consP (jkp_v jp_val) (jks_consP (jkp_v jp_val) (jks_consP (jkp_v jp_val) jks_nil)))))) jks_nil)))) (fun _ => rfl))) fun wide16 =>
(js_seq (js_appW (F := (F__law_way 14)) (wf := fun (p : ((List Int) × (List (Int × Int))) × Int × Int × Unit) => (wbind (w__law_way 14 p.1 p.2.1 p.2.2.1 wide16) fun r => wpure (some r.1, r.2))) (k := 9) (ws := wide16) (sv := fun vs => .ls (List.map eI vs)) (ys := s2.2) (e3 := (eO eW)) (es := fun p => [(eTp (cc (eT eI) (c1 (eT (eTp (cc eI (c1 eI))))))) p.1, eI p.2.1, eI p.2.2.1]) (V' := fun (found18 : List (Option Way) × List Int) tb => [some (.ab tb), some (.im ((eTp (cc (eT eI) (c1 (eT (eTp (cc eI (c1 eI))))))) a_net)), some (.im (eI a_many)), some (.im (eI a_steps)), some (.im (eI x3)), some (.ls (List.map eI free13)), some (.ls (List.map (eO eW) found18.1)), some (.im ((eL eI) spots4)), some (.im (eI station12)), some (.ls (List.map eI found18.2))]) (by decide) (.inl rfl) (fun _ => rfl) (fun _ => rfl) (fun _ => rfl) (fun _ _ => rfl) (fun _ => rfl) (fun _ _ => rfl) (fun _ _ => rfl) (by intro p t Q E hb h; exact trw_some (T__law_way 14 p.1 p.2.1 p.2.2.1 wide16) t Q E hb h) (jw_cons (jk_up (jkp_v (jp_var (fun _ => rfl)))) (jw_cons (jk_up (jkp_v (jp_var (fun _ => rfl)))) (jw_cons (jk_v (jc_BP (xok_B (fun _ => rfl)) (fun _ => rfl) (fun _ _ => rfl) (T__law_draw (a_steps + (1 : Int))) (jks_consP (jkp_v (jp_bin o_add (jop_v (jp_var (fun _ => rfl))) (jop_v jp_val))) jks_nil))) (jw_slot (s := .ls (List.map eI wide16)) (fun _ z => nomatch z) (fun _ => rfl)))))) fun found18 =>
(js_wipe (js_nil (free13, found18.1) (fun _ => rfl)))))))) fun s10 =>
(js_wipe (js_nil (s10.1, s10.2) (fun _ => rfl)))))))) fun s19 =>
(js_ret (rkB_v (fun _ => rfl)) (j_up (jp_bi1 (o_tupL (e := (eO eW))) (jop_s (fun _ => rfl))))))))
def w__law_at (a_standing : (List (Option Way))) (a_station : Int) : WP (List Int) := wdone (
(wret (wbind (wpure (enumL a_standing)) fun xs => wlc (fun x1 => (if (Option.isSome x1.2) = true then (wbind (wbind (wsome x1.2) fun a => wpure (Way.st a)) fun a2 => wbind (wpure a_station) fun b3 => (wpure (decide (a2 = b3)))) else wpure false)) (fun x1 => (wpure x1.1)) xs)))
theorem T__law_at (a_standing : (List (Option Way))) (a_station : Int) : ∀ Q E, w__law_at a_standing a_station Q E → TR (F__law_at [(eT (eO eW)) a_standing, eI a_station]) (kT eI) Q E := tA (V' := fun s => nomatch s) (
(js_ret (rkA_t) (j_lc (e2 := eI) (Vx := fun (x1 : (Int × (Option Way))) tb => [some (.im ((eT (eO eW)) a_standing)), some (.im (eI a_station)), some (.im (eI x1.1)), some (.im ((eO eW) x1.2))]) (ji_up (jip_enum (jip_t (e1 := (eO eW)) (jkp_v (jp_var (fun _ => rfl)))))) (fun _ _ => rfl) (fun x1 => (jt_andP (jtp_e (jp_bin (o_notNO isNon_W) (jop_v (jp_var (fun _ => rfl))) (jop_v jp_val))) (jt_e (j_bin (ow_eq qI) (jo_v (j_binR (db := eI 0) ow_wst (jo_v (j_someP (jp_var (fun _ => rfl)))) (jop_v jp_val))) (jo_up (jop_v (jp_var (fun _ => rfl)))))))) (fun x1 => (jk_up (jkp_v (jp_var (fun _ => rfl))))) (fun _ _ => rfl) (fun _ _ => rfl))))
def w__law_is_counted (a_net : ((List Int) × (List (Int × Int)))) (a_standing : (List (Option Way))) (a_is_named : Bool) : WP Bool := wdone (
(wseq (wbind (wrng1 (List.length a_net.1 : Int)) fun xs => wfor (fun x2 s1 =>
(wseq (wset (w__law_at a_standing x2)) fun mine3 =>
(wseq (wset (wbind (wbind (wbind (w_trains_at a_standing x2) fun z5 => wpure ((eT eI) z5)) fun a => wbind (wbind (w_free_tracks a_net a_standing x2) fun z6 => wpure (eI z6)) fun b => wpure (a, b)) fun p7 => wpure [p7.1, p7.2])) fun told4 =>
(wseq (if a_is_named = true then
(wseq (wset (wbind (wbind (w_trains_at a_standing x2) fun z10 => wpure ((eT eI) z10)) fun p11 => wpure [p11])) fun told9 =>
(wseq (wbind (wbind (w_free_tracks a_net a_standing x2) fun z13 => wpure (eI z13)) fun a Q E => List.length told9 < bigLine ∧ Q (.nx (told9 ++ [a]))) fun told12 =>
(wpure (.nx told12))))
else
(wpure (.nx told4))) fun s8 =>
(wseq (wbind (wbind (wrepr (eL eD) s8) fun a19 => wbind (wbind (wbind (wbind (wpure ((eT eI) mine3)) fun a => wbind (wbind (wbind (wix a_net.1 x2) fun a14 => wbind (wpure (List.length mine3 : Int)) fun b15 => (wpure (a14 - b15))) fun z16 => wpure (eI z16)) fun b => wpure (a, b)) fun p17 => wpure [p17.1, p17.2]) fun a18 => (wrepr (eL eD) a18)) fun b20 => (wpure (!decide (a19 = b20)))) fun k => if k = true then
(wret (wpure false))
else
(wpure (.nx ()))) fun s21 =>
(wpure (.nx ()))))))) xs ()) fun s22 =>
(wret (wpure true))))
theorem T__law_is_counted (a_net : ((List Int) × (List (Int × Int)))) (a_standing : (List (Option Way))) (a_is_named : Bool) : ∀ Q E, w__law_is_counted a_net a_standing a_is_named Q E → TR (F__law_is_counted [(eTp (cc (eT eI) (c1 (eT (eTp (cc eI (c1 eI))))))) a_net, (eT (eO eW)) a_standing, eB a_is_named]) (kV eB) Q E := tA (V' := fun s => nomatch s) (
(js_seq (js_for (VL := fun (s1 : Unit) tb => [some (.im ((eTp (cc (eT eI) (c1 (eT (eTp (cc eI (c1 eI))))))) a_net)), some (.im ((eT (eO eW)) a_standing)), some (.im (eB a_is_named)), none, none, none]) (Vx := fun (x2 : Int) (s1 : Unit) tb => [some (.im ((eTp (cc (eT eI) (c1 (eT (eTp (cc eI (c1 eI))))))) a_net)), some (.im ((eT (eO eW)) a_standing)), some (.im (eB a_is_named)), some (.im (eI x2)), none, none]) () (ji_rng1P (jks_consP (jkp_v (jp_bi1 (o_lenT (e := eI)) (jop_v (jp_bin (db := eI 0) (K := kV (eT eI) a_net.1) ⟨_, rfl, rfl⟩ (jop_v (jp_var (fun _ => rfl))) (jop_v jp_val))))) jks_nil)) (fun _ => rfl) (fun _ _ _ => rfl) (fun x2 s1 =>
(js_seq (js_asg (V' := fun (mine3 : (List Int)) tb => [some (.im ((eTp (cc (eT eI) (c1 (eT (eTp (cc eI (c1 eI))))))) a_net)), some (.im ((eT (eO eW)) a_standing)), some (.im (eB a_is_named)), some (.im (eI x2)), some (.im ((eL eI) mine3)), none]) (fun _ _ => rfl) (jk_t (jc_AP xok_t (T__law_at a_standing x2) (jks_consP (jkp_v (jp_var (fun _ => rfl))) (jks_consP (jkp_v (jp_var (fun _ => rfl))) jks_nil))))) fun mine3 =>
(js_seq (js_setT (V' := fun (told4 : (List D)) tb => [some (.im ((eTp (cc (eT eI) (c1 (eT (eTp (cc eI (c1 eI))))))) a_net)), some (.im ((eT (eO eW)) a_standing)), some (.im (eB a_is_named)), some (.im (eI x2)), some (.im ((eL eI) mine3)), some (.ls (List.map eD told4))]) (fun _ _ => rfl) (j_lst (jks_cons (jk_co (e1 := (eT eI)) (fun _ => rfl) (jk_v (jc_AP xok_t (T_trains_at a_standing x2) (jks_consP (jkp_v (jp_var (fun _ => rfl))) (jks_consP (jkp_v (jp_var (fun _ => rfl))) jks_nil))))) (jks_one (jk_co (e1 := eI) (fun _ => rfl) (jk_v (jc_AP xok_t (T_free_tracks a_net a_standing x2) (jks_consP (jkp_v (jp_var (fun _ => rfl))) (jks_consP (jkp_v (jp_var (fun _ => rfl))) (jks_consP (jkp_v (jp_var (fun _ => rfl))) jks_nil)))))))) (fun _ => rfl))) fun told4 =>
(js_seq (js_ifP (V' := (fun (s8 : (List D)) tb => [some (.im ((eTp (cc (eT eI) (c1 (eT (eTp (cc eI (c1 eI))))))) a_net)), some (.im ((eT (eO eW)) a_standing)), some (.im (eB a_is_named)), some (.im (eI x2)), some (.im ((eL eI) mine3)), some (.ls (List.map eD s8))])) (jtp_truth (jop_v (jp_var (fun _ => rfl))) tr_B)
(js_seq (js_setT (V' := fun (told9 : (List D)) tb => [some (.im ((eTp (cc (eT eI) (c1 (eT (eTp (cc eI (c1 eI))))))) a_net)), some (.im ((eT (eO eW)) a_standing)), some (.im (eB a_is_named)), some (.im (eI x2)), some (.im ((eL eI) mine3)), some (.ls (List.map eD told9))]) (fun _ _ => rfl) (j_lst (jks_one (jk_co (e1 := (eT eI)) (fun _ => rfl) (jk_v (jc_KP xok_t (jks_consP (jkp_v (jp_var (fun _ => rfl))) (jks_consP (jkp_v (jp_var (fun _ => rfl))) jks_nil)) (T_trains_at a_standing x2))))) (fun _ => rfl))) fun told9 =>
(js_seq (js_app (xs := told9) (V' := fun (told12 : List D) tb => [some (.im ((eTp (cc (eT eI) (c1 (eT (eTp (cc eI (c1 eI))))))) a_net)), some (.im ((eT (eO eW)) a_standing)), some (.im (eB a_is_named)), some (.im (eI x2)), some (.im ((eL eI) mine3)), some (.ls (List.map eD told12))]) (fun _ => rfl) (fun _ => rfl) (fun _ _ => rfl) (jk_co (e1 := eI) (fun _ => rfl) (jk_v (jc_KP xok_t (jks_consP (jkp_v (jp_var (fun _ => rfl))) (jks_consP (jkp_v (jp_var (fun _ => rfl))) (jks_consP (jkp_v (jp_var (fun _ => rfl))) jks_nil))) (T_free_tracks a_net a_standing x2))))) fun told12 =>
(js_nil told12 (fun _ => rfl))))
(js_nil told4 (fun _ => rfl))) fun s8 =>
(js_seq (js_if (V' := (fun (s21 : Unit) tb => [some (.im ((eTp (cc (eT eI) (c1 (eT (eTp (cc eI (c1 eI))))))) a_net)), some (.im ((eT (eO eW)) a_standing)), some (.im (eB a_is_named)), some (.im (eI x2)), some (.im ((eL eI) mine3)), some (.ls (List.map eD s8))])) (jt_e (j_bin ow_neS (jo_v (j_bi1P (ow_repr (e := (eL eD))) (jop_s (fun _ => rfl)))) (jo_v (j_bi1 (ow_repr (e := (eL eD))) (jo_t (j_lst (jks_cons (jk_up (jkp_v (jp_bi1 (o_tupL (e := eI)) (jop_v (jp_var (fun _ => rfl)))))) (jks_one (jk_co (e1 := eI) (fun _ => rfl) (jk_v (j_bin ow_sub (jo_v (j_binP (ow_ixT (e := eI)) (jop_v (jp_bin (db := eI 0) (K := kV (eT eI) a_net.1) ⟨_, rfl, rfl⟩ (jop_v (jp_var (fun _ => rfl))) (jop_v jp_val))) (jop_v (jp_var (fun _ => rfl))))) (jo_up (jop_v (jp_bi1 (o_lenL (e := eI)) (jop_v (jp_var (fun _ => rfl))))))))))) (fun _ => rfl)))))))
(js_ret (rkA_v) (j_up jp_val))
(js_nil () (fun _ => rfl))) fun s21 =>
(js_wipe (js_nil () (fun _ => rfl))))))))) fun s22 =>
(js_ret (rkA_v) (j_up jp_val))))
def w__law_are_wishes_told (a_standing : (List (Option Way))) (a_is_named : Bool) : WP Bool := wdone (
(wseq (wset (wpure (0 : Int))) fun total1 =>
(wseq (wfor (fun x3 s2 =>
(wseq (wset (if (Option.isNone x3.2) = true then (wpure ([] : (List Int))) else (wbind (wbind (wbind (wsome x3.2) fun a => wpure (Way.fu a)) fun xs => wlc (fun x5 => (wpure true)) (fun x5 => (wpure (Way.st x5))) xs) fun a6 => (wpure a6)))) fun due4 =>
(wseq (wset (if a_is_named = true then (w_wants a_standing x3.1) else (w_wants a_standing x3.1))) fun told7 =>
(wseq (wbind (wbind (wbind (wrepr (eT eI) told7) fun a8 => wbind (wrepr (eT eI) due4) fun b9 => (wpure (!decide (a8 = b9)))) fun k => if k = true then wpure true else (wbind (wbind (w_wants a_standing x3.1) fun a10 => (wrepr (eT eI) a10)) fun a11 => wbind (wrepr (eT eI) due4) fun b12 => (wpure (!decide (a11 = b12))))) fun k => if k = true then
(wret (wpure false))
else
(wpure (.nx ()))) fun s13 =>
(wseq (wset (wbind (wpure s2) fun a17 => wbind (if (Option.isNone x3.2) = true then (wpure (0 : Int)) else (wbind (wpure (1 : Int)) fun a15 => wbind (wbind (wsome x3.2) fun p => w__law_far 16 p) fun b16 => (wpure (a15 + b16)))) fun b18 => (wpure (a17 + b18)))) fun total14 =>
(wpure (.nx total14))))))) (enumL a_standing) total1) fun s19 =>
(wseq (wset (wbind (wbind (wbind (w_steps_left a_standing) fun z21 => wpure (eI z21)) fun a => wbind (wbind (w_all_gone a_standing) fun z22 => wpure (eB z22)) fun b => wpure (a, b)) fun p23 => wpure [p23.1, p23.2])) fun told20 =>
(wseq (if a_is_named = true then
(wseq (wset (wbind (wbind (wbind (w_steps_left a_standing) fun z26 => wpure (eI z26)) fun a => wbind (wbind (w_all_gone a_standing) fun z27 => wpure (eB z27)) fun b => wpure (a, b)) fun p28 => wpure [p28.1, p28.2])) fun told25 =>
(wpure (.nx ((eL eD) told25))))
else
(wpure (.nx ((eL eD) told20)))) fun s24 =>
(wret (wbind (wrepr eD s24) fun a35 => wbind (wbind (wbind (wbind (wpure (eI s19)) fun a => wbind (wbind (wbind (wbind (wpure a_standing) fun xs => wlc (fun x29 => (wpure (Option.isSome x29))) (fun x29 => (wpure x29)) xs) fun a30 => wbind (wpure ([] : (List (Option Way)))) fun b31 => (weq (eL (eO eW)) (eL (eO eW)) false a30 b31)) fun z32 => wpure (eB z32)) fun b => wpure (a, b)) fun p33 => wpure [p33.1, p33.2]) fun a34 => (wrepr (eL eD) a34)) fun b36 => (wpure (decide (a35 = b36))))))))))
theorem T__law_are_wishes_told (a_standing : (List (Option Way))) (a_is_named : Bool) : ∀ Q E, w__law_are_wishes_told a_standing a_is_named Q E → TR (F__law_are_wishes_told [(eT (eO eW)) a_standing, eB a_is_named]) (kV eB) Q E := tA (V' := fun s => nomatch s) (
(js_seq (js_asg (V' := fun (total1 : Int) tb => [some (.im ((eT (eO eW)) a_standing)), some (.im (eB a_is_named)), some (.im (eI total1)), none, none, none, none, none]) (fun _ _ => rfl) (jk_up (jkp_v jp_val))) fun total1 =>
(js_seq (js_forP (VL := fun (s2 : Int) tb => [some (.im ((eT (eO eW)) a_standing)), some (.im (eB a_is_named)), some (.im (eI s2)), none, none, none, none, none]) (Vx := fun (x3 : (Int × (Option Way))) (s2 : Int) tb => [some (.im ((eT (eO eW)) a_standing)), some (.im (eB a_is_named)), some (.im (eI s2)), none, some (.im (eI x3.1)), some (.im ((eO eW) x3.2)), none, none]) total1 (jip_enum (jip_t (e1 := (eO eW)) (jkp_v (jp_var (fun _ => rfl))))) (fun _ => rfl) (fun _ _ _ => rfl) (fun x3 s2 =>
(js_seq (js_asg (V' := fun (due4 : (List Int)) tb => [some (.im ((eT (eO eW)) a_standing)), some (.im (eB a_is_named)), some (.im (eI s2)), none, some (.im (eI x3.1)), some (.im ((eO eW) x3.2)), some (.im ((eT eI) due4)), none]) (fun _ _ => rfl) (jk_v (j_ifP (K := (kV (eT eI))) (jtp_e (jp_bin (o_isNO isNon_W) (jop_v (jp_var (fun _ => rfl))) (jop_v jp_val))) (j_up (jp_tup jks_nil)) (j_bi1 (ow_tupL (e := eI)) (jo_t (j_lc (e2 := eI) (Vx := fun (x5 : Way) tb => [some (.im ((eT (eO eW)) a_standing)), some (.im (eB a_is_named)), some (.im (eI s2)), none, some (.im (eI x3.1)), some (.im ((eO eW) x3.2)), none, some (.im (eW x5))]) (ji_t (e1 := eW) (jk_v (j_binR (db := eI 1) ow_wfu (jo_v (j_someP (jp_var (fun _ => rfl)))) (jop_v jp_val)))) (fun _ _ => rfl) (fun x5 => (jt_up (jp_ret rfl))) (fun x5 => (jk_up (jkp_v (jp_bin o_wst (jop_v (jp_var (fun _ => rfl))) (jop_v jp_val))))) (fun _ _ => rfl) (fun _ _ => rfl))))))) fun due4 =>
(js_seq (js_asg (V' := fun (told7 : (List Int)) tb => [some (.im ((eT (eO eW)) a_standing)), some (.im (eB a_is_named)), some (.im (eI s2)), some (.im ((eT eI) told7)), some (.im (eI x3.1)), some (.im ((eO eW) x3.2)), some (.im ((eT eI) due4)), none]) (fun _ _ => rfl) (jk_v (j_ifP (K := (kV (eT eI))) (jtp_truth (jop_v (jp_var (fun _ => rfl))) tr_B) (jc_KP xok_t (jks_consP (jkp_v (jp_var (fun _ => rfl))) (jks_consP (jkp_v (jp_var (fun _ => rfl))) jks_nil)) (T_wants a_standing x3.1)) (jc_AP xok_t (T_wants a_standing x3.1) (jks_consP (jkp_v (jp_var (fun _ => rfl))) (jks_consP (jkp_v (jp_var (fun _ => rfl))) jks_nil)))))) fun told7 =>
(js_seq (js_if (V' := (fun (s13 : Unit) tb => [some (.im ((eT (eO eW)) a_standing)), some (.im (eB a_is_named)), some (.im (eI s2)), some (.im ((eT eI) told7)), some (.im (eI x3.1)), some (.im ((eO eW) x3.2)), some (.im ((eT eI) due4)), none])) (jt_or (jt_e (j_bin ow_neS (jo_v (j_bi1P (ow_repr (e := (eT eI))) (jop_v (jp_var (fun _ => rfl))))) (jo_v (j_bi1P (ow_repr (e := (eT eI))) (jop_v (jp_var (fun _ => rfl))))))) (jt_e (j_bin ow_neS (jo_v (j_bi1 (ow_repr (e := (eT eI))) (jo_v (jc_AP xok_t (T_wants a_standing x3.1) (jks_consP (jkp_v (jp_var (fun _ => rfl))) (jks_consP (jkp_v (jp_var (fun _ => rfl))) jks_nil)))))) (jo_v (j_bi1P (ow_repr (e := (eT eI))) (jop_v (jp_var (fun _ => rfl))))))))
(js_ret (rkA_v) (j_up jp_val))
(js_nil () (fun _ => rfl))) fun s13 =>
(js_seq (js_asg (V' := fun (total14 : Int) tb => [some (.im ((eT (eO eW)) a_standing)), some (.im (eB a_is_named)), some (.im (eI total14)), some (.im ((eT eI) told7)), some (.im (eI x3.1)), some (.im ((eO eW) x3.2)), some (.im ((eT eI) due4)), none]) (fun _ _ => rfl) (jk_v (j_bin ow_add (jo_up (jop_v (jp_var (fun _ => rfl)))) (jo_v (j_ifP (K := (kV eI)) (jtp_e (jp_bin (o_isNO isNon_W) (jop_v (jp_var (fun _ => rfl))) (jop_v jp_val))) (j_up jp_val) (j_bin ow_add (jo_up (jop_v jp_val)) (jo_v (jc_A xok_t (fun p => T__law_far 16 p) (jks_one (jk_v (j_someP (jp_var (fun _ => rfl))))))))))))) fun total14 =>
(js_wipe (js_nil total14 (fun _ => rfl))))))))) fun s19 =>
(js_seq (js_asg (V' := fun (told20 : (List D)) tb => [some (.im ((eT (eO eW)) a_standing)), some (.im (eB a_is_named)), some (.im (eI s19)), some (.im ((eL eD) told20)), none, none, none, none]) (fun _ _ => rfl) (jk_t (j_lst (jks_cons (jk_co (e1 := eI) (fun _ => rfl) (jk_v (jc_AP xok_t (T_steps_left a_standing) (jks_consP (jkp_v (jp_var (fun _ => rfl))) jks_nil)))) (jks_one (jk_co (e1 := eB) (fun _ => rfl) (jk_v (jc_AP xok_t (T_all_gone a_standing) (jks_consP (jkp_v (jp_var (fun _ => rfl))) jks_nil)))))) (fun _ => rfl)))) fun told20 =>
(js_seq (js_ifP (V' := (fun (s24 : D) tb => [some (.im ((eT (eO eW)) a_standing)), some (.im (eB a_is_named)), some (.im (eI s19)), some (.im (eD s24)), none, none, none, none])) (jtp_truth (jop_v (jp_var (fun _ => rfl))) tr_B)
(js_seq (js_asg (V' := fun (told25 : (List D)) tb => [some (.im ((eT (eO eW)) a_standing)), some (.im (eB a_is_named)), some (.im (eI s19)), some (.im ((eL eD) told25)), none, none, none, none]) (fun _ _ => rfl) (jk_t (j_lst (jks_cons (jk_co (e1 := eI) (fun _ => rfl) (jk_v (jc_KP xok_t (jks_consP (jkp_v (jp_var (fun _ => rfl))) jks_nil) (T_steps_left a_standing)))) (jks_one (jk_co (e1 := eB) (fun _ => rfl) (jk_v (jc_KP xok_t (jks_consP (jkp_v (jp_var (fun _ => rfl))) jks_nil) (T_all_gone a_standing)))))) (fun _ => rfl)))) fun told25 =>
(js_nil ((eL eD) told25) (fun _ => rfl)))
(js_nil ((eL eD) told20) (fun _ => rfl))) fun s24 =>
(js_ret (rkA_v) (j_bin ow_eqS (jo_v (j_bi1P (ow_repr (e := eD)) (jop_v (jp_var (fun _ => rfl))))) (jo_v (j_bi1 (ow_repr (e := (eL eD))) (jo_t (j_lst (jks_cons (jk_up (jkp_v (jp_var (fun _ => rfl)))) (jks_one (jk_co (e1 := eB) (fun _ => rfl) (jk_v (j_bin (ow_eqD (e := (eL (eO eW))) (e' := (eL (eO eW))) (neg := false)) (jo_t (j_lc (e2 := (eO eW)) (Vx := fun (x29 : (Option Way)) tb => [some (.im ((eT (eO eW)) a_standing)), some (.im (eB a_is_named)), some (.im (eI s19)), some (.im (eD s24)), none, some (.im ((eO eW) x29)), none, none]) (ji_up (jip_t (e1 := (eO eW)) (jkp_v (jp_var (fun _ => rfl))))) (fun _ _ => rfl) (fun x29 => (jt_up (jtp_e (jp_bin (o_notNO isNon_W) (jop_v (jp_var (fun _ => rfl))) (jop_v jp_val))))) (fun x29 => (jk_up (jkp_v (jp_var (fun _ => rfl))))) (fun _ _ => rfl) (fun _ _ => rfl))) (jo_up (jop_t (jp_lst jks_nil)))))))) (fun _ => rfl))))))))))))
def w__law_are_left (a_standing : (List (Option Way))) (a_is_named : Bool) : WP Bool := wdone (
(wseq (wset (wbind (wpure (List.length a_standing : Int)) fun n => wrgl 0 n)) fun every1 =>
(wseq (wset (wbind (wbind (wpure ([] : (List Int))) fun a => wbind (wbind (wpure every1) fun a => wbind (wbind (wbind (wbind (w__law_mixed eI every1) fun a3 => wbind (wpure ()) fun b4 => wbind (w__law_draw ((List.length every1 : Int) + (1 : Int))) fun c5 => wpure (cutL a3 none (some c5))) fun a6 => (wsort eI a6)) fun a7 => (wpure a7)) fun b => wpure (a, b)) fun b => wpure (a, b)) fun p8 => wpure [p8.1, p8.2.1, p8.2.2])) fun lots2 =>
(wseq (wfor (fun x10 s9 =>
(wseq (wset (wbind (wbind (wbind (wpure (enumL a_standing)) fun xs => wlc (fun x12 => (wpure true)) (fun x12 => (wpure (if (decide (x12.1 ∈ x10)) = true then none else x12.2))) xs) fun a13 => (wpure a13)) fun a14 => (wrepr (eT (eO eW)) a14))) fun due11 =>
(wseq (wset (if a_is_named = true then (w_without a_standing x10) else (w_without a_standing x10))) fun told15 =>
(wseq (wbind (wbind (wbind (wrepr (eT (eO eW)) told15) fun a16 => wbind (wpure due11) fun b17 => (wpure (!decide (a16 = b17)))) fun k => if k = true then wpure true else (wbind (wbind (w_without a_standing x10) fun a18 => (wrepr (eT (eO eW)) a18)) fun a19 => wbind (wpure due11) fun b20 => (wpure (!decide (a19 = b20))))) fun k => if k = true then
(wret (wpure false))
else
(wpure (.nx ()))) fun s21 =>
(wpure (.nx ())))))) lots2 ()) fun s22 =>
(wret (wpure true))))))
theorem T__law_are_left (a_standing : (List (Option Way))) (a_is_named : Bool) : ∀ t Q E, BAGP t → w__law_are_left a_standing a_is_named Q E → TRB BAGP (F__law_are_left t [(eT (eO eW)) a_standing, eB a_is_named]) (kV eB) Q E := tB (V' := fun s => nomatch s) (
(js_seq (js_asg (V' := fun (every1 : (List Int)) tb => [some (.ab tb), some (.im ((eT (eO eW)) a_standing)), some (.im (eB a_is_named)), some (.im ((eL eI) every1)), none, none, none, none, none, none]) (fun _ _ => rfl) (jk_t (j_lrg1 (jk_up (jkp_v (jp_bi1 (o_lenT (e := (eO eW))) (jop_v (jp_var (fun _ => rfl))))))))) fun every1 =>
(js_seq (js_asg (V' := fun (lots2 : (List (List Int))) tb => [some (.ab tb), some (.im ((eT (eO eW)) a_standing)), some (.im (eB a_is_named)), some (.im ((eL eI) every1)), some (.im ((eL (eT eI)) lots2)), none, none, none, none, none]) (fun _ _ => rfl) (jk_t (j_lst (jks_cons (jk_up (jkp_v (jp_tup jks_nil))) (jks_cons (jk_up (jkp_v (jp_bi1 (o_tupL (e := eI)) (jop_v (jp_var (fun _ => rfl)))))) (jks_one (jk_v (j_bi1 (ow_tupL (e := eI)) (jo_t (j_bi1 (ow_sortL (e := eI)) (jo_t (j_sl (κl := (fun _ => none)) (κh := (fun z => some z)) (ow_slL (e := eI)) (jo_t (jc_BP (xok_B (fun _ => rfl)) (fun _ => rfl) (fun _ _ => rfl) (T__law_mixed eI every1) (jks_consP (jkp_v (jp_var (fun _ => rfl))) jks_nil))) (jup (b := ()) jp_none) (j_part (jc_BP (xok_B (fun _ => rfl)) (fun _ => rfl) (fun _ _ => rfl) (T__law_draw ((List.length every1 : Int) + (1 : Int))) (jks_consP (jkp_v (jp_bin o_add (jop_v (jp_bi1 (o_lenL (e := eI)) (jop_v (jp_var (fun _ => rfl))))) (jop_v jp_val))) jks_nil)))))))))))) (fun _ => rfl)))) fun lots2 =>
(js_seq (js_forP (VL := fun (s9 : Unit) tb => [some (.ab tb), some (.im ((eT (eO eW)) a_standing)), some (.im (eB a_is_named)), some (.im ((eL eI) every1)), some (.im ((eL (eT eI)) lots2)), none, none, none, none, none]) (Vx := fun (x10 : (List Int)) (s9 : Unit) tb => [some (.ab tb), some (.im ((eT (eO eW)) a_standing)), some (.im (eB a_is_named)), some (.im ((eL eI) every1)), some (.im ((eL (eT eI)) lots2)), some (.im ((eT eI) x10)), none, none, none, none]) () (jip_l (e1 := (eT eI)) (jkp_v (jp_var (fun _ => rfl)))) (fun _ => rfl) (fun _ _ _ => rfl) (fun x10 s9 =>
(js_seq (js_asg (V' := fun (due11 : Str) tb => [some (.ab tb), some (.im ((eT (eO eW)) a_standing)), some (.im (eB a_is_named)), some (.im ((eL eI) every1)), some (.im ((eL (eT eI)) lots2)), some (.im ((eT eI) x10)), some (.im (eS due11)), none, none, none]) (fun _ _ => rfl) (jk_v (j_bi1 (ow_repr (e := (eT (eO eW)))) (jo_v (j_bi1 (ow_tupL (e := (eO eW))) (jo_t (j_lc (e2 := (eO eW)) (Vx := fun (x12 : (Int × (Option Way))) tb => [some (.ab tb), some (.im ((eT (eO eW)) a_standing)), some (.im (eB a_is_named)), some (.im ((eL eI) every1)), some (.im ((eL (eT eI)) lots2)), some (.im ((eT eI) x10)), none, none, some (.im (eI x12.1)), some (.im ((eO eW) x12.2))]) (ji_up (jip_enum (jip_t (e1 := (eO eW)) (jkp_v (jp_var (fun _ => rfl)))))) (fun _ _ => rfl) (fun x12 => (jt_up (jp_ret rfl))) (fun x12 => (jk_up (jkp_v (jp_if (K := (kV (eO eW))) (jtp_e (jp_bin (o_inT qI) (jop_v (jp_var (fun _ => rfl))) (jop_v (jp_var (fun _ => rfl))))) jp_val (jp_var (fun _ => rfl)))))) (fun _ _ => rfl) (fun _ _ => rfl)))))))) fun due11 =>
(js_seq (js_asg (V' := fun (told15 : (List (Option Way))) tb => [some (.ab tb), some (.im ((eT (eO eW)) a_standing)), some (.im (eB a_is_named)), some (.im ((eL eI) every1)), some (.im ((eL (eT eI)) lots2)), some (.im ((eT eI) x10)), some (.im (eS due11)), some (.im ((eT (eO eW)) told15)), none, none]) (fun _ _ => rfl) (jk_v (j_ifP (K := (kV (eT (eO eW)))) (jtp_truth (jop_v (jp_var (fun _ => rfl))) tr_B) (jc_KP (xok_B (fun _ => rfl)) (jks_consP (jkp_v (jp_var (fun _ => rfl))) (jks_consP (jkp_v (jp_var (fun _ => rfl))) jks_nil)) (T_without a_standing x10)) (jc_AP (xok_B (fun _ => rfl)) (T_without a_standing x10) (jks_consP (jkp_v (jp_var (fun _ => rfl))) (jks_consP (jkp_v (jp_var (fun _ => rfl))) jks_nil)))))) fun told15 =>
(js_seq (js_if (V' := (fun (s21 : Unit) tb => [some (.ab tb), some (.im ((eT (eO eW)) a_standing)), some (.im (eB a_is_named)), some (.im ((eL eI) every1)), some (.im ((eL (eT eI)) lots2)), some (.im ((eT eI) x10)), some (.im (eS due11)), some (.im ((eT (eO eW)) told15)), none, none])) (jt_or (jt_e (j_bin ow_neS (jo_v (j_bi1P (ow_repr (e := (eT (eO eW)))) (jop_v (jp_var (fun _ => rfl))))) (jo_up (jop_v (jp_var (fun _ => rfl)))))) (jt_e (j_bin ow_neS (jo_v (j_bi1 (ow_repr (e := (eT (eO eW)))) (jo_v (jc_AP (xok_B (fun _ => rfl)) (T_without a_standing x10) (jks_consP (jkp_v (jp_var (fun _ => rfl))) (jks_consP (jkp_v (jp_var (fun _ => rfl))) jks_nil)))))) (jo_up (jop_v (jp_var (fun _ => rfl)))))))
(js_ret (rkB_v (fun _ => rfl)) (j_up jp_val))
(js_nil () (fun _ => rfl))) fun s21 =>
(js_wipe (js_nil () (fun _ => rfl)))))))) fun s22 =>
(js_ret (rkB_v (fun _ => rfl)) (j_up jp_val))))))
def w_law : WP (Ctl Empty Bool) :=
(wseq (wbind (wrng1 (7 : Int)) fun xs => wfor (fun x2 s1 =>
(wseq (wset (wbind (wix [(1 : Int), (2 : Int), (3 : Int), (4 : Int), (5 : Int), (7 : Int), (10 : Int)] x2) fun p => w__law_net p)) fun net3 =>
(wseq (wset (wbind (wbind (wpure net3) fun a => wbind (wbind (w__law_pick eI [(0 : Int), (1 : Int), (3 : Int), (5 : Int), (8 : Int), (12 : Int)]) fun a => wbind (wpure (5 : Int)) fun b => wpure (a, b)) fun b => wpure (a, b)) fun p => w__law_standing p.1 p.2.1 p.2.2)) fun standing4 =>
(wseq (wbind (if (decide (x2 = (2 : Int))) = true then (wbind (w__law_draw (3 : Int)) fun a5 => wbind (wpure (0 : Int)) fun b6 => (wpure (decide (a5 = b6)))) else wpure false) fun k => if k = true then
(wseq (wset (wmulTT [none] (List.length standing4 : Int))) fun standing8 =>
(wpure (.nx standing8)))
else
(wpure (.nx standing4))) fun s7 =>
(wseq (wset (wrepr (eL eD) [((eTp (cc (eT eI) (c1 (eT (eTp (cc eI (c1 eI))))))) net3), ((eT (eO eW)) s7)])) fun known9 =>
(wseq (wbind (wbind (wbind (wbind (w__law_is_counted net3 s7 (decide (x2 = (1 : Int)))) fun a => wpure a) fun k => wpure (!k)) fun k => if k = true then wpure true else (wbind (wbind (w__law_are_wishes_told s7 (decide (x2 = (3 : Int)))) fun a => wpure a) fun k => wpure (!k))) fun k => if k = true then
(wret (wpure false))
else
(wpure (.nx ()))) fun s10 =>
(wseq (wbind (wbind (wbind (wbind (w__law_are_left s7 (decide (x2 = (4 : Int)))) fun a => wpure a) fun k => wpure (!k)) fun k => if k = true then wpure true else (wbind (wrepr (eL eD) [((eTp (cc (eT eI) (c1 (eT (eTp (cc eI (c1 eI))))))) net3), ((eT (eO eW)) s7)]) fun a11 => wbind (wpure known9) fun b12 => (wpure (!decide (a11 = b12))))) fun k => if k = true then
(wret (wpure false))
else
(wpure (.nx ()))) fun s13 =>
(wpure (.nx ()))))))))) xs ()) fun s14 =>
(wret (wpure true)))
def g_law_rest : PM Out :=
(sSeq (sFor (eRng1 (bnd (kept (ret (.val (.int 7)))) fun d => bnd (ret []) fun ds => ret (d :: ds))) (tgName 2) B_law_0)
(sRet (ret (.val (.bool true)))))
theorem law_der (ns : List Int) : JS BAGP (fun _ => True) (fun r o _ => o = .val (.bool r)) g_law_rest w_law (fun tb => [some (.ab (.sc ns)), some (.ab tb), none, none, none, none]) (fun s => nomatch s) :=
(js_seq (js_for (VL := fun (s1 : Unit) tb => [some (.ab (.sc ns)), some (.ab tb), none, none, none, none]) (Vx := fun (x2 : Int) (s1 : Unit) tb => [some (.ab (.sc ns)), some (.ab tb), some (.im (eI x2)), none, none, none]) () (ji_rng1P (jks_consP (jkp_v jp_val) jks_nil)) (fun _ => rfl) (fun _ _ _ => rfl) (fun x2 s1 =>
(js_seq (js_asg (V' := fun (net3 : ((List Int) × (List (Int × Int)))) tb => [some (.ab (.sc ns)), some (.ab tb), some (.im (eI x2)), some (.im ((eTp (cc (eT eI) (c1 (eT (eTp (cc eI (c1 eI))))))) net3)), none, none]) (fun _ _ => rfl) (jk_v (jc_B xok_t (fun _ => rfl) (fun _ => rfl) (fun _ _ => rfl) (fun p => T__law_net p) (jks_one (jk_v (j_binP (ow_ixL (e := eI)) (jop_t (jp_lst (jks_consP (jkp_v jp_val) (jks_consP (jkp_v jp_val) (jks_consP (jkp_v jp_val) (jks_consP (jkp_v jp_val) (jks_consP (jkp_v jp_val) (jks_consP (jkp_v jp_val) (jks_consP (jkp_v jp_val) jks_nil))))))))) (jop_v (jp_var (fun _ => rfl))))))))) fun net3 =>
(js_seq (js_asg (V' := fun (standing4 : (List (Option Way))) tb => [some (.ab (.sc ns)), some (.ab tb), some (.im (eI x2)), some (.im ((eTp (cc (eT eI) (c1 (eT (eTp (cc eI (c1 eI))))))) net3)), some (.im ((eT (eO eW)) standing4)), none]) (fun _ _ => rfl) (jk_v (jc_B xok_t (fun _ => rfl) (fun _ => rfl) (fun _ _ => rfl) (fun p => T__law_standing p.1 p.2.1 p.2.2) (jks_cons (jk_up (jkp_v (jp_var (fun _ => rfl)))) (jks_cons (jk_v (jc_BP xok_t (fun _ => rfl) (fun _ _ => rfl) (T__law_pick eI [(0 : Int), (1 : Int), (3 : Int), (5 : Int), (8 : Int), (12 : Int)]) (jks_consP (jkp_t (jp_lst (jks_consP (jkp_v jp_val) (jks_consP (jkp_v jp_val) (jks_consP (jkp_v jp_val) (jks_consP (jkp_v jp_val) (jks_consP (jkp_v jp_val) (jks_consP (jkp_v jp_val) jks_nil)))))))) jks_nil))) (jks_one (jk_up (jkp_v jp_val)))))))) fun standing4 =>
(js_seq (js_if (V' := (fun (s7 : (List (Option Way))) tb => [some (.ab (.sc ns)), some (.ab tb), some (.im (eI x2)), some (.im ((eTp (cc (eT eI) (c1 (eT (eTp (cc eI (c1 eI))))))) net3)), some (.im ((eT (eO eW)) s7)), none])) (jt_andP (jtp_e (jp_bin (o_eq qI) (jop_v (jp_var (fun _ => rfl))) (jop_v jp_val))) (jt_e (j_bin (ow_eq qI) (jo_v (jc_BP xok_t (fun _ => rfl) (fun _ _ => rfl) (T__law_draw (3 : Int)) (jks_consP (jkp_v jp_val) jks_nil))) (jo_up (jop_v jp_val)))))
(js_seq (js_asg (V' := fun (standing8 : (List (Option Way))) tb => [some (.ab (.sc ns)), some (.ab tb), some (.im (eI x2)), some (.im ((eTp (cc (eT eI) (c1 (eT (eTp (cc eI (c1 eI))))))) net3)), some (.im ((eT (eO eW)) standing8)), none]) (fun _ _ => rfl) (jk_v (j_binP (ow_mulTT (e := (eO eW))) (jop_v (jp_tup (jks_consP (jkp_v jp_val) jks_nil))) (jop_v (jp_bi1 (o_lenT (e := (eO eW))) (jop_v (jp_var (fun _ => rfl)))))))) fun standing8 =>
(js_nil standing8 (fun _ => rfl)))
(js_nil standing4 (fun _ => rfl))) fun s7 =>
(js_seq (js_asg (V' := fun (known9 : Str) tb => [some (.ab (.sc ns)), some (.ab tb), some (.im (eI x2)), some (.im ((eTp (cc (eT eI) (c1 (eT (eTp (cc eI (c1 eI))))))) net3)), some (.im ((eT (eO eW)) s7)), some (.im (eS known9))]) (fun _ _ => rfl) (jk_v (j_bi1P (ow_repr (e := (eL eD))) (jop_t (jp_lst (jks_consP (jkp_v (jp_var (fun _ => rfl))) (jks_consP (jkp_v (jp_var (fun _ => rfl))) jks_nil))))))) fun known9 =>
(js_seq (js_if (V' := (fun (s10 : Unit) tb => [some (.ab (.sc ns)), some (.ab tb), some (.im (eI x2)), some (.im ((eTp (cc (eT eI) (c1 (eT (eTp (cc eI (c1 eI))))))) net3)), some (.im ((eT (eO eW)) s7)), some (.im (eS known9))])) (jt_or (jt_not (jt_truth (jo_v (jc_AP xok_t (T__law_is_counted net3 s7 (decide (x2 = (1 : Int)))) (jks_consP (jkp_v (jp_var (fun _ => rfl))) (jks_consP (jkp_v (jp_var (fun _ => rfl))) (jks_consP (jkp_v (jp_bin (o_eq qI) (jop_v (jp_var (fun _ => rfl))) (jop_v jp_val))) jks_nil))))) twB)) (jt_not (jt_truth (jo_v (jc_AP xok_t (T__law_are_wishes_told s7 (decide (x2 = (3 : Int)))) (jks_consP (jkp_v (jp_var (fun _ => rfl))) (jks_consP (jkp_v (jp_bin (o_eq qI) (jop_v (jp_var (fun _ => rfl))) (jop_v jp_val))) jks_nil)))) twB)))
(js_ret (Kr := kV eB) (fun _ _ _ h _ => h) (j_up jp_val))
(js_nil () (fun _ => rfl))) fun s10 =>
(js_seq (js_if (V' := (fun (s13 : Unit) tb => [some (.ab (.sc ns)), some (.ab tb), some (.im (eI x2)), some (.im ((eTp (cc (eT eI) (c1 (eT (eTp (cc eI (c1 eI))))))) net3)), some (.im ((eT (eO eW)) s7)), some (.im (eS known9))])) (jt_or (jt_not (jt_truth (jo_v (jc_BP xok_t (fun _ => rfl) (fun _ _ => rfl) (T__law_are_left s7 (decide (x2 = (4 : Int)))) (jks_consP (jkp_v (jp_var (fun _ => rfl))) (jks_consP (jkp_v (jp_bin (o_eq qI) (jop_v (jp_var (fun _ => rfl))) (jop_v jp_val))) jks_nil)))) twB)) (jt_e (j_bin ow_neS (jo_v (j_bi1P (ow_repr (e := (eL eD))) (jop_t (jp_lst (jks_consP (jkp_v (jp_var (fun _ => rfl))) (jks_consP (jkp_v (jp_var (fun _ => rfl))) jks_nil)))))) (jo_up (jop_v (jp_var (fun _ => rfl)))))))
(js_ret (Kr := kV eB) (fun _ _ _ h _ => h) (j_up jp_val))
(js_nil () (fun _ => rfl))) fun s13 =>
(js_wipe (js_nil () (fun _ => rfl))))))))))) fun s14 =>
(js_ret (Kr := kV eB) (fun _ _ _ h _ => h) (j_up jp_val)))
end Pu.L

namespace Pu.L
open PySem PySem.Spec PyProof.Rows L2 Pu
/-! ### the family's draws -/
theorem k_draw {many : Int} {Q : Int → Prop} {E : EP} (h : many < 1073741824) (q : ∀ i, 0 ≤ i → (1 ≤ many → i < many) → Q i) : w__law_draw many Q E := ⟨h, q⟩
theorem k_pick {α : Type} {e : α → D} {xs : List α} {Q : α → Prop} {E : EP} (h0 : xs ≠ []) (hl : xs.length ≤ 1000000) (q : ∀ x ∈ xs, Q x) : w__law_pick e xs Q E := by
  have hp := List.length_pos_iff.mpr h0
  unfold w__law_pick
  simp only [wdone, wbind, wpure, wseq, wset, wret, wasrt, wsome, wraise, wfail, if_true, if_false, reduceIte, Bool.false_eq_true]
  exact k_draw (by omega) fun i i0 i1 => k_ix i0 (i1 (by omega)) fun a _ hm => q a hm
theorem ly_int {i : Int} : Ly 0 (eI i) := ⟨by simp [PyData.canLay0], by simp [PyData.depth]⟩
theorem k_mixed {α : Type} {e : α → D} {k : Nat} {xs : List α} {Q : List α → Prop} {E : EP} (h : ∀ x ∈ xs, Ly k (e x)) (hk : k ≤ 63) (hl : xs.length ≤ 1000) (q : ∀ ys, ys.Perm xs → Q ys) : w__law_mixed e xs Q E := by
  unfold w__law_mixed
  simp only [wdone, wbind, wpure, wseq, wset, wret, wasrt, wsome, wraise, wfail, if_true, if_false, reduceIte, Bool.false_eq_true]
  refine wwhile_go (fun s => (s.2 ++ s.1).Perm xs) (fun s => s.1.length) (fun s => !s.1.isEmpty) (fun s hi R r => ?_) (fun s Q2 hi ht q2 => ?_) (fun s hi ht => ?_) _ _ (List.Perm.refl _) (by show xs.length < 1000000; omega)
  · exact k_nilL (fun x hx => h x (hi.mem_iff.mp (List.mem_append_right _ hx))) hk r
  · obtain ⟨l, f⟩ := s
    have hlen := hi.length_eq
    rw [List.length_append] at hlen
    simp only at hlen ht ⊢
    have hp : 0 < l.length := by
      cases l with
      | nil => simp at ht
      | cons a l => simp
    refine k_draw (E := E) (by omega) fun i i0 i1 => ?_
    have i1 := i1 (by omega)
    obtain ⟨j, rfl⟩ := Int.eq_ofNat_of_zero_le i0
    have hj : j < l.length := by omega
    have gj := List.getElem?_eq_getElem hj
    refine ⟨j, l[j], popIx_ok2 hj (by omega), gj, bgt (by omega), q2 _ ?_ ?_⟩
    · have p1 := erase_perm2 l j _ gj
      show ((f ++ [l[j]]) ++ l.eraseIdx j).Perm xs
      rw [List.append_assoc]
      exact (List.Perm.append_left f p1).trans hi
    · show (l.eraseIdx j).length < l.length
      rw [List.length_eraseIdx]
      simp [hj]
      omega
  · obtain ⟨l, f⟩ := s
    simp only at ht ⊢
    have : l = [] := by
      cases l with
      | nil => rfl
      | cons a l => simp at ht
    subst this
    refine q f ?_
    simpa using hi
/-! nets -/
abbrev Net := List Int × List (Int × Int)
def ltQ (p q : Int × Int) : Prop := p.1 < q.1 ∨ (p.1 = q.1 ∧ p.2 < q.2)
structure NetR (m : Int) (net : Net) : Prop where
  l1 : (net.1.length : Int) = m
  l2 : 1 ≤ m
  l3 : m ≤ 10
  tr : ∀ x ∈ net.1, 1 ≤ x ∧ x ≤ 4
  ln : ∀ p ∈ net.2, 0 ≤ p.1 ∧ p.1 < m ∧ 0 ≤ p.2 ∧ p.2 < m ∧ p.1 ≠ p.2
  so : net.2.Pairwise ltQ
  le : net.2.length < 64
theorem dedP_mem {p : Int × Int} : ∀ {ps : List (Int × Int)}, p ∈ dedP ps → p ∈ ps
  | [], h => by cases h
  | q :: ps, h => by
    unfold dedP at h
    split at h
    · exact List.mem_cons_of_mem _ (dedP_mem h)
    · rcases List.mem_cons.mp h with rfl | h
      · exact List.mem_cons_self ..
      · exact List.mem_cons_of_mem _ (dedP_mem h)
theorem dedP_nd : ∀ ps : List (Int × Int), (dedP ps).Nodup
  | [] => by simp [dedP]
  | q :: ps => by
    unfold dedP
    split
    · exact dedP_nd ps
    · rename_i h
      exact List.nodup_cons.mpr ⟨fun z => h (dedP_mem z), dedP_nd ps⟩
theorem dedP_len : ∀ ps : List (Int × Int), (dedP ps).length ≤ ps.length
  | [] => by simp [dedP]
  | q :: ps => by
    have := dedP_len ps
    unfold dedP
    split <;> simp <;> omega
theorem pw_and {α : Type} {R S : α → α → Prop} : ∀ {xs : List α}, xs.Pairwise R → xs.Pairwise S → xs.Pairwise fun a b => R a b ∧ S a b
  | [], _, _ => .nil
  | x :: xs, .cons h1 t1, .cons h2 t2 => .cons (fun y hy => ⟨h1 y hy, h2 y hy⟩) (pw_and t1 t2)
theorem sortP_lt {ps : List (Int × Int)} (h : ps.Nodup) : (sortP ps).Pairwise ltQ := by
  have h1 := sortP_le ps
  have h2 : (sortP ps).Nodup := (sortP_perm ps).nodup_iff.mpr h
  refine (pw_and h1 h2).imp ?_
  rintro ⟨a, b⟩ ⟨c, d⟩ ⟨q1, q2⟩
  simp only [leP, decide_eq_true_eq] at q1
  simp only [ltQ]
  rcases q1 with q1 | ⟨q1, q3⟩
  · exact .inl q1
  · refine .inr ⟨q1, ?_⟩
    have : b ≠ d := fun z => q2 (by rw [q1, z])
    omega
def lnOk (m : Int) (p : Int × Int) : Prop := 0 ≤ p.1 ∧ p.1 < m ∧ 0 ≤ p.2 ∧ p.2 < m ∧ p.1 ≠ p.2
theorem k_net {m : Int} {Q : Net → Prop} {E : EP} (h1 : 1 ≤ m) (h2 : m ≤ 10) (q : ∀ net, NetR m net → Q net) : w__law_net m Q E := by
  unfold w__law_net
  simp only [wdone, wbind, wpure, wseq, wset, wret, wasrt, wsome, wraise, wfail, if_true, if_false, reduceIte, Bool.false_eq_true]
  refine k_rng1 (by omega) (by omega) ?_
  refine wlc_all (fun _ y => 1 ≤ y ∧ y ≤ 4) (bgl (by rw [len_rngL]; omega)) (fun x _ R r => k_pick (by simp) (by simp) fun y hy => r y ?_) fun tr htr => ?_
  · simp only [List.mem_cons, List.not_mem_nil, or_false] at hy
    omega
  have hlen : (tr.length : Int) = m := by
    have := htr.len
    rw [len_rngL] at this
    omega
  have htk := htr.all (R := fun y => 1 ≤ y ∧ y ≤ 4) fun _ _ _ h => h
  refine k_draw (by decide) fun kind k0 k1 => ?_
  refine k_rng2 (by decide) (by omega) ?_
  refine wfor_go (fun xs s => (∀ p ∈ s, lnOk m p) ∧ (∀ x ∈ xs, 1 ≤ x ∧ x < m) ∧ s.length + 2 * xs.length ≤ 20) _ _ ⟨fun _ h => (nomatch h), fun x hx => ?_, ?_⟩ (fun x xs s Q2 hi q2 => ?_) fun s hi => ?_
  · have := mem_rngL.mp hx
    omega
  · rw [len_rngL]
    simp
    omega
  · obtain ⟨h3, h4, h5⟩ := hi
    rw [List.length_cons] at h5
    have hx := h4 x (List.mem_cons_self ..)
    have fin : ∀ j, 0 ≤ j → j < x → wcat s [(j, x), (x, j)] (fun a => Q2 (.nx a)) E := fun j j0 j1 => by
      refine k_cat (by simp; omega) (q2 _ ⟨fun p hp => ?_, fun y hy => h4 y (List.mem_cons_of_mem _ hy), by simp; omega⟩)
      rcases List.mem_append.mp hp with hp | hp
      · exact h3 p hp
      · simp only [List.mem_cons, List.not_mem_nil, or_false] at hp
        unfold lnOk
        rcases hp with rfl | rfl <;> simp only <;> omega
    split
    · exact fin _ (by omega) (by omega)
    · split
      · exact fin _ (by omega) (by omega)
      · exact k_draw (E := E) (by omega) fun j j0 j1 => fin _ j0 (j1 (by omega))
  obtain ⟨h3, -, h5⟩ := hi
  dsimp only
  refine w_nx (fun s => (∀ p ∈ s, lnOk m p) ∧ s.length ≤ 22) (fun Q2 q2 => ?_) fun s hs => ?_
  · split
    · rename_i hc
      simp only [Bool.and_eq_true, decide_eq_true_eq] at hc
      simp only [wdone, wbind, wpure, wseq, wset, wret, wasrt, wsome, wraise, wfail, if_true, if_false, reduceIte, Bool.false_eq_true]
      refine k_cat (by simp at h5 ⊢; omega) (q2 _ ⟨fun p hp => ?_, by simp at h5 ⊢; omega⟩)
      rcases List.mem_append.mp hp with hp | hp
      · exact h3 p hp
      · simp only [List.mem_cons, List.not_mem_nil, or_false] at hp
        unfold lnOk
        rcases hp with rfl | rfl <;> simp only <;> omega
    · exact q2 _ ⟨h3, by simp at h5; omega⟩
  obtain ⟨h6, h7⟩ := hs
  dsimp only
  refine w_post (fun n => 0 ≤ n ∧ n ≤ 10 ∧ (n ≠ 0 → 1 < m)) (fun Q2 q2 => ?_) fun n hn => ?_
  · split
    · rename_i hc
      have hc := of_decide_eq_true hc
      exact k_draw (E := E) (by omega) fun i i0 i1 => q2 _ ⟨i0, by have := i1 (by omega); omega, fun _ => hc⟩
    · exact q2 _ ⟨Int.le_refl _, by omega, fun h => absurd rfl h⟩
  obtain ⟨n0, n1, n2⟩ := hn
  refine k_rng1 (by omega) (by omega) ?_
  refine wfor_go (fun xs s => (∀ p ∈ s, lnOk m p) ∧ s.length + xs.length ≤ 32 ∧ (xs ≠ [] → 1 < m)) _ _ ⟨h6, by rw [len_rngL]; omega, fun h => n2 fun z => h (by subst z; rfl)⟩ (fun x xs s Q2 hi q2 => ?_) fun s hi => ?_
  · obtain ⟨h8, h9, h10⟩ := hi
    rw [List.length_cons] at h9
    have h10 := h10 (by simp)
    simp only [wdone, wbind, wpure, wseq, wset, wret, wasrt, wsome, wraise, wfail, if_true, if_false, reduceIte, Bool.false_eq_true]
    refine k_draw (E := E) (by omega) fun i i0 i1 => ?_
    have i1 := i1 (by omega)
    refine k_draw (E := E) (by omega) fun d d0 d1 => ?_
    have d1 := d1 (by omega)
    refine ⟨by omega, bgt (by omega), q2 _ ⟨fun p hp => ?_, by rw [List.length_append, List.length_singleton]; omega, fun _ => h10⟩⟩
    rcases List.mem_append.mp hp with hp | hp
    · exact h8 p hp
    · simp only [List.mem_cons, List.not_mem_nil, or_false] at hp
      subst hp
      have m0 := Int.emod_nonneg (i + 1 + d) (show m ≠ 0 by omega)
      have m1 := Int.emod_lt_of_pos (i + 1 + d) (show 0 < m by omega)
      refine ⟨i0, i1, m0, m1, fun z => ?_⟩
      have z : i = (i + 1 + d) % m := z
      by_cases c : i + 1 + d < m
      · rw [Int.emod_eq_of_lt (by omega) c] at z
        omega
      · rw [← Int.sub_emod_right, Int.emod_eq_of_lt (by omega) (by omega)] at z
        omega
  obtain ⟨h8, h9, -⟩ := hi
  simp only [List.length_nil, Nat.add_zero] at h9
  dsimp only
  refine w_nx (fun s => (∀ p ∈ s, lnOk m p) ∧ s.length ≤ 32) (fun Q2 q2 => ?_) fun s hs => ?_
  · split
    · simp only [wdone, wbind, wpure, wseq, wset, wret, wasrt, wsome, wraise, wfail, if_true, if_false, reduceIte, Bool.false_eq_true]
      refine wlc_any (lnOk m) (bgl (by omega)) (fun x hx R R0 r r0 => k_draw (by decide) fun i _ _ => ?_) fun ys hl hy => q2 _ ⟨hy, by omega⟩
      simp only [wdone, wbind, wpure, wseq, wset, wret, wasrt, wsome, wraise, wfail, if_true, if_false, reduceIte, Bool.false_eq_true]
      cases decide (0 < i) with
      | true => exact r x (h8 x hx)
      | false => exact r0
    · exact q2 _ ⟨h8, h9⟩
  obtain ⟨h11, h12⟩ := hs
  have h13 := dedP_len s
  refine ⟨?_, q _ ⟨hlen, h1, h2, htk, fun p hp => h11 p (dedP_mem ((sortP_perm _).mem_iff.mp hp)), sortP_lt (dedP_nd s), by show (sortP (dedP s)).length < 64; rw [sortP_len]; omega⟩⟩
  rw [Bool.and_eq_true]
  refine ⟨List.all_eq_true.mpr fun p hp => ?_, decide_eq_true (by omega)⟩
  obtain ⟨a1, a2, a3, a4, a5⟩ := h11 p hp
  unfold inB
  rw [decide_eq_true a1, decide_eq_true (show p.1 < 64 by omega), decide_eq_true a3, decide_eq_true (show p.2 < 64 by omega)]
  rfl

end Pu.L

namespace Pu.L
open PySem PySem.Spec PyProof.Rows L2 Pu
/-! ### ways that are drawn -/
def outL (net : Net) (s : Int) : List Int := (net.2.filter fun p => decide (p.1 = s)).map fun p => p.2
theorem k_nexts {net : Net} {s : Int} {Q : List Int → Prop} {E : EP} (h : net.2.length < 64) (q : Q (outL net s)) : w__law_nexts net s Q E := by
  unfold w__law_nexts
  simp only [wdone, wbind, wpure, wseq, wset, wret, wasrt, wsome, wraise, wfail, if_true, if_false, reduceIte, Bool.false_eq_true]
  exact wlc_pp (bgl (by omega)) q
theorem outL_mem {net : Net} {s x : Int} : x ∈ outL net s ↔ (s, x) ∈ net.2 := by
  unfold outL
  simp only [List.mem_map, List.mem_filter, decide_eq_true_eq]
  constructor
  · rintro ⟨⟨a, b⟩, ⟨h1, h2⟩, rfl⟩
    simp only at h2
    subst h2
    exact h1
  · exact fun h => ⟨_, ⟨h, rfl⟩, rfl⟩
theorem outL_len {net : Net} {s : Int} : (outL net s).length ≤ net.2.length := by
  unfold outL
  rw [List.length_map]
  exact List.length_filter_le ..
theorem outL_lt {net : Net} {s : Int} (h : net.2.Pairwise ltQ) : (outL net s).Pairwise (· < ·) := by
  unfold outL
  rw [List.pairwise_map, List.pairwise_filter]
  refine h.imp ?_
  rintro ⟨a, b⟩ ⟨c, d⟩ h1 h2 h3
  simp only [decide_eq_true_eq] at h2 h3
  simp only [ltQ] at h1
  omega
mutual
def lv : Way → Nat
  | .mk _ f => if f = [] then 1 else lvs f
def lvs : List Way → Nat
  | [] => 0
  | w :: ws => lv w + lvs ws
end
mutual
def cnt : Way → Nat
  | .mk _ f => 1 + cnts f
def cnts : List Way → Nat
  | [] => 0
  | w :: ws => cnt w + cnts ws
end
theorem lvs_app : ∀ (xs : List Way) (w : Way), lvs (xs ++ [w]) = lvs xs + lv w
  | [], w => by simp [lvs]
  | x :: xs, w => by simp only [List.cons_append, lvs, lvs_app xs w]; omega
theorem cnts_app : ∀ (xs : List Way) (w : Way), cnts (xs ++ [w]) = cnts xs + cnt w
  | [], w => by simp [cnts]
  | x :: xs, w => by simp only [List.cons_append, cnts, cnts_app xs w]; omega
theorem lv_pos : ∀ w : Way, 1 ≤ lv w
  | .mk s [] => by simp [lv]
  | .mk s (w :: ws) => by
    have := lv_pos w
    simp only [lv, lvs]
    simp
    omega
theorem lvs_len : ∀ ws : List Way, ws.length ≤ lvs ws
  | [] => by simp [lvs]
  | w :: ws => by
    have := lv_pos w
    have := lvs_len ws
    simp only [lvs, List.length_cons]
    omega
def WayIn (net : Net) (m : Int) : Nat → Way → Prop
  | 0, _ => False
  | k + 1, w => 0 ≤ w.st ∧ w.st < m ∧ w.fu.length ≤ 3 ∧ (w.fu.map Way.st).Pairwise (· < ·) ∧ ∀ b ∈ w.fu, (w.st, b.st) ∈ net.2 ∧ WayIn net m k b
theorem WayIn.mono {net : Net} {m : Int} : ∀ {k k' : Nat} {w : Way}, WayIn net m k w → k ≤ k' → WayIn net m k' w
  | 0, _, _, h, _ => h.elim
  | k + 1, 0, _, _, l => absurd l (by omega)
  | k + 1, k' + 1, w, ⟨h1, h2, h3, h4, h5⟩, l => ⟨h1, h2, h3, h4, fun b hb => ⟨(h5 b hb).1, (h5 b hb).2.mono (by omega)⟩⟩
structure WayR (net : Net) (m : Int) (s : Int) (k : Nat) (w0 : Int) (w : Way) (w1 : Int) : Prop where
  wi : WayIn net m (k + 1) w
  st : w.st = s
  lw : w1 + lv w = w0 + 1
  nn : 0 ≤ w1
  ct : cnt w ≤ 1 + k * lv w
theorem take_nd {xs : List Int} {n : Nat} (h : xs.Nodup) : (xs.take n).Nodup := h.sublist (List.take_sublist ..)
theorem srtI_lt {xs : List Int} (h : xs.Nodup) : (srtI xs).Pairwise (· < ·) := by
  have h2 : (srtI xs).Nodup := (srtI_perm xs).nodup_iff.mpr h
  refine (pw_and (srtI_le xs) h2).imp ?_
  rintro a b ⟨h1, h2⟩
  have : a ≠ b := h2
  omega
theorem k_way {net : Net} {m : Int} (hn : NetR m net) : ∀ (n : Nat) (s : Int) (k : Nat) (w0 : Int) {Q : Way × List Int → Prop} {E : EP}, 0 ≤ s → s < m → 0 ≤ w0 → k < n → k ≤ 1000 → w0 ≤ 1000 → (∀ w w1, WayR net m s k w0 w w1 → Q (w, [w1])) → w__law_way n net s (k : Int) [w0] Q E
  | 0, _, _, _, _, _, _, _, _, h, _, _, _ => absurd h (Nat.not_lt_zero _)
  | n + 1, s, k, w0, Q, E, s0, s1, w0n, hk, hk2, hw2, q => by
    unfold w__law_way
    simp only [wnoE, wdone, wbind, wpure, wseq, wset, wret, wasrt, wsome, wraise, wfail, if_true, if_false, reduceIte, Bool.false_eq_true]
    have hle := hn.le
    refine k_nexts hle ?_
    have hl := outL_len (net := net) (s := s)
    have hg : ∀ x ∈ outL net s, 0 ≤ x ∧ x < m := fun x hx => by
      have := hn.ln _ (outL_mem.mp hx)
      exact ⟨this.2.2.1, this.2.2.2.1⟩
    have hnd : (outL net s).Nodup := (outL_lt hn.so).imp fun h => by omega
    by_cases c : ((k : Int) = 0 ∨ outL net s = [])
    · have c' : (decide ((k : Int) = 0) || decide (outL net s = [])) = true := by
        rcases c with c | c
        · simp [c]
        · simp [c]
      simp only [c', if_true]
      refine q _ _ ⟨⟨s0, s1, by simp [Way.fu], by simp [Way.fu], fun b hb => by simp [Way.fu] at hb⟩, rfl, by simp [lv], w0n, by simp [cnt, cnts]⟩
    · have c1 : ¬ (k : Int) = 0 := fun z => c (.inl z)
      have c2 : outL net s ≠ [] := fun z => c (.inr z)
      have c' : (decide ((k : Int) = 0) || decide (outL net s = [])) = false := by rw [decide_eq_false c1, decide_eq_false c2]; rfl
      simp only [c', wdone, wbind, wpure, wseq, wset, wret, wasrt, wsome, wraise, wfail, if_true, if_false, reduceIte, Bool.false_eq_true]
      have hp := List.length_pos_iff.mpr c2
      generalize hG : outL net s = G at *
      have i0 : ∀ {Q : Int → Prop} {E : EP}, Q w0 → wix [w0] 0 Q E := fun q => k_ixv (Int.le_refl _) rfl q
      refine i0 ?_
      refine w_post (fun k : Bool => k = true → 0 < w0 ∧ 1 < (G.length : Int)) (fun Q2 q2 => ?_) fun k2 hk3 => ?_
      · by_cases d1 : 0 < w0
        · simp only [decide_eq_true d1, if_true]
          by_cases d2 : 1 < (G.length : Int)
          · simp only [decide_eq_true d2, if_true]
            exact k_draw (E := E) (by decide) fun i _ _ => q2 _ fun _ => ⟨d1, d2⟩
          · simp only [decide_eq_false d2, Bool.false_eq_true, if_false]
            exact q2 _ fun h => (nomatch h)
        · simp only [decide_eq_false d1, Bool.false_eq_true, if_false]
          exact q2 _ fun h => (nomatch h)
      refine w_nx (fun (t : List Int × Int) => ∃ w1 : Int, t.1 = [w1] ∧ 0 ≤ w1 ∧ w1 + t.2 = w0 + 1 ∧ 1 ≤ t.2 ∧ t.2 ≤ 3 ∧ t.2 ≤ G.length) (fun Q2 q2 => ?_) fun t ht => ?_
      · cases k2 with
        | false =>
          simp only [Bool.false_eq_true, if_false]
          exact q2 _ ⟨w0, rfl, w0n, rfl, Int.le_refl _, by show (1 : Int) ≤ 3; omega, by show (1 : Int) ≤ G.length; omega⟩
        | true =>
          simp only [wdone, wbind, wpure, wseq, wset, wret, wasrt, wsome, wraise, wfail, if_true, if_false, reduceIte, Bool.false_eq_true]
          obtain ⟨d1, d2⟩ := hk3 rfl
          refine i0 (E := fun _ => False) ?_
          refine k_draw (E := fun _ => False) (by decide) fun j j0 j1 => ?_
          have j1 := j1 (by decide)
          refine i0 (E := fun _ => False) ?_
          refine ⟨0, rfl, q2 _ ⟨w0 - mn3 (G.length : Int) (w0 + 1) (2 + j) + 1, rfl, ?_⟩⟩
          have hm : mn3 (G.length : Int) (w0 + 1) (2 + j) ≤ G.length ∧ mn3 (G.length : Int) (w0 + 1) (2 + j) ≤ w0 + 1 ∧ mn3 (G.length : Int) (w0 + 1) (2 + j) ≤ 2 + j ∧ 2 ≤ mn3 (G.length : Int) (w0 + 1) (2 + j) := by
            unfold mn3
            split <;> split <;> omega
          show 0 ≤ w0 - mn3 (G.length : Int) (w0 + 1) (2 + j) + 1 ∧ w0 - mn3 (G.length : Int) (w0 + 1) (2 + j) + 1 + mn3 (G.length : Int) (w0 + 1) (2 + j) = w0 + 1 ∧ 1 ≤ mn3 (G.length : Int) (w0 + 1) (2 + j) ∧ mn3 (G.length : Int) (w0 + 1) (2 + j) ≤ 3 ∧ mn3 (G.length : Int) (w0 + 1) (2 + j) ≤ G.length
          omega
      obtain ⟨t1, many⟩ := t
      obtain ⟨w1, rfl, w1n, wm, m1, m3, mG⟩ := ht
      simp only at wm m1 m3 mG ⊢
      refine k_mixed (k := 0) (fun _ _ => ly_int) (by decide) (by omega) fun mx pm => ?_
      rw [cutL_take (by omega)]
      have hml := pm.length_eq
      have htl : (mx.take many.toNat).length = many.toNat := by rw [List.length_take]; omega
      refine k_sortI (by omega) ?_
      have hsl := (srtI_perm (mx.take many.toNat)).length_eq
      have hmem : ∀ x ∈ srtI (mx.take many.toNat), x ∈ G := fun x hx => pm.mem_iff.mp (List.mem_of_mem_take ((srtI_perm _).mem_iff.mp hx))
      have hslt := srtI_lt (take_nd (n := many.toNat) (pm.nodup_iff.mpr hnd))
      generalize hL : srtI (mx.take many.toNat) = L at *
      obtain ⟨k, rfl⟩ : ∃ k', k = k' + 1 := ⟨k - 1, by omega⟩
      refine wfor_go (fun xs t => ∃ w2 : Int, t.1 = [w2] ∧ 0 ≤ w2 ∧ w2 + lvs t.2 = w1 + t.2.length ∧ t.2.map Way.st ++ xs = L ∧ (∀ b ∈ t.2, WayIn net m (k + 1) b) ∧ cnts t.2 ≤ t.2.length + k * lvs t.2) _ _ ⟨w1, rfl, w1n, rfl, rfl, fun _ h => (nomatch h), by simp [cnts]⟩ (fun x xs t Q2 hi q2 => ?_) fun t hi => ?_
      · obtain ⟨ws, fu⟩ := t
        obtain ⟨w2, rfl, w2n, h1, h2, h3, h4⟩ := hi
        simp only at h1 h2 h3 h4 ⊢
        have hxL : x ∈ L := by rw [← h2]; simp
        have hx := hg x (hmem x hxL)
        have hfl : fu.length ≤ 3 := by
          have := congrArg List.length h2
          rw [List.length_append, List.length_map, List.length_cons] at this
          omega
        have hlf := lvs_len fu
        simp only [wdone, wbind, wpure, wseq, wset, wret, wasrt, wsome, wraise, wfail, if_true, if_false, reduceIte, Bool.false_eq_true]
        have go : ∀ less : Int, 0 ≤ less → w__law_way n net x (if ((↑(k + 1) : Int) - 1 - less) > 0 then ((↑(k + 1) : Int) - 1 - less) else 0) [w2] (fun r => fu.length < bigLine ∧ Q2 (.nx (r.2, fu ++ [r.1]))) (fun _ => False) := fun less l0 => by
          have e : (if ((↑(k + 1) : Int) - 1 - less) > 0 then ((↑(k + 1) : Int) - 1 - less) else 0) = (((k : Int) - less).toNat : Int) := by
            split <;> omega
          rw [e]
          refine k_way hn n x _ w2 hx.1 hx.2 w2n (by omega) (by omega) (by omega) fun w w3 hw => ⟨bgt (by omega), q2 _ ⟨w3, rfl, hw.nn, ?_, ?_, fun b hb => ?_, ?_⟩⟩
          · have := hw.lw
            simp only [lvs_app, List.length_append, List.length_singleton]
            omega
          · show (fu ++ [w]).map Way.st ++ xs = L
            rw [List.map_append, List.map_singleton, hw.st, List.append_assoc]
            exact h2
          · rcases List.mem_append.mp hb with hb | hb
            · exact h3 b hb
            · rw [List.mem_singleton.mp hb]
              exact hw.wi.mono (by omega)
          · have h5 := hw.ct
            have h6 : (((k : Int) - less).toNat) * lv w ≤ k * lv w := Nat.mul_le_mul_right _ (by omega)
            show cnts (fu ++ [w]) ≤ (fu ++ [w]).length + k * lvs (fu ++ [w])
            rw [cnts_app, lvs_app, List.length_append, List.length_singleton, Nat.mul_add]
            omega
        refine k_draw (E := fun _ => False) (by decide) fun i _ _ => ?_
        split
        · exact k_draw (E := fun _ => False) (by decide) fun less l0 _ => go less l0
        · exact go 0 (Int.le_refl _)
      · obtain ⟨ws, fu⟩ := t
        obtain ⟨w2, rfl, w2n, h1, h2, h3, h4⟩ := hi
        simp only at h1 h2 h3 h4 ⊢
        rw [List.append_nil] at h2
        have hfl := congrArg List.length h2
        rw [List.length_map] at hfl
        have hfn : fu ≠ [] := fun z => by subst z; simp at hfl; omega
        have hlf := lvs_len fu
        have e1 : lv (.mk s fu) = lvs fu := by simp [lv, hfn]
        refine q _ _ ⟨⟨s0, s1, by simp only [Way.fu]; omega, by simp only [Way.fu]; rw [h2]; exact hslt, fun b hb => ⟨?_, h3 b hb⟩⟩, rfl, by rw [e1]; omega, w2n, ?_⟩
        · have hb : b ∈ fu := hb
          have : b.st ∈ L := by rw [← h2]; exact List.mem_map_of_mem hb
          have := hmem _ this
          rw [← hG] at this
          exact outL_mem.mp this
        · rw [e1]
          simp only [cnt]
          rw [Nat.add_mul]
          omega

end Pu.L

namespace Pu.L
open PySem PySem.Spec PyProof.Rows L2 Pu
/-! ### ways as data -/
mutual
theorem bulk_w : ∀ w : Way, (eW w).bulk + 1 = 3 * cnt w
  | .mk s f => by
    have := bulk_ws f
    simp only [eW, PyData.bulk, PyData.bulkAll, cnt]
    omega
theorem bulk_ws : ∀ ws : List Way, PyData.bulkAll (eWs ws) = 3 * cnts ws
  | [] => by simp [eWs, PyData.bulkAll, cnts]
  | w :: ws => by
    have h1 := bulk_w w
    have h2 := bulk_ws ws
    simp only [eWs, PyData.bulkAll, cnts]
    omega
end
mutual
theorem lay_w : ∀ w : Way, (eW w).canLay0 = true
  | .mk s f => by simp only [eW, PyData.canLay0, PyData.canLayAll0, lay_ws f, Bool.and_self]
theorem lay_ws : ∀ ws : List Way, PyData.canLayAll0 (eWs ws) = true
  | [] => by simp [eWs, PyData.canLayAll0]
  | w :: ws => by simp only [eWs, PyData.canLayAll0, lay_w w, lay_ws ws, Bool.and_self]
end
theorem dp_le {k : Nat} : ∀ ds : List D, (∀ d ∈ ds, d.depth ≤ k) → PyData.depthAll ds ≤ k
  | [], _ => by simp [PyData.depthAll]
  | d :: ds, h => by
    simp only [PyData.depthAll]
    exact Nat.max_le.mpr ⟨h d (List.mem_cons_self ..), dp_le ds fun x hx => h x (List.mem_cons_of_mem _ hx)⟩
theorem dp_w {net : Net} {m : Int} : ∀ {k : Nat} {w : Way}, WayIn net m k w → (eW w).depth ≤ 2 * k
  | 0, _, h => h.elim
  | k + 1, .mk s f, ⟨_, _, _, _, h⟩ => by
    have h2 : PyData.depthAll (eWs f) ≤ 2 * k := by
      rw [eWs_map]
      refine dp_le _ fun d hd => ?_
      obtain ⟨b, hb, rfl⟩ := List.mem_map.mp hd
      exact dp_w (h b hb).2
    simp only [eW, PyData.depth, PyData.depthAll]
    omega
theorem ly_w {net : Net} {m : Int} {k : Nat} {w : Way} (h : WayIn net m k w) : Ly (2 * k) (eW w) := ⟨lay_w w, dp_w h⟩
theorem cnts_mem {b : Way} : ∀ {f : List Way}, b ∈ f → cnt b ≤ cnts f
  | [], h => by cases h
  | a :: f, h => by
    simp only [cnts]
    rcases List.mem_cons.mp h with rfl | h
    · omega
    · have := cnts_mem h
      omega
theorem sm_w {net : Net} {m : Int} (hm : m ≤ 10) : ∀ {k : Nat} {w : Way}, WayIn net m k w → Sm (3 * cnt w) (2 * k) (eW w)
  | 0, _, h => h.elim
  | k + 1, .mk s f, ⟨s0, s1, h3, h4, h⟩ => by
    have hs : Sm 0 0 (.int s) := sm_int (Nat.lt_of_lt_of_le (show s.natAbs < 100 by simp only [Way.st] at s0 s1; omega) (by decide))
    have h2 : ∀ d ∈ eWs f, Sm (3 * cnts f) (2 * k) d := fun d hd => by
      rw [eWs_map] at hd
      obtain ⟨b, hb, rfl⟩ := List.mem_map.mp hd
      have h6 := sm_w hm (h b hb).2
      have h7 : cnt b ≤ cnts f := cnts_mem hb
      exact h6.mono (by omega) (Nat.le_refl _)
    obtain ⟨i1, i2, i3, i4⟩ := sm_all h2
    refine ⟨?_, ?_, ?_, ?_⟩
    · have := hs.sh
      simp only [PyData.showable] at this
      simp only [eW, PyData.showable, PyData.showableAll, i1, this, Bool.and_self]
    · have := hs.ls
      simp only [eW, PyData.leavesShort, PyData.leavesShortAll] at this ⊢
      simp only [i2, this, Bool.and_self]
    · have := bulk_w (.mk s f)
      omega
    · simp only [eW, PyData.depth, PyData.depthAll]
      omega
/-! ### standings that are drawn -/
def isAt (s : Int) : Option Way → Bool
  | some w => decide (w.st = s)
  | none => false
def atN (st : List (Option Way)) (s : Int) : Nat := (st.filter (isAt s)).length
structure StdR (net : Net) (m : Int) (k : Nat) (st : List (Option Way)) : Prop where
  it : ∀ w, some w ∈ st → WayIn net m (k + 1) w ∧ cnt w ≤ 1 + 3 * k
  tk : ∀ (s : Nat) (t : Int), net.1[s]? = some t → (atN st s : Int) ≤ t
theorem atN_app {st : List (Option Way)} {o : Option Way} {s : Int} : atN (st ++ [o]) s = atN st s + (if isAt s o = true then 1 else 0) := by
  unfold atN
  rw [List.filter_append, List.length_append]
  congr 1
  cases h : isAt s o <;> simp [h]
theorem k_standing {net : Net} {m : Int} (hn : NetR m net) {many : Int} {k : Nat} (h0 : 0 ≤ many) (h1 : many ≤ 100) (hk : k ≤ 13) {Q : List (Option Way) → Prop} {E : EP} (q : ∀ st, StdR net m k st → (st.length : Int) = many → Q st) : w__law_standing net many (k : Int) Q E := by
  unfold w__law_standing
  simp only [wdone, wbind, wpure, wseq, wset, wret, wasrt, wsome, wraise, wfail, if_true, if_false, reduceIte, Bool.false_eq_true]
  have l1 := hn.l1
  refine k_rng1 (by omega) (by omega) ?_
  refine wfor_go (fun xs (t : List Int × List (Option Way)) => t.1.length = net.1.length ∧ (∀ (s : Nat) (tr : Int), net.1[s]? = some tr → ∃ f, t.1[s]? = some f ∧ 0 ≤ f ∧ f + atN t.2 s = tr) ∧ (∀ w, some w ∈ t.2 → WayIn net m (k + 1) w ∧ cnt w ≤ 1 + 3 * k) ∧ t.2.length + xs.length = many.toNat) _ _ ⟨rfl, fun s tr h => ⟨tr, h, by have := hn.tr tr (List.mem_of_getElem? h); omega, by simp [atN]⟩, fun _ h => (nomatch h), by rw [len_rngL]; simp⟩ (fun x xs t Q2 hi q2 => ?_) fun t hi => ?_
  · obtain ⟨free, fo⟩ := t
    obtain ⟨hf, hfr, hw, hl⟩ := hi
    rw [List.length_cons] at hl
    simp only at hf hfr hw hl ⊢
    simp only [wdone, wbind, wpure, wseq, wset, wret, wasrt, wsome, wraise, wfail, if_true, if_false, reduceIte, Bool.false_eq_true]
    refine k_rng1 (by have := hn.l3; omega) (by omega) ?_
    have hbl : fo.length < bigLine := bgt (by omega)
    refine wlc_pure (fun s => decide (0 < (free[s.toNat]?).getD 0)) (fun s => s) (bgl (by rw [len_rngL]; have := hn.l3; omega)) (fun s hs R r => ?_) (fun s _ _ R r => r) ?_
    · have := mem_rngL.mp hs
      refine k_ix (by omega) (by omega) fun a ha _ => ?_
      simp only [ha, Option.getD_some] at r
      exact r
    rw [List.map_id']
    generalize hS : (rngL 0 (free.length : Int).toNat).filter (fun s => decide (0 < (free[s.toNat]?).getD 0)) = S
    have hSm : ∀ s ∈ S, 0 ≤ s ∧ s < m ∧ 0 < (free[s.toNat]?).getD 0 := fun s hs => by
      rw [← hS] at hs
      obtain ⟨h3, h4⟩ := List.mem_filter.mp hs
      have := mem_rngL.mp h3
      exact ⟨by omega, by omega, of_decide_eq_true h4⟩
    have hSl : S.length ≤ free.length := by
      rw [← hS]
      refine Nat.le_trans (List.length_filter_le ..) ?_
      rw [len_rngL]
      omega
    have no : fo.length < bigLine ∧ Q2 (.nx (free, fo ++ [none])) := ⟨hbl, q2 _ ⟨hf, fun s tr h => by
      obtain ⟨f, f1, f2, f3⟩ := hfr s tr h
      refine ⟨f, f1, f2, ?_⟩
      rw [atN_app]
      simp [isAt]
      exact f3, fun w h => by
      rcases List.mem_append.mp h with h | h
      · exact hw w h
      · simp at h, by rw [List.length_append, List.length_singleton]; omega⟩⟩
    refine w_post (fun b : Bool => b = false → S ≠ []) (fun Q3 q3 => ?_) fun b hb => ?_
    · by_cases c : S = []
      · simp only [decide_eq_true c, if_true]
        exact q3 _ fun h => (nomatch h)
      · simp only [decide_eq_false c, Bool.false_eq_true, if_false]
        exact k_draw (E := E) (by decide) fun i _ _ => q3 _ fun _ => c
    cases b with
    | true =>
      simp only [wdone, wbind, wpure, wseq, wset, wret, wasrt, wsome, wraise, wfail, if_true, if_false, reduceIte, Bool.false_eq_true]
      exact no
    | false =>
      simp only [wdone, wbind, wpure, wseq, wset, wret, wasrt, wsome, wraise, wfail, if_true, if_false, reduceIte, Bool.false_eq_true]
      refine k_pick (hb rfl) (by have := hn.l3; omega) fun s hs => ?_
      obtain ⟨s0, s1, s2⟩ := hSm s hs
      refine k_ix s0 (by omega) fun f f1 _ => ?_
      rw [f1, Option.getD_some] at s2
      refine ⟨_, ixN_ok2 s0 (by omega), ?_⟩
      refine k_pick (by simp) (by simp) fun w0 hw0 => ?_
      have hw0 : 0 ≤ w0 ∧ w0 ≤ 2 := by
        simp only [List.mem_cons, List.not_mem_nil, or_false] at hw0
        omega
      refine k_draw (E := E) (by omega) fun d d0 d1 => ?_
      have d1 := d1 (by omega)
      obtain ⟨d, rfl⟩ := Int.eq_ofNat_of_zero_le d0
      refine k_way hn 14 s d w0 s0 s1 hw0.1 (by omega) (by omega) (by omega) fun w w1 hR => ⟨hbl, q2 _ ⟨by simp [hf], fun s' tr h => ?_, fun v h => ?_, by rw [List.length_append, List.length_singleton]; omega⟩⟩
      · obtain ⟨f', f1', f2', f3'⟩ := hfr s' tr h
        show ∃ g, (free.set s.toNat (f - 1))[s']? = some g ∧ 0 ≤ g ∧ g + atN (fo ++ [some w]) s' = tr
        rw [atN_app]
        have hst := hR.st
        by_cases e : s.toNat = s'
        · subst e
          rw [f1] at f1'
          cases f1'
          have e1 : isAt ((s.toNat : Nat) : Int) (some w) = true := by
            unfold isAt
            exact decide_eq_true (by omega)
          refine ⟨f - 1, ?_, by omega, ?_⟩
          · rw [List.getElem?_set_self (by omega)]
          · rw [if_pos e1]
            omega
        · have e1 : isAt ((s' : Nat) : Int) (some w) = false := by
            unfold isAt
            exact decide_eq_false (by omega)
          refine ⟨f', by rw [List.getElem?_set_ne e]; exact f1', f2', ?_⟩
          rw [e1]
          simp
          exact f3'
      · rcases List.mem_append.mp h with h | h
        · exact hw v h
        · simp only [List.mem_singleton, Option.some.injEq] at h
          subst h
          refine ⟨hR.wi.mono (by omega), ?_⟩
          have h4 := hR.lw
          have h5 := hR.nn
          have h6 := hR.ct
          have h7 : d * lv v ≤ k * 3 := Nat.mul_le_mul (by omega) (by omega)
          omega
  · obtain ⟨free, fo⟩ := t
    obtain ⟨hf, hfr, hw, hl⟩ := hi
    simp only at hf hfr hw hl ⊢
    refine q fo ⟨hw, fun s t h => ?_⟩ (by simp at hl; omega)
    obtain ⟨f, f1, f2, f3⟩ := hfr s t h
    omega
/-! ### what is shown of nets and standings -/
abbrev eNet : Net → D := eP (eT eI) (eT (eP eI eI))
abbrev eStd : List (Option Way) → D := eT (eO eW)
theorem sm_sml {i : Int} (h : i.natAbs < 10000) : Sm 0 0 (eI i) := sm_int (Nat.lt_of_lt_of_le h (by decide))
theorem sm_net {net : Net} {m : Int} (hn : NetR m net) : Sm 300 3 (eNet net) := by
  have h1 : Sm (10 * (0 + 1)) (0 + 1) (eT eI net.1) := sm_tup (fun d hd => by
    obtain ⟨x, hx, rfl⟩ := List.mem_map.mp hd
    have := hn.tr x hx
    exact sm_sml (by omega)) (by rw [List.length_map]; have := hn.l1; have := hn.l3; omega)
  have h2 : Sm (64 * (2 * (0 + 1) + 1)) (0 + 1 + 1) (eT (eP eI eI) net.2) := sm_tup (fun d hd => by
    obtain ⟨p, hp, rfl⟩ := List.mem_map.mp hd
    have := hn.ln p hp
    have := hn.l3
    refine sm_tup (ds := [eI p.1, eI p.2]) (fun d hd => ?_) (by simp)
    simp only [List.mem_cons, List.not_mem_nil, or_false] at hd
    rcases hd with rfl | rfl
    · exact sm_sml (by omega)
    · exact sm_sml (by omega)) (by rw [List.length_map]; have := hn.le; omega)
  have e : eNet net = .tuple [eT eI net.1, eT (eP eI eI) net.2] := rfl
  refine ⟨?_, ?_, ?_, ?_⟩
  · rw [e]
    simp only [PyData.showable, PyData.showableAll, h1.sh, h2.sh, Bool.and_self]
  · rw [e]
    simp only [PyData.leavesShort, PyData.leavesShortAll, h1.ls, h2.ls, Bool.and_self]
  · have a1 := h1.bk
    have a2 := h2.bk
    rw [e]
    simp only [PyData.bulk, PyData.bulkAll]
    omega
  · have a1 := h1.dp
    have a2 := h2.dp
    rw [e]
    simp only [PyData.depth, PyData.depthAll]
    omega
theorem sm_std {net : Net} {m : Int} {k : Nat} {st : List (Option Way)} (hm : m ≤ 10) (h : StdR net m k st) (hk : k ≤ 13) (hl : st.length ≤ 100) : Sm 12100 29 (eStd st) := by
  have h1 : Sm (100 * (120 + 1)) (28 + 1) (eStd st) := sm_tup (fun d hd => by
    obtain ⟨o, ho, rfl⟩ := List.mem_map.mp hd
    cases o with
    | none => exact sm_none.mono
    | some w =>
      obtain ⟨h2, h3⟩ := h.it w ho
      exact (sm_w hm h2).mono (by omega) (by omega)) (by rw [List.length_map]; exact hl)
  exact h1
theorem can_ns {net : Net} {m : Int} {k : Nat} {st : List (Option Way)} (hn : NetR m net) (h : StdR net m k st) (hk : k ≤ 13) (hl : st.length ≤ 100) : canShow (eL eD [eNet net, eStd st]) = true := by
  have h1 := sm_net hn
  have h2 := sm_std hn.l3 h hk hl
  have h3 : Sm (2 * (12100 + 1)) (29 + 1) (eL eD [eNet net, eStd st]) := sm_lst (fun d hd => by
    simp only [List.map_cons, List.map_nil, List.mem_cons, List.not_mem_nil, or_false] at hd
    rcases hd with rfl | rfl
    · exact h1.mono
    · exact h2) (by simp)
  exact h3.can

end Pu.L

namespace Pu.L
open PySem PySem.Spec PyProof.Rows L2 Pu
/-! ### what the family's laws share -/
def atL (st : List (Option Way)) (s : Int) : List Int := ((enumL st).filter fun p => isAt s p.2).map fun p => p.1
theorem len_enumL {α : Type} (xs : List α) : (enumL xs).length = xs.length := by simp [enumL]
theorem k_trains {st : List (Option Way)} {s : Int} {Q : List Int → Prop} {E : EP} (h : st.length ≤ 1000) (q : Q (atL st s)) : w_trains_at st s Q E := by
  unfold w_trains_at
  simp only [wdone, wbind, wpure, wseq, wset, wret, wasrt, wsome, wraise, wfail, if_true, if_false, reduceIte, Bool.false_eq_true]
  refine wlc_pure (fun (p : Int × Option Way) => isAt s p.2) (fun (p : Int × Option Way) => p.1) (bgl (by rw [len_enumL]; omega)) (fun p _ R r => ?_) (fun p _ _ R r => by exact r) q
  obtain ⟨i, o⟩ := p
  cases o with
  | none => exact r
  | some w => exact ⟨w, rfl, r⟩
theorem k_at {st : List (Option Way)} {s : Int} {Q : List Int → Prop} {E : EP} (h : st.length ≤ 1000) (q : Q (atL st s)) : w__law_at st s Q E := by
  unfold w__law_at
  simp only [wdone, wbind, wpure, wseq, wset, wret, wasrt, wsome, wraise, wfail, if_true, if_false, reduceIte, Bool.false_eq_true]
  refine wlc_pure (fun (p : Int × Option Way) => isAt s p.2) (fun (p : Int × Option Way) => p.1) (bgl (by rw [len_enumL]; omega)) (fun p _ R r => ?_) (fun p _ _ R r => by exact r) q
  obtain ⟨i, o⟩ := p
  cases o with
  | none => exact r
  | some w => exact ⟨w, rfl, r⟩
def goalsO : Option Way → List Int
  | none => []
  | some w => w.fu.map Way.st
theorem k_wants {st : List (Option Way)} {i : Int} {o : Option Way} {Q : List Int → Prop} {E : EP} (h0 : 0 ≤ i) (h : st[i.toNat]? = some o) (hf : ∀ w, o = some w → w.fu.length ≤ 3) (q : Q (goalsO o)) : w_wants st i Q E := by
  unfold w_wants
  simp only [wdone, wbind, wpure, wseq, wset, wret, wasrt, wsome, wraise, wfail, if_true, if_false, reduceIte, Bool.false_eq_true]
  refine k_ixv h0 h ?_
  cases o with
  | none => exact q
  | some w =>
    simp only [Option.isNone_some, wdone, wbind, wpure, wseq, wset, wret, wasrt, wsome, wraise, wfail, if_true, if_false, reduceIte, Bool.false_eq_true]
    exact ⟨w, rfl, wlc_tp (bgl (by have := hf w rfl; omega)) q⟩
theorem k_free {net : Net} {st : List (Option Way)} {s t : Int} {Q : Int → Prop} {E : EP} (h0 : 0 ≤ s) (ht : net.1[s.toNat]? = some t) (h : st.length ≤ 1000) (q : Q (t - (atL st s).length)) : w_free_tracks net st s Q E := by
  unfold w_free_tracks
  simp only [wdone, wbind, wpure, wseq, wset, wret, wasrt, wsome, wraise, wfail, if_true, if_false, reduceIte, Bool.false_eq_true]
  exact k_ixv h0 ht (k_trains h q)
theorem br_of {net : Net} {m : Int} {k : Nat} {st : List (Option Way)} (hs : StdR net m k st) {i : Int} {o : Option Way} (h : st[i.toNat]? = some o) : ∀ w, o = some w → w.fu.length ≤ 3 := fun w e => by
  subst e
  exact (hs.it w (List.mem_of_getElem? h)).1.2.2.1

section
variable {α β σ τ ρ : Type} {E : EP}
theorem s_done {m : WP (Ctl Empty ρ)} {Q : ρ → Prop} (h : m (fun c => match c with | .nx s => nomatch s | .rt r => Q r) E) : wdone m Q E := h
theorem s_seq {m : WP (Ctl σ ρ)} {f : σ → WP (Ctl τ ρ)} {Q : Ctl τ ρ → Prop} (h : m (fun c => match c with | .nx s => f s Q E | .rt r => Q (.rt r)) E) : wseq m f Q E := h
theorem s_set {w : WP α} {f : α → WP (Ctl τ ρ)} {Q : Ctl τ ρ → Prop} (h : w (fun a => f a Q E) E) : wseq (wset w) f Q E := h
theorem s_b {m : WP α} {f : α → WP β} {Q : β → Prop} (h : m (fun a => f a Q E) E) : wbind m f Q E := h
theorem s_p {a : α} {Q : α → Prop} (h : Q a) : wpure a Q E := h
theorem s_pb {a : α} {f : α → WP β} {Q : β → Prop} (h : f a Q E) : wbind (wpure a) f Q E := h
end

/-! ### k15: who stands where -/
def far : Nat → Way → Int
  | 0, _ => 0
  | n + 1, w => mxL (0 :: w.fu.map fun b => far n b + 1)
theorem fold_ge : ∀ (xs : List Int) (a : Int), a ≤ xs.foldl max a
  | [], a => Int.le_refl a
  | x :: xs, a => Int.le_trans (by omega) (fold_ge xs (max a x))
theorem fold_le {b : Int} : ∀ (xs : List Int) (a : Int), a ≤ b → (∀ x ∈ xs, x ≤ b) → xs.foldl max a ≤ b
  | [], a, h, _ => h
  | x :: xs, a, h, h2 => fold_le xs (max a x) (by have := h2 x (List.mem_cons_self ..); omega) fun y hy => h2 y (List.mem_cons_of_mem _ hy)
theorem far_in {net : Net} {m : Int} : ∀ (n k : Nat) (w : Way), WayIn net m k w → 0 ≤ far n w ∧ far n w ≤ k
  | 0, k, _, _ => by unfold far; omega
  | n + 1, 0, _, h => h.elim
  | n + 1, k + 1, w, h => by
    unfold far mxL
    refine ⟨fold_ge _ 0, fold_le _ 0 (by omega) fun x hx => ?_⟩
    obtain ⟨b, hb, rfl⟩ := List.mem_map.mp hx
    have := (far_in n k b (h.2.2.2.2 b hb).2).2
    omega
theorem k_rgl {n : Int} {Q : List Int → Prop} {E : EP} (h : n ≤ 1000000) (h0 : 0 ≤ n) (q : Q (rngL 0 n.toNat)) : wrgl 0 n Q E := by
  have e : n - 0 = n := by omega
  have h1 : inL n := by show n.natAbs < 4611686018427387904; omega
  have h2 : inL 0 := by show (0 : Int).natAbs < 4611686018427387904; omega
  have h3 : (n - 0).toNat ≤ 1000000 := by omega
  refine ⟨⟨h2, h1, h3⟩, ?_⟩
  rw [e]
  exact q
theorem k_longest {net : Net} {m : Int} : ∀ (n k : Nat) (w : Way) {Q : Int → Prop} {E : EP}, WayIn net m k w → k ≤ n → Q (far n w) → w_longest n w Q E
  | 0, 0, _, _, _, h, _, _ => h.elim
  | 0, k + 1, _, _, _, _, l, _ => absurd l (by omega)
  | n + 1, 0, _, _, _, h, _, _ => h.elim
  | n + 1, k + 1, w, Q, E, h, l, q => by
    unfold w_longest
    simp only [wdone, wbind, wpure, wseq, wset, wret, wasrt, wsome, wraise, wfail, if_true, if_false, reduceIte, Bool.false_eq_true]
    have := h.2.2.1
    refine wlc_pure (fun _ => true) (fun b => far n b + 1) (bgl (by omega)) (fun _ _ R r => r) (fun b hb _ R r => k_longest n k b (h.2.2.2.2 b hb).2 (by omega) r) ?_
    rw [List.filter_eq_self.mpr fun _ _ => rfl]
    exact k_cat (by simp; omega) ⟨by simp, q⟩
theorem k_far {net : Net} {m : Int} : ∀ (n k : Nat) (w : Way) {Q : Int → Prop} {E : EP}, WayIn net m k w → k ≤ n → Q (far n w) → w__law_far n w Q E
  | 0, 0, _, _, _, h, _, _ => h.elim
  | 0, k + 1, _, _, _, _, l, _ => absurd l (by omega)
  | n + 1, 0, _, _, _, h, _, _ => h.elim
  | n + 1, k + 1, w, Q, E, h, l, q => by
    unfold w__law_far
    simp only [wdone, wbind, wpure, wseq, wset, wret, wasrt, wsome, wraise, wfail, if_true, if_false, reduceIte, Bool.false_eq_true]
    have := h.2.2.1
    refine wlc_pure (fun _ => true) (fun b => far n b + 1) (bgl (by omega)) (fun _ _ R r => r) (fun b hb _ R r => k_far n k b (h.2.2.2.2 b hb).2 (by omega) (show R (1 + far n b) by rw [Int.add_comm 1]; exact r)) ?_
    rw [List.filter_eq_self.mpr fun _ _ => rfl]
    exact k_cat (by simp; omega) ⟨by simp, q⟩
def leftO : Option Way → Int
  | some w => far 16 w + 1
  | none => 0
theorem enum_snd {α : Type} (xs : List α) : (enumL xs).map (fun p => p.2) = xs := by
  unfold enumL
  rw [List.map_map]
  exact List.zipIdx_map_fst 0 xs
theorem mem_enumL {α : Type} {xs : List α} {p : Int × α} (h : p ∈ enumL xs) : 0 ≤ p.1 ∧ p.1 < xs.length ∧ xs[p.1.toNat]? = some p.2 := by
  unfold enumL at h
  obtain ⟨q, hq, rfl⟩ := List.mem_map.mp h
  obtain ⟨a, i⟩ := q
  have h1 := List.mem_zipIdx_iff_getElem?.mp hq
  dsimp only at h1 ⊢
  have h2 := (List.getElem?_eq_some_iff.mp h1).1
  exact ⟨by omega, by omega, by rw [Int.toNat_natCast]; exact h1⟩
theorem sum_left : ∀ st : List (Option Way), ((st.filter Option.isSome).map leftO).sum = (st.map leftO).sum
  | [] => rfl
  | none :: st => by
    have := sum_left st
    simp only [List.filter_cons, Option.isSome_none, Bool.false_eq_true, if_false, List.map_cons, List.sum_cons, leftO]
    omega
  | some w :: st => by
    have := sum_left st
    simp only [List.filter_cons, Option.isSome_some, if_true, List.map_cons, List.sum_cons]
    omega
theorem gone_is : ∀ st : List (Option Way), (st.filter Option.isSome).isEmpty = (st.map Option.isNone).all id
  | [] => rfl
  | none :: st => by
    have := gone_is st
    simp only [List.filter_cons, Option.isSome_none, Bool.false_eq_true, if_false, List.map_cons, List.all_cons, Option.isNone_none, id, Bool.true_and]
    exact this
  | some w :: st => by
    simp only [List.filter_cons, Option.isSome_some, if_true, List.map_cons, List.all_cons, Option.isNone_some, id, Bool.false_and]
    rfl
section
variable {net : Net} {m : Int} {st : List (Option Way)} {E : EP}
theorem in_of (hs : StdR net m 5 st) {w : Way} (h : some w ∈ st) : WayIn net m 6 w := (hs.it w h).1
theorem k_left {Q : Int → Prop} (hs : StdR net m 5 st) (hl : st.length ≤ 100) (q : Q ((st.map leftO).sum)) : w_steps_left st Q E := by
  unfold w_steps_left
  simp only [wdone, wbind, wpure, wseq, wset, wret, wasrt, wsome, wraise, wfail, if_true, if_false, reduceIte, Bool.false_eq_true]
  refine wlc_pure Option.isSome leftO (bgl (by omega)) (fun _ _ R r => r) (fun o ho hi R r => ?_) (by rw [sum_left]; exact q)
  cases o with
  | none => cases hi
  | some w => exact ⟨w, rfl, k_longest 16 6 w (in_of hs ho) (by decide) r⟩
theorem k_gone {Q : Bool → Prop} (hl : st.length ≤ 100) (q : Q ((st.map Option.isNone).all id)) : w_all_gone st Q E := by
  unfold w_all_gone
  simp only [wdone, wbind, wpure, wseq, wset, wret, wasrt, wsome, wraise, wfail, if_true, if_false, reduceIte, Bool.false_eq_true]
  exact wlc_tp (bgl (by omega)) q
theorem k_without {Q : List (Option Way) → Prop} {lot : List Int} (hl : st.length ≤ 100) (q : Q ((enumL st).map fun p => if decide (p.1 ∈ lot) = true then none else p.2)) : w_without st lot Q E := by
  unfold w_without
  simp only [wdone, wbind, wpure, wseq, wset, wret, wasrt, wsome, wraise, wfail, if_true, if_false, reduceIte, Bool.false_eq_true]
  exact wlc_tp (bgl (by rw [len_enumL]; omega)) q
theorem sm_at (hl : st.length ≤ 100) (s : Int) : Sm (100 * (0 + 1)) (0 + 1) (eT eI (atL st s)) := sm_tup (fun d hd => by
  obtain ⟨i, hi, rfl⟩ := List.mem_map.mp hd
  obtain ⟨p, hp, rfl⟩ := List.mem_map.mp hi
  have := mem_enumL ((List.mem_filter.mp hp).1)
  exact sm_sml (by omega)) (by
    rw [List.length_map]
    unfold atL
    rw [List.length_map]
    have := List.length_filter_le (fun p : Int × Option Way => isAt s p.2) (enumL st)
    rw [len_enumL] at this
    omega)
theorem at_len (hl : st.length ≤ 100) (s : Int) : (atL st s).length ≤ 100 := by
  unfold atL
  rw [List.length_map]
  have := List.length_filter_le (fun p : Int × Option Way => isAt s p.2) (enumL st)
  rw [len_enumL] at this
  omega
theorem k_counted {Q : Bool → Prop} {named : Bool} (hn : NetR m net) (hl : st.length ≤ 100) (q : Q true) : w__law_is_counted net st named Q E := by
  unfold w__law_is_counted
  simp only [wdone, wbind, wpure, wseq, wset, wret, wasrt, wsome, wraise, wfail, if_true, if_false, reduceIte, Bool.false_eq_true]
  have l1 := hn.l1
  have l3 := hn.l3
  refine k_rng1 (by omega) (by omega) (wfor_same _ _ (fun x hx Q2 q2 => ?_) q)
  have hx := mem_rngL.mp hx
  simp only [wdone, wbind, wpure, wseq, wset, wret, wasrt, wsome, wraise, wfail, if_true, if_false, reduceIte, Bool.false_eq_true]
  refine k_at (by omega) ?_
  have hlt : x.toNat < net.1.length := by omega
  have ht := List.getElem?_eq_getElem hlt
  have ht4 := hn.tr _ (List.getElem_mem hlt)
  generalize net.1[x.toNat] = t at ht ht4
  refine k_trains (by omega) (k_free hx.1 ht (by omega) ?_)
  have hal := at_len hl x
  have hc : canShow (eL eD [(eT eI) (atL st x), eI (t - (atL st x).length)]) = true := by
    have h3 : Sm (2 * (100 * (0 + 1) + 1)) (0 + 1 + 1) (eL eD [(eT eI) (atL st x), eI (t - (atL st x).length)]) := sm_lst (fun d hd => by
      simp only [List.map_cons, List.map_nil, List.mem_cons, List.not_mem_nil, or_false] at hd
      rcases hd with rfl | rfl
      · exact sm_at hl x
      · exact (sm_sml (by omega)).mono) (by simp)
    exact h3.can
  cases named with
  | false =>
    simp only [wdone, wbind, wpure, wseq, wset, wret, wasrt, wsome, wraise, wfail, if_true, if_false, reduceIte, Bool.false_eq_true]
    refine ⟨hc, k_ixv hx.1 ht ⟨hc, ?_⟩⟩
    simp only [decide_true, Bool.not_true, wdone, wbind, wpure, wseq, wset, wret, wasrt, wsome, wraise, wfail, if_true, if_false, reduceIte, Bool.false_eq_true]
    exact q2
  | true =>
    simp only [wdone, wbind, wpure, wseq, wset, wret, wasrt, wsome, wraise, wfail, if_true, if_false, reduceIte, Bool.false_eq_true]
    refine k_trains (by omega) (k_free hx.1 ht (by omega) ⟨bgt (by simp), ?_⟩)
    refine ⟨hc, k_ixv hx.1 ht ⟨hc, ?_⟩⟩
    simp only [List.cons_append, List.nil_append, decide_true, Bool.not_true, wdone, wbind, wpure, wseq, wset, wret, wasrt, wsome, wraise, wfail, if_true, if_false, reduceIte, Bool.false_eq_true]
    exact q2
theorem sm_dues {o : Option Way} (hm : m ≤ 10) (hf : ∀ w, o = some w → WayIn net m 6 w) : canShow (eT eI (goalsO o)) = true := by
  have h : Sm (3 * (0 + 1)) (0 + 1) (eT eI (goalsO o)) := sm_tup (fun d hd => by
    obtain ⟨i, hi, rfl⟩ := List.mem_map.mp hd
    cases o with
    | none => cases hi
    | some w =>
      obtain ⟨b, hb, rfl⟩ := List.mem_map.mp hi
      have h5 := ((hf w rfl).2.2.2.2 b hb).2
      have := h5.1
      have := h5.2.1
      exact sm_sml (by omega)) (by
    rw [List.length_map]
    cases o with
    | none => simp [goalsO]
    | some w =>
      have := (hf w rfl).2.2.1
      simp only [goalsO, List.length_map]
      omega)
  exact h.can
theorem left_le (hs : StdR net m 5 st) {o : Option Way} (ho : o ∈ st) : 0 ≤ leftO o ∧ leftO o ≤ 7 := by
  cases o with
  | none => exact ⟨by decide, by decide⟩
  | some w =>
    have := far_in 16 6 w (in_of hs ho)
    simp only [leftO]
    omega
theorem sum_le : ∀ (xs : List (Option Way)), (∀ o ∈ xs, 0 ≤ leftO o ∧ leftO o ≤ 7) → 0 ≤ (xs.map leftO).sum ∧ (xs.map leftO).sum ≤ 7 * xs.length
  | [], _ => ⟨by simp, by simp⟩
  | o :: xs, h => by
    have h1 := h o (List.mem_cons_self ..)
    have h2 := sum_le xs fun o ho => h o (List.mem_cons_of_mem _ ho)
    simp only [List.map_cons, List.sum_cons, List.length_cons]
    omega
theorem k_wishes {Q : Bool → Prop} {named : Bool} (hn : NetR m net) (hs : StdR net m 5 st) (hl : st.length ≤ 100) (q : Q true) : w__law_are_wishes_told st named Q E := by
  unfold w__law_are_wishes_told
  simp only [wdone, wbind, wpure, wseq, wset, wret, wasrt, wsome, wraise, wfail, if_true, if_false, reduceIte, Bool.false_eq_true]
  have hm := hn.l3
  refine wfor_go (fun xs (s : Int) => s + (xs.map fun p : Int × Option Way => leftO p.2).sum = (st.map leftO).sum ∧ ∀ p ∈ xs, p ∈ enumL st) _ _ ⟨?_, fun _ h => h⟩ (fun p xs s Q2 hi q2 => ?_) fun s hi => ?_
  · have e : (enumL st).map (fun p : Int × Option Way => leftO p.2) = st.map leftO := by
      have := congrArg (List.map leftO) (enum_snd st)
      rw [List.map_map] at this
      exact this
    rw [e]
    omega
  · obtain ⟨h1, h2⟩ := hi
    obtain ⟨i, o⟩ := p
    have hp := mem_enumL (h2 _ (List.mem_cons_self ..))
    dsimp only at hp
    have ho := List.mem_of_getElem? hp.2.2
    have hf : ∀ w, o = some w → WayIn net m 6 w := fun w e => in_of hs (e ▸ ho)
    have hb := br_of hs hp.2.2
    have hc := sm_dues hm hf
    have kw : ∀ {R : List Int → Prop}, R (goalsO o) → w_wants st i R E := fun r => k_wants hp.1 hp.2.2 hb r
    simp only [wdone, wbind, wpure, wseq, wset, wret, wasrt, wsome, wraise, wfail, if_true, if_false, reduceIte, Bool.false_eq_true]
    refine w_post (fun due => due = goalsO o) (fun R r => ?_) fun due ed => ?_
    · cases o with
      | none => exact r _ rfl
      | some w => exact ⟨w, rfl, wlc_tp (E := fun _ => False) (bgl (by have := hb w rfl; omega)) (r _ rfl)⟩
    subst ed
    refine w_post (fun told => told = goalsO o) (fun R r => ?_) fun told et => ?_
    · cases named with
      | false => exact kw (r _ rfl)
      | true => exact kw (r _ rfl)
    subst et
    refine ⟨hc, hc, ?_⟩
    simp only [decide_true, Bool.not_true, wdone, wbind, wpure, wseq, wset, wret, wasrt, wsome, wraise, wfail, if_true, if_false, reduceIte, Bool.false_eq_true]
    refine kw ⟨hc, hc, ?_⟩
    simp only [decide_true, Bool.not_true, wdone, wbind, wpure, wseq, wset, wret, wasrt, wsome, wraise, wfail, if_true, if_false, reduceIte, Bool.false_eq_true]
    have hx : ∀ z, z = leftO o → Q2 (.nx (s + z)) := fun z e => q2 _ ⟨by
      rw [List.map_cons, List.sum_cons] at h1
      dsimp only at h1
      omega, fun p h => h2 p (List.mem_cons_of_mem _ h)⟩
    cases o with
    | none => exact hx _ rfl
    | some w => exact ⟨w, rfl, k_far 16 6 w (hf w rfl) (by decide) (hx _ (Int.add_comm 1 _))⟩
  · obtain ⟨h1, _⟩ := hi
    rw [List.map_nil, List.sum_nil, Int.add_zero] at h1
    subst h1
    have hsum := sum_le st fun o ho => left_le hs ho
    have hc : canShow (eL eD [eI ((st.map leftO).sum), eB ((st.map Option.isNone).all id)]) = true := by
      have h3 : Sm (2 * (0 + 1)) (0 + 1) (eL eD [eI ((st.map leftO).sum), eB ((st.map Option.isNone).all id)]) := sm_lst (fun d hd => by
        simp only [List.map_cons, List.map_nil, List.mem_cons, List.not_mem_nil, or_false] at hd
        rcases hd with rfl | rfl
        · exact sm_sml (by omega)
        · exact sm_bool) (by simp)
      exact h3.can
    dsimp only
    refine k_left hs hl (k_gone hl ?_)
    refine w_nx (fun d : D => d = eL eD [eI ((st.map leftO).sum), eB ((st.map Option.isNone).all id)]) (fun R r => ?_) fun d ed => ?_
    · cases named with
      | false => exact r _ rfl
      | true => exact k_left hs hl (k_gone hl (r _ rfl))
    subst ed
    dsimp only
    refine ⟨hc, ?_⟩
    refine wlc_pp (p := Option.isSome) (f := fun o => o) (bgl (by omega)) ?_
    rw [List.map_id']
    refine k_nilL (k := 12) (fun o ho => ?_) (by decide) ?_
    · cases o with
      | none => exact ⟨by rfl, by decide⟩
      | some w => exact ly_w (in_of hs (List.mem_filter.mp ho).1)
    · rw [gone_is]
      refine ⟨hc, ?_⟩
      have fin : Q (decide ((eL eD [eI ((st.map leftO).sum), eB ((st.map Option.isNone).all id)]).shown = (eL eD [eI ((st.map leftO).sum), eB ((st.map Option.isNone).all id)]).shown)) := by
        rw [decide_eq_true rfl]
        exact q
      exact fin
theorem sm_items (hm : m ≤ 10) (hs : StdR net m 5 st) {xs : List (Option Way)} (hl : xs.length ≤ 100) (h : ∀ o ∈ xs, o = none ∨ o ∈ st) : canShow (eStd xs) = true := by
  have h2 : StdR net m 5 (xs.filter fun _ => true) ∨ True := .inr trivial
  have h1 : Sm (100 * (120 + 1)) (28 + 1) (eStd xs) := sm_tup (fun d hd => by
    obtain ⟨o, ho, rfl⟩ := List.mem_map.mp hd
    cases o with
    | none => exact sm_none.mono
    | some w =>
      rcases h _ ho with h | h
      · cases h
      · obtain ⟨h2, h3⟩ := hs.it w h
        exact (sm_w hm h2).mono (by omega) (by omega)) (by rw [List.length_map]; exact hl)
  exact h1.can
end
section
variable {net : Net} {m : Int} {st : List (Option Way)} {E : EP}
theorem k_lots {Q : Bool → Prop} {named : Bool} (hn : NetR m net) (hs : StdR net m 5 st) (hl : st.length ≤ 100) (q : Q true) : w__law_are_left st named Q E := by
  unfold w__law_are_left
  refine s_done (s_set (s_pb (k_rgl (by omega) (by omega) ?_)))
  generalize hev : rngL 0 (st.length : Int).toNat = every
  have hlen : every.length = st.length := by rw [← hev, len_rngL]; omega
  refine s_set (s_b (s_pb (s_b (s_pb (s_b (s_b (s_b (s_b ?_))))))))
  refine k_mixed (k := 0) (fun _ _ => ly_int) (by decide) (by omega) fun ys hy => s_pb (s_b ?_)
  refine k_draw (E := E) (by omega) fun c c0 _ => ?_
  refine s_p ?_
  rw [cutL_take c0]
  have hyl := hy.length_eq
  refine k_sortI (by rw [List.length_take]; omega) ?_
  refine s_p (s_p (s_p (s_p ?_)))
  refine s_seq (wfor_same _ _ (fun lot _ Q2 q2 => ?_) q)
  simp only [wdone, wbind, wpure, wseq, wset, wret, wasrt, wsome, wraise, wfail, if_true, if_false, reduceIte, Bool.false_eq_true]
  have hc : canShow (eStd ((enumL st).map fun p => if decide (p.1 ∈ lot) = true then none else p.2)) = true := sm_items hn.l3 hs (by rw [List.length_map, len_enumL]; exact hl) fun o ho => by
    obtain ⟨p, hp, rfl⟩ := List.mem_map.mp ho
    split
    · exact .inl rfl
    · exact .inr (List.mem_of_getElem? (mem_enumL hp).2.2)
  refine wlc_tp (bgl (by rw [len_enumL]; omega)) ⟨hc, ?_⟩
  refine w_post (fun t => t = (enumL st).map fun p => if decide (p.1 ∈ lot) = true then none else p.2) (fun R r => ?_) fun t et => ?_
  · cases named with
    | false => exact k_without hl (r _ rfl)
    | true => exact k_without hl (r _ rfl)
  subst et
  refine ⟨hc, ?_⟩
  simp only [decide_true, Bool.not_true, wdone, wbind, wpure, wseq, wset, wret, wasrt, wsome, wraise, wfail, if_true, if_false, reduceIte, Bool.false_eq_true]
  refine k_without hl ⟨hc, ?_⟩
  simp only [decide_true, Bool.not_true, wdone, wbind, wpure, wseq, wset, wret, wasrt, wsome, wraise, wfail, if_true, if_false, reduceIte, Bool.false_eq_true]
  exact q2
end
theorem rep_none {net : Net} {m : Int} {k n : Nat} (hn : NetR m net) : StdR net m k (List.replicate n none) where
  it := fun w h => by
    have := List.eq_of_mem_replicate h
    cases this
  tk := fun s t h => by
    have h1 := hn.tr t (List.mem_of_getElem? h)
    have e : atN (List.replicate n (none : Option Way)) s = 0 := by
      unfold atN
      rw [List.length_eq_zero_iff, List.filter_eq_nil_iff]
      intro o ho
      rw [List.eq_of_mem_replicate ho]
      exact Bool.false_ne_true
    omega
theorem law_ok : wdone w_law (fun r => r = true) (fun _ => False) := by
  unfold w_law
  simp only [wdone, wbind, wpure, wseq, wset, wret, wasrt, wsome, wraise, wfail, if_true, if_false, reduceIte, Bool.false_eq_true]
  refine k_rng1 (by decide) (by decide) ?_
  refine wfor_same _ _ (fun x hx Q q => ?_) trivial
  have hx := mem_rngL.mp hx
  simp only [wdone, wbind, wpure, wseq, wset, wret, wasrt, wsome, wraise, wfail, if_true, if_false, reduceIte, Bool.false_eq_true]
  refine k_ix hx.1 (by simp; omega) fun many _ hm => ?_
  have hm : 1 ≤ many ∧ many ≤ 10 := by
    simp only [List.mem_cons, List.not_mem_nil, or_false] at hm
    omega
  refine k_net hm.1 hm.2 fun net hn => ?_
  refine k_pick (by simp) (by simp) fun tr htr => ?_
  have htr : 0 ≤ tr ∧ tr ≤ 100 := by
    simp only [List.mem_cons, List.not_mem_nil, or_false] at htr
    omega
  refine k_standing hn (k := 5) htr.1 htr.2 (by decide) fun st0 hs0 hl0 => ?_
  have hl0 : st0.length ≤ 100 := by omega
  by_cases c : x = 2
  · simp only [decide_eq_true c, wdone, wbind, wpure, wseq, wset, wret, wasrt, wsome, wraise, wfail, if_true, if_false, reduceIte, Bool.false_eq_true]
    refine k_draw (E := fun _ => False) (by decide) fun i _ _ => ?_
    by_cases d : i = 0
    · simp only [decide_eq_true d, wdone, wbind, wpure, wseq, wset, wret, wasrt, wsome, wraise, wfail, if_true, if_false, reduceIte, Bool.false_eq_true]
      refine ⟨⟨by simp, by omega, by omega, by simp⟩, ?_⟩
      have e : (List.replicate (st0.length : Int).toNat [(none : Option Way)]).flatten = List.replicate st0.length none := by simp
      rw [e]
      have hs : StdR net many 5 (List.replicate st0.length none) := rep_none hn
      have hl : (List.replicate st0.length (none : Option Way)).length ≤ 100 := by rw [List.length_replicate]; omega
      generalize List.replicate st0.length (none : Option Way) = st at hs hl
      have hc := can_ns hn hs (by decide) hl
      refine ⟨hc, k_counted hn hl ?_⟩
      simp only [Bool.not_true, wdone, wbind, wpure, wseq, wset, wret, wasrt, wsome, wraise, wfail, if_true, if_false, reduceIte, Bool.false_eq_true]
      refine k_wishes hn hs hl ?_
      simp only [Bool.not_true, wdone, wbind, wpure, wseq, wset, wret, wasrt, wsome, wraise, wfail, if_true, if_false, reduceIte, Bool.false_eq_true]
      refine k_lots hn hs hl ?_
      simp only [Bool.not_true, wdone, wbind, wpure, wseq, wset, wret, wasrt, wsome, wraise, wfail, if_true, if_false, reduceIte, Bool.false_eq_true]
      refine ⟨hc, ?_⟩
      simp only [decide_true, Bool.not_true, wdone, wbind, wpure, wseq, wset, wret, wasrt, wsome, wraise, wfail, if_true, if_false, reduceIte, Bool.false_eq_true]
      exact q
    · simp only [decide_eq_false d, wdone, wbind, wpure, wseq, wset, wret, wasrt, wsome, wraise, wfail, if_true, if_false, reduceIte, Bool.false_eq_true]
      have hs := hs0
      have hl := hl0
      have hc := can_ns hn hs (by decide) hl
      refine ⟨hc, k_counted hn hl ?_⟩
      simp only [Bool.not_true, wdone, wbind, wpure, wseq, wset, wret, wasrt, wsome, wraise, wfail, if_true, if_false, reduceIte, Bool.false_eq_true]
      refine k_wishes hn hs hl ?_
      simp only [Bool.not_true, wdone, wbind, wpure, wseq, wset, wret, wasrt, wsome, wraise, wfail, if_true, if_false, reduceIte, Bool.false_eq_true]
      refine k_lots hn hs hl ?_
      simp only [Bool.not_true, wdone, wbind, wpure, wseq, wset, wret, wasrt, wsome, wraise, wfail, if_true, if_false, reduceIte, Bool.false_eq_true]
      refine ⟨hc, ?_⟩
      simp only [decide_true, Bool.not_true, wdone, wbind, wpure, wseq, wset, wret, wasrt, wsome, wraise, wfail, if_true, if_false, reduceIte, Bool.false_eq_true]
      exact q
  · simp only [decide_eq_false c, wdone, wbind, wpure, wseq, wset, wret, wasrt, wsome, wraise, wfail, if_true, if_false, reduceIte, Bool.false_eq_true]
    have hs := hs0
    have hl := hl0
    have hc := can_ns hn hs (by decide) hl
    refine ⟨hc, k_counted hn hl ?_⟩
    simp only [Bool.not_true, wdone, wbind, wpure, wseq, wset, wret, wasrt, wsome, wraise, wfail, if_true, if_false, reduceIte, Bool.false_eq_true]
    refine k_wishes hn hs hl ?_
    simp only [Bool.not_true, wdone, wbind, wpure, wseq, wset, wret, wasrt, wsome, wraise, wfail, if_true, if_false, reduceIte, Bool.false_eq_true]
    refine k_lots hn hs hl ?_
    simp only [Bool.not_true, wdone, wbind, wpure, wseq, wset, wret, wasrt, wsome, wraise, wfail, if_true, if_false, reduceIte, Bool.false_eq_true]
    refine ⟨hc, ?_⟩
    simp only [decide_true, Bool.not_true, wdone, wbind, wpure, wseq, wset, wret, wasrt, wsome, wraise, wfail, if_true, if_false, reduceIte, Bool.false_eq_true]
    exact q
theorem law_true : ∀ ns : List Int, ns.length ≤ 63 → TrueEnd (g_law (envOf 6 [.ab (.sc ns)])) := by
  intro ns hl
  obtain ⟨t, e, hb⟩ := bag_ok ns hl
  have h := true_of (t0 := t) hb (law_der ns) law_ok
  have e1 : g_law (envOf 6 [.ab (.sc ns)]) = g_law_rest [some (.ab (.sc ns)), some (.ab t), none, none, none, none] := by
    have e2 : eCallB 0 F__law_bag (ret []) (envOf 6 [.ab (.sc ns)]) = .ok (.tab t) (envOf 6 [.ab (.sc ns)]) := by
      unfold eCallB
      rw [bnd_ok (show abAtE 0 (envOf 6 [.ab (.sc ns)]) = .ok (.sc ns) (envOf 6 [.ab (.sc ns)]) from rfl), bnd_ok (show (ret [] : PM (List D)) (envOf 6 [.ab (.sc ns)]) = .ok [] (envOf 6 [.ab (.sc ns)]) from rfl), bnd_ok (show abAtE 0 (envOf 6 [.ab (.sc ns)]) = .ok (.sc ns) (envOf 6 [.ab (.sc ns)]) from rfl), e]
      rfl
    have e3 : g_law = sSeq (sSet 1 (eCallB 0 F__law_bag (ret []))) g_law_rest := rfl
    rw [e3]
    unfold sSeq sSet
    rw [bnd_ok (a := Out.next) (e' := [some (.ab (.sc ns)), some (.ab t), none, none, none, none])]
    rw [bnd_ok e2]
    rfl
  rw [e1]
  exact h

end Pu.L

namespace Pu.L
open PySem PySem.Spec PyProof.Rows L2 Pu
section
variable {P : Program} {w : World} {K : PySem.W.Frag} {mg : Str → Option Value} {base : Heap}
theorem G_law (t : T K mg) {f : Addr} {fd : FuncData} (F : Fun K "law" "law" slaw f fd) (hT : ∀ ns : List Int, ns.length ≤ 63 → TrueEnd (g_law (envOf 6 [.ab (.sc ns)]))) : FnG P w K mg base CX0 20 f fd ["script"] (SpLaw K) := by
  refine fnLawS_of (N := ["script", "bag", "turn", "net", "standing", "known"]) F sclaw (by decide) ?_ hT
  intro cdv A outer s H E hr hgu
  have hu := hr.units
  have hu1 := hr.units0
  have hd := units1 hr
  exact (pssx_cons (psx_set (i := 1) sclaw.nd (px_callB (i := 0) ((G__law_bag t).mono (by decide)) hr hgu t.g__law_bag t.F__law_bag.kp t.n__law_bag pass0A paf_nil))
      (pssx_cons (psx_for PassesOwn.never rfl (pix_range1 rfl t.b_range (paf_cons px_int paf_nil)) (tgx_name (i := 2) sclaw.nd)
      (pssx_cons (psx_asg (px_callB (i := 1) ((G__law_net t).mono (by decide)) hr hgu t.g__law_net t.F__law_net.kp t.n__law_net pass0A (paf_cons (px_ix i2_ix (px_lst (paf_cons px_int (paf_cons px_int (paf_cons px_int (paf_cons px_int (paf_cons px_int (paf_cons px_int (paf_cons px_int paf_nil)))))))) (px_var 2) (fun _ _ => rfl)) paf_nil)) (tgx_name (i := 3) sclaw.nd))
      (pssx_cons (psx_asg (px_callB (i := 1) ((G__law_standing t).mono (by decide)) hr hgu t.g__law_standing t.F__law_standing.kp t.n__law_standing pass0A (paf_cons (px_var 3) (paf_cons (px_callB (i := 1) ((G__law_pick t).mono (by decide)) hr hgu t.g__law_pick t.F__law_pick.kp t.n__law_pick pass0A (paf_cons (px_lst (paf_cons px_int (paf_cons px_int (paf_cons px_int (paf_cons px_int (paf_cons px_int (paf_cons px_int paf_nil))))))) paf_nil)) (paf_cons px_int paf_nil)))) (tgx_name (i := 4) sclaw.nd))
      (pssx_cons (psx_if (ptx_pw (pwx_and (ptx_cmp (o2_eq hu) (px_var 2) px_int (nomark _)) (pwx_and1 (ptx_cmp (o2_eq hu) (px_callB (i := 1) ((G__law_draw t).mono (by decide)) hr hgu t.g__law_draw t.F__law_draw.kp t.n__law_draw pass0A (paf_cons px_int paf_nil)) px_int (nomark _)))))
      (pssx_cons (psx_asg (px_op o2_mulT (px_tup (paf_cons px_non paf_nil)) (px_bi bi_len (pax_cons (px_var 4) pax_nil) rfl t.b_len bt_len)) (tgx_name (i := 4) sclaw.nd))
      pssx_nil)
      pssx_nil)
      (pssx_cons (psx_asg (px_bi (bi_repr hgu hu) (pax_cons (px_lst (paf_cons (px_var 3) (paf_cons (px_var 4) paf_nil))) pax_nil) rfl t.b_repr bt_repr) (tgx_name (i := 5) sclaw.nd))
      (pssx_cons (psx_if (ptx_pw (pwx_or (ptx_not (ptx_truth (px_callA ((G__law_is_counted t).mono (by decide)) hr hgu t.g__law_is_counted t.F__law_is_counted.kp t.n__law_is_counted pass0A (paf_cons (px_var 3) (paf_cons (px_var 4) (paf_cons (px_cmp (o2_eq hu) (px_var 2) px_int (nomark _)) paf_nil)))))) (pwx_or1 (ptx_not (ptx_truth (px_callA ((G__law_are_wishes_told t).mono (by decide)) hr hgu t.g__law_are_wishes_told t.F__law_are_wishes_told.kp t.n__law_are_wishes_told pass0A (paf_cons (px_var 4) (paf_cons (px_cmp (o2_eq hu) (px_var 2) px_int (nomark _)) paf_nil))))))))
      (pssx_one (psx_ret px_bl))
      pssx_nil)
      (pssx_cons (psx_if (ptx_pw (pwx_or (ptx_not (ptx_truth (px_callB (i := 1) ((G__law_are_left t).mono (by decide)) hr hgu t.g__law_are_left t.F__law_are_left.kp t.n__law_are_left pass0A (paf_cons (px_var 4) (paf_cons (px_cmp (o2_eq hu) (px_var 2) px_int (nomark _)) paf_nil))))) (pwx_or1 (ptx_cmp (o2_ne hu) (px_bi (bi_repr hgu hu) (pax_cons (px_lst (paf_cons (px_var 3) (paf_cons (px_var 4) paf_nil))) pax_nil) rfl t.b_repr bt_repr) (px_var 5) (nomark _)))))
      (pssx_one (psx_ret px_bl))
      pssx_nil)
      (pssx_wipe (is := [2, 3, 4, 5]) (by decide) pssx_nil))))))))
      (pssx_one (psx_ret px_bl))))
end
end Pu.L

namespace Pu.L
open PySem PySem.Spec PyProof.Rows L2 Pu
theorem all_mk {l : PySem.W.OpenLaw} {w : World} {K : PySem.W.Frag} {h : Heap} {mg : Str → Option Value} {fa : Addr} (X : K.In h) (G : h.Ns mainGlobals mg) (hfa : mg "law" = some (.ref fa))
    {f_longest : Addr} {od_longest an_longest : Option Addr} {sl_longest : Array (Option Value)} {oc_longest kV_longest dc_longest pm_longest cd_longest ct_longest : Value}
    {f_trains_at : Addr} {od_trains_at an_trains_at : Option Addr} {sl_trains_at : Array (Option Value)} {oc_trains_at kV_trains_at dc_trains_at pm_trains_at cd_trains_at ct_trains_at : Value}
    {f_free_tracks : Addr} {od_free_tracks an_free_tracks : Option Addr} {sl_free_tracks : Array (Option Value)} {oc_free_tracks kV_free_tracks dc_free_tracks pm_free_tracks cd_free_tracks ct_free_tracks : Value}
    {f_wants : Addr} {od_wants an_wants : Option Addr} {sl_wants : Array (Option Value)} {oc_wants kV_wants dc_wants pm_wants cd_wants ct_wants : Value}
    {f_steps_left : Addr} {od_steps_left an_steps_left : Option Addr} {sl_steps_left : Array (Option Value)} {oc_steps_left kV_steps_left dc_steps_left pm_steps_left cd_steps_left ct_steps_left : Value}
    {f_all_gone : Addr} {od_all_gone an_all_gone : Option Addr} {sl_all_gone : Array (Option Value)} {oc_all_gone kV_all_gone dc_all_gone pm_all_gone cd_all_gone ct_all_gone : Value}
    {f_without : Addr} {od_without an_without : Option Addr} {sl_without : Array (Option Value)} {oc_without kV_without dc_without pm_without cd_without ct_without : Value}
    {f__law_bag : Addr} {od__law_bag an__law_bag : Option Addr} {sl__law_bag : Array (Option Value)} {oc__law_bag kV__law_bag dc__law_bag pm__law_bag cd__law_bag ct__law_bag : Value}
    {f__law_draw : Addr} {od__law_draw an__law_draw : Option Addr} {sl__law_draw : Array (Option Value)} {oc__law_draw kV__law_draw dc__law_draw pm__law_draw cd__law_draw ct__law_draw : Value}
    {f__law_pick : Addr} {od__law_pick an__law_pick : Option Addr} {sl__law_pick : Array (Option Value)} {oc__law_pick kV__law_pick dc__law_pick pm__law_pick cd__law_pick ct__law_pick : Value}
    {f__law_mixed : Addr} {od__law_mixed an__law_mixed : Option Addr} {sl__law_mixed : Array (Option Value)} {oc__law_mixed kV__law_mixed dc__law_mixed pm__law_mixed cd__law_mixed ct__law_mixed : Value}
    {f__law_net : Addr} {od__law_net an__law_net : Option Addr} {sl__law_net : Array (Option Value)} {oc__law_net kV__law_net dc__law_net pm__law_net cd__law_net ct__law_net : Value}
    {f__law_nexts : Addr} {od__law_nexts an__law_nexts : Option Addr} {sl__law_nexts : Array (Option Value)} {oc__law_nexts kV__law_nexts dc__law_nexts pm__law_nexts cd__law_nexts ct__law_nexts : Value}
    {f__law_way : Addr} {od__law_way an__law_way : Option Addr} {sl__law_way : Array (Option Value)} {oc__law_way kV__law_way dc__law_way pm__law_way cd__law_way ct__law_way : Value}
    {f__law_far : Addr} {od__law_far an__law_far : Option Addr} {sl__law_far : Array (Option Value)} {oc__law_far kV__law_far dc__law_far pm__law_far cd__law_far ct__law_far : Value}
    {f__law_standing : Addr} {od__law_standing an__law_standing : Option Addr} {sl__law_standing : Array (Option Value)} {oc__law_standing kV__law_standing dc__law_standing pm__law_standing cd__law_standing ct__law_standing : Value}
    {f__law_at : Addr} {od__law_at an__law_at : Option Addr} {sl__law_at : Array (Option Value)} {oc__law_at kV__law_at dc__law_at pm__law_at cd__law_at ct__law_at : Value}
    {f__law_is_counted : Addr} {od__law_is_counted an__law_is_counted : Option Addr} {sl__law_is_counted : Array (Option Value)} {oc__law_is_counted kV__law_is_counted dc__law_is_counted pm__law_is_counted cd__law_is_counted ct__law_is_counted : Value}
    {f__law_are_wishes_told : Addr} {od__law_are_wishes_told an__law_are_wishes_told : Option Addr} {sl__law_are_wishes_told : Array (Option Value)} {oc__law_are_wishes_told kV__law_are_wishes_told dc__law_are_wishes_told pm__law_are_wishes_told cd__law_are_wishes_told ct__law_are_wishes_told : Value}
    {f__law_are_left : Addr} {od__law_are_left an__law_are_left : Option Addr} {sl__law_are_left : Array (Option Value)} {oc__law_are_left kV__law_are_left dc__law_are_left pm__law_are_left cd__law_are_left ct__law_are_left : Value}
    {f_law : Addr} {od_law an_law : Option Addr} {sl_law : Array (Option Value)} {oc_law kV_law dc_law pm_law cd_law ct_law : Value}
    (p_longest : PySem.W.nsIn K mainGlobals "longest" = some (some (.ref f_longest))) (l_longest : K.lookup f_longest = some ⟨oc_longest, od_longest, .func (PySem.W.fnOf "longest" "longest" (defArgs slongest) (defBody slongest) (defScope slongest) .none kV_longest dc_longest pm_longest an_longest cd_longest ct_longest), sl_longest⟩) (c_longest : PySem.W.codeIn K cd_longest "longest" = true) (q_longest : PySem.W.keepIn K (.ref f_longest) = true)
    (p_trains_at : PySem.W.nsIn K mainGlobals "trains_at" = some (some (.ref f_trains_at))) (l_trains_at : K.lookup f_trains_at = some ⟨oc_trains_at, od_trains_at, .func (PySem.W.fnOf "trains_at" "trains_at" (defArgs strains_at) (defBody strains_at) (defScope strains_at) .none kV_trains_at dc_trains_at pm_trains_at an_trains_at cd_trains_at ct_trains_at), sl_trains_at⟩) (c_trains_at : PySem.W.codeIn K cd_trains_at "trains_at" = true) (q_trains_at : PySem.W.keepIn K (.ref f_trains_at) = true)
    (p_free_tracks : PySem.W.nsIn K mainGlobals "free_tracks" = some (some (.ref f_free_tracks))) (l_free_tracks : K.lookup f_free_tracks = some ⟨oc_free_tracks, od_free_tracks, .func (PySem.W.fnOf "free_tracks" "free_tracks" (defArgs sfree_tracks) (defBody sfree_tracks) (defScope sfree_tracks) .none kV_free_tracks dc_free_tracks pm_free_tracks an_free_tracks cd_free_tracks ct_free_tracks), sl_free_tracks⟩) (c_free_tracks : PySem.W.codeIn K cd_free_tracks "free_tracks" = true) (q_free_tracks : PySem.W.keepIn K (.ref f_free_tracks) = true)
    (p_wants : PySem.W.nsIn K mainGlobals "wants" = some (some (.ref f_wants))) (l_wants : K.lookup f_wants = some ⟨oc_wants, od_wants, .func (PySem.W.fnOf "wants" "wants" (defArgs swants) (defBody swants) (defScope swants) .none kV_wants dc_wants pm_wants an_wants cd_wants ct_wants), sl_wants⟩) (c_wants : PySem.W.codeIn K cd_wants "wants" = true) (q_wants : PySem.W.keepIn K (.ref f_wants) = true)
    (p_steps_left : PySem.W.nsIn K mainGlobals "steps_left" = some (some (.ref f_steps_left))) (l_steps_left : K.lookup f_steps_left = some ⟨oc_steps_left, od_steps_left, .func (PySem.W.fnOf "steps_left" "steps_left" (defArgs ssteps_left) (defBody ssteps_left) (defScope ssteps_left) .none kV_steps_left dc_steps_left pm_steps_left an_steps_left cd_steps_left ct_steps_left), sl_steps_left⟩) (c_steps_left : PySem.W.codeIn K cd_steps_left "steps_left" = true) (q_steps_left : PySem.W.keepIn K (.ref f_steps_left) = true)
    (p_all_gone : PySem.W.nsIn K mainGlobals "all_gone" = some (some (.ref f_all_gone))) (l_all_gone : K.lookup f_all_gone = some ⟨oc_all_gone, od_all_gone, .func (PySem.W.fnOf "all_gone" "all_gone" (defArgs sall_gone) (defBody sall_gone) (defScope sall_gone) .none kV_all_gone dc_all_gone pm_all_gone an_all_gone cd_all_gone ct_all_gone), sl_all_gone⟩) (c_all_gone : PySem.W.codeIn K cd_all_gone "all_gone" = true) (q_all_gone : PySem.W.keepIn K (.ref f_all_gone) = true)
    (p_without : PySem.W.nsIn K mainGlobals "without" = some (some (.ref f_without))) (l_without : K.lookup f_without = some ⟨oc_without, od_without, .func (PySem.W.fnOf "without" "without" (defArgs swithout) (defBody swithout) (defScope swithout) .none kV_without dc_without pm_without an_without cd_without ct_without), sl_without⟩) (c_without : PySem.W.codeIn K cd_without "without" = true) (q_without : PySem.W.keepIn K (.ref f_without) = true)
    (p__law_bag : PySem.W.nsIn K mainGlobals "_law_bag" = some (some (.ref f__law_bag))) (l__law_bag : K.lookup f__law_bag = some ⟨oc__law_bag, od__law_bag, .func (PySem.W.fnOf "_law_bag" "_law_bag" (defArgs s_law_bag) (defBody s_law_bag) (defScope s_law_bag) .none kV__law_bag dc__law_bag pm__law_bag an__law_bag cd__law_bag ct__law_bag), sl__law_bag⟩) (c__law_bag : PySem.W.codeIn K cd__law_bag "_law_bag" = true) (q__law_bag : PySem.W.keepIn K (.ref f__law_bag) = true)
    (p__law_draw : PySem.W.nsIn K mainGlobals "_law_draw" = some (some (.ref f__law_draw))) (l__law_draw : K.lookup f__law_draw = some ⟨oc__law_draw, od__law_draw, .func (PySem.W.fnOf "_law_draw" "_law_draw" (defArgs s_law_draw) (defBody s_law_draw) (defScope s_law_draw) .none kV__law_draw dc__law_draw pm__law_draw an__law_draw cd__law_draw ct__law_draw), sl__law_draw⟩) (c__law_draw : PySem.W.codeIn K cd__law_draw "_law_draw" = true) (q__law_draw : PySem.W.keepIn K (.ref f__law_draw) = true)
    (p__law_pick : PySem.W.nsIn K mainGlobals "_law_pick" = some (some (.ref f__law_pick))) (l__law_pick : K.lookup f__law_pick = some ⟨oc__law_pick, od__law_pick, .func (PySem.W.fnOf "_law_pick" "_law_pick" (defArgs s_law_pick) (defBody s_law_pick) (defScope s_law_pick) .none kV__law_pick dc__law_pick pm__law_pick an__law_pick cd__law_pick ct__law_pick), sl__law_pick⟩) (c__law_pick : PySem.W.codeIn K cd__law_pick "_law_pick" = true) (q__law_pick : PySem.W.keepIn K (.ref f__law_pick) = true)
    (p__law_mixed : PySem.W.nsIn K mainGlobals "_law_mixed" = some (some (.ref f__law_mixed))) (l__law_mixed : K.lookup f__law_mixed = some ⟨oc__law_mixed, od__law_mixed, .func (PySem.W.fnOf "_law_mixed" "_law_mixed" (defArgs s_law_mixed) (defBody s_law_mixed) (defScope s_law_mixed) .none kV__law_mixed dc__law_mixed pm__law_mixed an__law_mixed cd__law_mixed ct__law_mixed), sl__law_mixed⟩) (c__law_mixed : PySem.W.codeIn K cd__law_mixed "_law_mixed" = true) (q__law_mixed : PySem.W.keepIn K (.ref f__law_mixed) = true)
    (p__law_net : PySem.W.nsIn K mainGlobals "_law_net" = some (some (.ref f__law_net))) (l__law_net : K.lookup f__law_net = some ⟨oc__law_net, od__law_net, .func (PySem.W.fnOf "_law_net" "_law_net" (defArgs s_law_net) (defBody s_law_net) (defScope s_law_net) .none kV__law_net dc__law_net pm__law_net an__law_net cd__law_net ct__law_net), sl__law_net⟩) (c__law_net : PySem.W.codeIn K cd__law_net "_law_net" = true) (q__law_net : PySem.W.keepIn K (.ref f__law_net) = true)
    (p__law_nexts : PySem.W.nsIn K mainGlobals "_law_nexts" = some (some (.ref f__law_nexts))) (l__law_nexts : K.lookup f__law_nexts = some ⟨oc__law_nexts, od__law_nexts, .func (PySem.W.fnOf "_law_nexts" "_law_nexts" (defArgs s_law_nexts) (defBody s_law_nexts) (defScope s_law_nexts) .none kV__law_nexts dc__law_nexts pm__law_nexts an__law_nexts cd__law_nexts ct__law_nexts), sl__law_nexts⟩) (c__law_nexts : PySem.W.codeIn K cd__law_nexts "_law_nexts" = true) (q__law_nexts : PySem.W.keepIn K (.ref f__law_nexts) = true)
    (p__law_way : PySem.W.nsIn K mainGlobals "_law_way" = some (some (.ref f__law_way))) (l__law_way : K.lookup f__law_way = some ⟨oc__law_way, od__law_way, .func (PySem.W.fnOf "_law_way" "_law_way" (defArgs s_law_way) (defBody s_law_way) (defScope s_law_way) .none kV__law_way dc__law_way pm__law_way an__law_way cd__law_way ct__law_way), sl__law_way⟩) (c__law_way : PySem.W.codeIn K cd__law_way "_law_way" = true) (q__law_way : PySem.W.keepIn K (.ref f__law_way) = true)
    (p__law_far : PySem.W.nsIn K mainGlobals "_law_far" = some (some (.ref f__law_far))) (l__law_far : K.lookup f__law_far = some ⟨oc__law_far, od__law_far, .func (PySem.W.fnOf "_law_far" "_law_far" (defArgs s_law_far) (defBody s_law_far) (defScope s_law_far) .none kV__law_far dc__law_far pm__law_far an__law_far cd__law_far ct__law_far), sl__law_far⟩) (c__law_far : PySem.W.codeIn K cd__law_far "_law_far" = true) (q__law_far : PySem.W.keepIn K (.ref f__law_far) = true)
    (p__law_standing : PySem.W.nsIn K mainGlobals "_law_standing" = some (some (.ref f__law_standing))) (l__law_standing : K.lookup f__law_standing = some ⟨oc__law_standing, od__law_standing, .func (PySem.W.fnOf "_law_standing" "_law_standing" (defArgs s_law_standing) (defBody s_law_standing) (defScope s_law_standing) .none kV__law_standing dc__law_standing pm__law_standing an__law_standing cd__law_standing ct__law_standing), sl__law_standing⟩) (c__law_standing : PySem.W.codeIn K cd__law_standing "_law_standing" = true) (q__law_standing : PySem.W.keepIn K (.ref f__law_standing) = true)
    (p__law_at : PySem.W.nsIn K mainGlobals "_law_at" = some (some (.ref f__law_at))) (l__law_at : K.lookup f__law_at = some ⟨oc__law_at, od__law_at, .func (PySem.W.fnOf "_law_at" "_law_at" (defArgs s_law_at) (defBody s_law_at) (defScope s_law_at) .none kV__law_at dc__law_at pm__law_at an__law_at cd__law_at ct__law_at), sl__law_at⟩) (c__law_at : PySem.W.codeIn K cd__law_at "_law_at" = true) (q__law_at : PySem.W.keepIn K (.ref f__law_at) = true)
    (p__law_is_counted : PySem.W.nsIn K mainGlobals "_law_is_counted" = some (some (.ref f__law_is_counted))) (l__law_is_counted : K.lookup f__law_is_counted = some ⟨oc__law_is_counted, od__law_is_counted, .func (PySem.W.fnOf "_law_is_counted" "_law_is_counted" (defArgs s_law_is_counted) (defBody s_law_is_counted) (defScope s_law_is_counted) .none kV__law_is_counted dc__law_is_counted pm__law_is_counted an__law_is_counted cd__law_is_counted ct__law_is_counted), sl__law_is_counted⟩) (c__law_is_counted : PySem.W.codeIn K cd__law_is_counted "_law_is_counted" = true) (q__law_is_counted : PySem.W.keepIn K (.ref f__law_is_counted) = true)
    (p__law_are_wishes_told : PySem.W.nsIn K mainGlobals "_law_are_wishes_told" = some (some (.ref f__law_are_wishes_told))) (l__law_are_wishes_told : K.lookup f__law_are_wishes_told = some ⟨oc__law_are_wishes_told, od__law_are_wishes_told, .func (PySem.W.fnOf "_law_are_wishes_told" "_law_are_wishes_told" (defArgs s_law_are_wishes_told) (defBody s_law_are_wishes_told) (defScope s_law_are_wishes_told) .none kV__law_are_wishes_told dc__law_are_wishes_told pm__law_are_wishes_told an__law_are_wishes_told cd__law_are_wishes_told ct__law_are_wishes_told), sl__law_are_wishes_told⟩) (c__law_are_wishes_told : PySem.W.codeIn K cd__law_are_wishes_told "_law_are_wishes_told" = true) (q__law_are_wishes_told : PySem.W.keepIn K (.ref f__law_are_wishes_told) = true)
    (p__law_are_left : PySem.W.nsIn K mainGlobals "_law_are_left" = some (some (.ref f__law_are_left))) (l__law_are_left : K.lookup f__law_are_left = some ⟨oc__law_are_left, od__law_are_left, .func (PySem.W.fnOf "_law_are_left" "_law_are_left" (defArgs s_law_are_left) (defBody s_law_are_left) (defScope s_law_are_left) .none kV__law_are_left dc__law_are_left pm__law_are_left an__law_are_left cd__law_are_left ct__law_are_left), sl__law_are_left⟩) (c__law_are_left : PySem.W.codeIn K cd__law_are_left "_law_are_left" = true) (q__law_are_left : PySem.W.keepIn K (.ref f__law_are_left) = true)
    (p_law : PySem.W.nsIn K mainGlobals "law" = some (some (.ref f_law))) (l_law : K.lookup f_law = some ⟨oc_law, od_law, .func (PySem.W.fnOf "law" "law" (defArgs slaw) (defBody slaw) (defScope slaw) .none kV_law dc_law pm_law an_law cd_law ct_law), sl_law⟩) (c_law : PySem.W.codeIn K cd_law "law" = true) (q_law : PySem.W.keepIn K (.ref f_law) = true)
    (z_abs : PySem.W.nsIn K mainGlobals "abs" = some none)
    (z_all : PySem.W.nsIn K mainGlobals "all" = some none)
    (z_enumerate : PySem.W.nsIn K mainGlobals "enumerate" = some none)
    (z_int : PySem.W.nsIn K mainGlobals "int" = some none)
    (z_len : PySem.W.nsIn K mainGlobals "len" = some none)
    (z_list : PySem.W.nsIn K mainGlobals "list" = some none)
    (z_max : PySem.W.nsIn K mainGlobals "max" = some none)
    (z_min : PySem.W.nsIn K mainGlobals "min" = some none)
    (z_range : PySem.W.nsIn K mainGlobals "range" = some none)
    (z_repr : PySem.W.nsIn K mainGlobals "repr" = some none)
    (z_set : PySem.W.nsIn K mainGlobals "set" = some none)
    (z_sorted : PySem.W.nsIn K mainGlobals "sorted" = some none)
    (z_sum : PySem.W.nsIn K mainGlobals "sum" = some none)
    (z_tuple : PySem.W.nsIn K mainGlobals "tuple" = some none)
    (hT : ∀ ns : List Int, ns.length ≤ 63 → TrueEnd (g_law (envOf 6 [.ab (.sc ns)]))) :
    ∃ fd : FuncData, (∀ (s : Shared) (v : Value), BindsTo s fd ⟨[v], []⟩ [("script", v)]) ∧ ∀ base : Heap, K.In base → base.Ns mainGlobals mg → FnG l.prog w K mg base CX0 20 fa fd ["script"] (SpLaw K) := by
  have e := hfa.symm.trans (PySem.W.mg_of X G p_law)
  cases e
  have F_longest := fun_mk (st := slongest) l_longest c_longest q_longest
  have F_trains_at := fun_mk (st := strains_at) l_trains_at c_trains_at q_trains_at
  have F_free_tracks := fun_mk (st := sfree_tracks) l_free_tracks c_free_tracks q_free_tracks
  have F_wants := fun_mk (st := swants) l_wants c_wants q_wants
  have F_steps_left := fun_mk (st := ssteps_left) l_steps_left c_steps_left q_steps_left
  have F_all_gone := fun_mk (st := sall_gone) l_all_gone c_all_gone q_all_gone
  have F_without := fun_mk (st := swithout) l_without c_without q_without
  have F__law_bag := fun_mk (st := s_law_bag) l__law_bag c__law_bag q__law_bag
  have F__law_draw := fun_mk (st := s_law_draw) l__law_draw c__law_draw q__law_draw
  have F__law_pick := fun_mk (st := s_law_pick) l__law_pick c__law_pick q__law_pick
  have F__law_mixed := fun_mk (st := s_law_mixed) l__law_mixed c__law_mixed q__law_mixed
  have F__law_net := fun_mk (st := s_law_net) l__law_net c__law_net q__law_net
  have F__law_nexts := fun_mk (st := s_law_nexts) l__law_nexts c__law_nexts q__law_nexts
  have F__law_way := fun_mk (st := s_law_way) l__law_way c__law_way q__law_way
  have F__law_far := fun_mk (st := s_law_far) l__law_far c__law_far q__law_far
  have F__law_standing := fun_mk (st := s_law_standing) l__law_standing c__law_standing q__law_standing
  have F__law_at := fun_mk (st := s_law_at) l__law_at c__law_at q__law_at
  have F__law_is_counted := fun_mk (st := s_law_is_counted) l__law_is_counted c__law_is_counted q__law_is_counted
  have F__law_are_wishes_told := fun_mk (st := s_law_are_wishes_told) l__law_are_wishes_told c__law_are_wishes_told q__law_are_wishes_told
  have F__law_are_left := fun_mk (st := s_law_are_left) l__law_are_left c__law_are_left q__law_are_left
  have F_law := fun_mk (st := slaw) l_law c_law q_law
  have t : T K mg := {
    b_abs := PySem.W.mg_none_of X G z_abs,
    b_all := PySem.W.mg_none_of X G z_all,
    b_enumerate := PySem.W.mg_none_of X G z_enumerate,
    b_int := PySem.W.mg_none_of X G z_int,
    b_len := PySem.W.mg_none_of X G z_len,
    b_list := PySem.W.mg_none_of X G z_list,
    b_max := PySem.W.mg_none_of X G z_max,
    b_min := PySem.W.mg_none_of X G z_min,
    b_range := PySem.W.mg_none_of X G z_range,
    b_repr := PySem.W.mg_none_of X G z_repr,
    b_set := PySem.W.mg_none_of X G z_set,
    b_sorted := PySem.W.mg_none_of X G z_sorted,
    b_sum := PySem.W.mg_none_of X G z_sum,
    b_tuple := PySem.W.mg_none_of X G z_tuple,
    a_longest := f_longest, d_longest := _, F_longest := F_longest, g_longest := PySem.W.mg_of X G p_longest, n_longest := F_longest.binds (ps := ["way"]) fun _ _ _ _ _ _ us hl => match us, hl with | [_], _ => rfl,
    a_trains_at := f_trains_at, d_trains_at := _, F_trains_at := F_trains_at, g_trains_at := PySem.W.mg_of X G p_trains_at, n_trains_at := F_trains_at.binds (ps := ["standing", "station"]) fun _ _ _ _ _ _ us hl => match us, hl with | [_, _], _ => rfl,
    a_free_tracks := f_free_tracks, d_free_tracks := _, F_free_tracks := F_free_tracks, g_free_tracks := PySem.W.mg_of X G p_free_tracks, n_free_tracks := F_free_tracks.binds (ps := ["net", "standing", "station"]) fun _ _ _ _ _ _ us hl => match us, hl with | [_, _, _], _ => rfl,
    a_wants := f_wants, d_wants := _, F_wants := F_wants, g_wants := PySem.W.mg_of X G p_wants, n_wants := F_wants.binds (ps := ["standing", "train"]) fun _ _ _ _ _ _ us hl => match us, hl with | [_, _], _ => rfl,
    a_steps_left := f_steps_left, d_steps_left := _, F_steps_left := F_steps_left, g_steps_left := PySem.W.mg_of X G p_steps_left, n_steps_left := F_steps_left.binds (ps := ["standing"]) fun _ _ _ _ _ _ us hl => match us, hl with | [_], _ => rfl,
    a_all_gone := f_all_gone, d_all_gone := _, F_all_gone := F_all_gone, g_all_gone := PySem.W.mg_of X G p_all_gone, n_all_gone := F_all_gone.binds (ps := ["standing"]) fun _ _ _ _ _ _ us hl => match us, hl with | [_], _ => rfl,
    a_without := f_without, d_without := _, F_without := F_without, g_without := PySem.W.mg_of X G p_without, n_without := F_without.binds (ps := ["standing", "trains"]) fun _ _ _ _ _ _ us hl => match us, hl with | [_, _], _ => rfl,
    a__law_bag := f__law_bag, d__law_bag := _, F__law_bag := F__law_bag, g__law_bag := PySem.W.mg_of X G p__law_bag, n__law_bag := F__law_bag.binds (ps := ["script"]) fun _ _ _ _ _ _ us hl => match us, hl with | [_], _ => rfl,
    a__law_draw := f__law_draw, d__law_draw := _, F__law_draw := F__law_draw, g__law_draw := PySem.W.mg_of X G p__law_draw, n__law_draw := F__law_draw.binds (ps := ["bag", "many"]) fun _ _ _ _ _ _ us hl => match us, hl with | [_, _], _ => rfl,
    a__law_pick := f__law_pick, d__law_pick := _, F__law_pick := F__law_pick, g__law_pick := PySem.W.mg_of X G p__law_pick, n__law_pick := F__law_pick.binds (ps := ["bag", "items"]) fun _ _ _ _ _ _ us hl => match us, hl with | [_, _], _ => rfl,
    a__law_mixed := f__law_mixed, d__law_mixed := _, F__law_mixed := F__law_mixed, g__law_mixed := PySem.W.mg_of X G p__law_mixed, n__law_mixed := F__law_mixed.binds (ps := ["bag", "items"]) fun _ _ _ _ _ _ us hl => match us, hl with | [_, _], _ => rfl,
    a__law_net := f__law_net, d__law_net := _, F__law_net := F__law_net, g__law_net := PySem.W.mg_of X G p__law_net, n__law_net := F__law_net.binds (ps := ["bag", "many"]) fun _ _ _ _ _ _ us hl => match us, hl with | [_, _], _ => rfl,
    a__law_nexts := f__law_nexts, d__law_nexts := _, F__law_nexts := F__law_nexts, g__law_nexts := PySem.W.mg_of X G p__law_nexts, n__law_nexts := F__law_nexts.binds (ps := ["net", "station"]) fun _ _ _ _ _ _ us hl => match us, hl with | [_, _], _ => rfl,
    a__law_way := f__law_way, d__law_way := _, F__law_way := F__law_way, g__law_way := PySem.W.mg_of X G p__law_way, n__law_way := F__law_way.binds (ps := ["bag", "net", "station", "steps", "wide"]) fun _ _ _ _ _ _ us hl => match us, hl with | [_, _, _, _, _], _ => rfl,
    a__law_far := f__law_far, d__law_far := _, F__law_far := F__law_far, g__law_far := PySem.W.mg_of X G p__law_far, n__law_far := F__law_far.binds (ps := ["way"]) fun _ _ _ _ _ _ us hl => match us, hl with | [_], _ => rfl,
    a__law_standing := f__law_standing, d__law_standing := _, F__law_standing := F__law_standing, g__law_standing := PySem.W.mg_of X G p__law_standing, n__law_standing := F__law_standing.binds (ps := ["bag", "net", "many", "steps"]) fun _ _ _ _ _ _ us hl => match us, hl with | [_, _, _, _], _ => rfl,
    a__law_at := f__law_at, d__law_at := _, F__law_at := F__law_at, g__law_at := PySem.W.mg_of X G p__law_at, n__law_at := F__law_at.binds (ps := ["standing", "station"]) fun _ _ _ _ _ _ us hl => match us, hl with | [_, _], _ => rfl,
    a__law_is_counted := f__law_is_counted, d__law_is_counted := _, F__law_is_counted := F__law_is_counted, g__law_is_counted := PySem.W.mg_of X G p__law_is_counted, n__law_is_counted := F__law_is_counted.binds (ps := ["net", "standing", "is_named"]) fun _ _ _ _ _ _ us hl => match us, hl with | [_, _, _], _ => rfl,
    a__law_are_wishes_told := f__law_are_wishes_told, d__law_are_wishes_told := _, F__law_are_wishes_told := F__law_are_wishes_told, g__law_are_wishes_told := PySem.W.mg_of X G p__law_are_wishes_told, n__law_are_wishes_told := F__law_are_wishes_told.binds (ps := ["standing", "is_named"]) fun _ _ _ _ _ _ us hl => match us, hl with | [_, _], _ => rfl,
    a__law_are_left := f__law_are_left, d__law_are_left := _, F__law_are_left := F__law_are_left, g__law_are_left := PySem.W.mg_of X G p__law_are_left, n__law_are_left := F__law_are_left.binds (ps := ["bag", "standing", "is_named"]) fun _ _ _ _ _ _ us hl => match us, hl with | [_, _, _], _ => rfl,
    k_all_gone_standing := fun s ws hl => match ws, hl with | [_], _ => .of_eq rfl,
    k_free_tracks_station_standing_net := fun s ws hl => match ws, hl with | [_, _, _], _ => .of_eq rfl,
    k_steps_left_standing := fun s ws hl => match ws, hl with | [_], _ => .of_eq rfl,
    k_trains_at_station_standing := fun s ws hl => match ws, hl with | [_, _], _ => .of_eq rfl,
    k_wants_train_standing := fun s ws hl => match ws, hl with | [_, _], _ => .of_eq rfl,
    k_without_trains_standing := fun s ws hl => match ws, hl with | [_, _], _ => .of_eq rfl }
  exact ⟨_, fun s v => .of_eq rfl, fun base _ _ => G_law t F_law hT⟩
end Pu.L
open PySem PySem.W PyProof.Rows
set_option maxHeartbeats 0 in
theorem PySem.Challenge.cw_singlegates_k15_whole_who_stands_where_holds : PySem.Challenge.rw_singlegates_k15_whole_who_stands_where.Holds := by
  w_on; o_law; k_head; (case hw => w_witness2)
  k_fill
  refine Pu.walkG (l := PySem.Challenge.rw_singlegates_k15_whole_who_stands_where) (n := 63) (k := 20) rfl (by decide) rfl ⟨rfl, by decide, by decide⟩ (fun w h Y => PySem.W.kIn_of Y) ?hq (fun w => rfl) ?F
  case hq => decide +kernel
  case F =>
    intro w mg fa h KX G hmg
    refine' Pu.L.all_mk KX G hmg ?p_longest ?l_longest ?c_longest ?q_longest ?p_trains_at ?l_trains_at ?c_trains_at ?q_trains_at ?p_free_tracks ?l_free_tracks ?c_free_tracks ?q_free_tracks ?p_wants ?l_wants ?c_wants ?q_wants ?p_steps_left ?l_steps_left ?c_steps_left ?q_steps_left ?p_all_gone ?l_all_gone ?c_all_gone ?q_all_gone ?p_without ?l_without ?c_without ?q_without ?p__law_bag ?l__law_bag ?c__law_bag ?q__law_bag ?p__law_draw ?l__law_draw ?c__law_draw ?q__law_draw ?p__law_pick ?l__law_pick ?c__law_pick ?q__law_pick ?p__law_mixed ?l__law_mixed ?c__law_mixed ?q__law_mixed ?p__law_net ?l__law_net ?c__law_net ?q__law_net ?p__law_nexts ?l__law_nexts ?c__law_nexts ?q__law_nexts ?p__law_way ?l__law_way ?c__law_way ?q__law_way ?p__law_far ?l__law_far ?c__law_far ?q__law_far ?p__law_standing ?l__law_standing ?c__law_standing ?q__law_standing ?p__law_at ?l__law_at ?c__law_at ?q__law_at ?p__law_is_counted ?l__law_is_counted ?c__law_is_counted ?q__law_is_counted ?p__law_are_wishes_told ?l__law_are_wishes_told ?c__law_are_wishes_told ?q__law_are_wishes_told ?p__law_are_left ?l__law_are_left ?c__law_are_left ?q__law_are_left ?p_law ?l_law ?c_law ?q_law ?z_abs ?z_all ?z_enumerate ?z_int ?z_len ?z_list ?z_max ?z_min ?z_range ?z_repr ?z_set ?z_sorted ?z_sum ?z_tuple Pu.L.law_true
    (case p_longest => k_is); (case l_longest => k_is); (case c_longest => k_is); (case q_longest => k_is); (case p_trains_at => k_is); (case l_trains_at => k_is); (case c_trains_at => k_is); (case q_trains_at => k_is); (case p_free_tracks => k_is); (case l_free_tracks => k_is); (case c_free_tracks => k_is); (case q_free_tracks => k_is); (case p_wants => k_is); (case l_wants => k_is); (case c_wants => k_is); (case q_wants => k_is); (case p_steps_left => k_is); (case l_steps_left => k_is); (case c_steps_left => k_is); (case q_steps_left => k_is); (case p_all_gone => k_is); (case l_all_gone => k_is); (case c_all_gone => k_is); (case q_all_gone => k_is); (case p_without => k_is); (case l_without => k_is); (case c_without => k_is); (case q_without => k_is); (case p__law_bag => k_is); (case l__law_bag => k_is); (case c__law_bag => k_is); (case q__law_bag => k_is); (case p__law_draw => k_is); (case l__law_draw => k_is); (case c__law_draw => k_is); (case q__law_draw => k_is); (case p__law_pick => k_is); (case l__law_pick => k_is); (case c__law_pick => k_is); (case q__law_pick => k_is); (case p__law_mixed => k_is); (case l__law_mixed => k_is); (case c__law_mixed => k_is); (case q__law_mixed => k_is); (case p__law_net => k_is); (case l__law_net => k_is); (case c__law_net => k_is); (case q__law_net => k_is); (case p__law_nexts => k_is); (case l__law_nexts => k_is); (case c__law_nexts => k_is); (case q__law_nexts => k_is); (case p__law_way => k_is); (case l__law_way => k_is); (case c__law_way => k_is); (case q__law_way => k_is); (case p__law_far => k_is); (case l__law_far => k_is); (case c__law_far => k_is); (case q__law_far => k_is); (case p__law_standing => k_is); (case l__law_standing => k_is); (case c__law_standing => k_is); (case q__law_standing => k_is); (case p__law_at => k_is); (case l__law_at => k_is); (case c__law_at => k_is); (case q__law_at => k_is); (case p__law_is_counted => k_is); (case l__law_is_counted => k_is); (case c__law_is_counted => k_is); (case q__law_is_counted => k_is); (case p__law_are_wishes_told => k_is); (case l__law_are_wishes_told => k_is); (case c__law_are_wishes_told => k_is); (case q__law_are_wishes_told => k_is); (case p__law_are_left => k_is); (case l__law_are_left => k_is); (case c__law_are_left => k_is); (case q__law_are_left => k_is); (case p_law => k_is); (case l_law => k_is); (case c_law => k_is); (case q_law => k_is); (case z_abs => k_is); (case z_all => k_is); (case z_enumerate => k_is); (case z_int => k_is); (case z_len => k_is); (case z_list => k_is); (case z_max => k_is); (case z_min => k_is); (case z_range => k_is); (case z_repr => k_is); (case z_set => k_is); (case z_sorted => k_is); (case z_sum => k_is); (case z_tuple => k_is)

