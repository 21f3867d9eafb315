import PyProof.Rows.All
import Wide.All
import OpenK.AllK
import Wide.FinOn
import HandS.ForMost
import HandS.ForExc
import HandS.IsInst
import HandS.Wide
import HandS.EndBits
import HandS.HotCalls
import HandS.ExcInit
import HandS.ExcField
import HandS.ExcIs
import HandS.AnyAll
import HandS.EndTab
import HandS.GenOver
import HandS.TupMul
import HandS.TupAny
import HandS.Zip
import HandS.Iter
import PyProof.Rows.ChunkEnd
import KE.GoesMore
import HandS.MapObj
import HandS.Star
import KE.KDictZip
import HandS.CallLocal
import PySem.Challenge.RW_picturetide_k05_whole_transforms_inverte
set_option Elab.async false
set_option linter.all false
set_option maxRecDepth 100000
/-! Q1: what a slot holds, as plain data; expressions and statements judged by data alone. -/
namespace Qp
open PySem PySem.Spec PyProof.Rows L2
abbrev Fg := PySem.W.Frag
/-! ### heaps that grow -/
/-- what stands at an address, behind a growth: a code object's table may have got longer, all else stands -/
def Gr : HO → Option HO → Prop
  | .tbl ps, x => ∃ more, x = some (.tbl (ps ++ more)) ∧ (TriplesOk ps.toList → TriplesOk (ps ++ more).toList)
  | o, x => x = some o
theorem Gr.of {o : HO} {x : Option HO} (h : x = some o) : Gr o x := by
  cases o <;> first | exact h | exact ⟨#[], by rw [h, Array.append_empty], fun z => by rw [Array.append_empty]; exact z⟩
theorem Gr.some {o : HO} {x : Option HO} (h : Gr o x) : ∃ u, x = some u := by
  cases o <;> first | exact ⟨_, h⟩ | (obtain ⟨m, e, _⟩ := h; exact ⟨_, e⟩)
/-- no table -/
def NoTb (o : HO) : Prop := ∀ ps, o ≠ .tbl ps
theorem Gr.at {o : HO} {x : Option HO} (h : Gr o x) (n : NoTb o) : x = Option.some o := by
  cases o <;> first | exact h | exact absurd rfl (n _)
def Ex (H H' : Hp) : Prop := ∀ a o, H a = some o → Gr o (H' a)
theorem Ex.refl (H : Hp) : Ex H H := fun _ _ h => .of h
theorem Ex.trans {H H1 H2 : Hp} (a : Ex H H1) (b : Ex H1 H2) : Ex H H2 := fun x o h => by
  have h1 := a x o h
  cases o <;> first
    | exact b x _ h1
    | (obtain ⟨m, e, t⟩ := h1
       obtain ⟨m2, e2, t2⟩ := b x _ e
       exact ⟨m ++ m2, by rw [e2, Array.append_assoc], fun z => by rw [← Array.append_assoc]; exact t2 (t z)⟩)
theorem Ex.new {H : Hp} {p : Addr} {o : HO} (h : H p = none) : Ex H (upd H p o) := fun a u e => by
  rw [upd_ne (ne_of_none e h)]
  exact .of e
theorem Ex.fresh {H H' : Hp} {p : Addr} (e : Ex H H') (h : H' p = none) : H p = none := by
  cases h1 : H p with
  | none => rfl
  | some o =>
    obtain ⟨u, z⟩ := (e p o h1).some
    rw [h] at z; cases z
theorem Ex.upd2 {G H : Hp} {p : Addr} {o : HO} (e : Ex G H) : Ex (upd G p o) (upd H p o) := fun a u h => by
  by_cases ha : a = p
  · subst ha; rw [upd_same] at h ⊢; exact .of h
  · rw [upd_ne ha] at h ⊢; exact e a u h
theorem Ex.mut {G H : Hp} {p : Addr} {o : HO} (e : Ex G H) (h : G p = none) : Ex G (upd H p o) := fun a u ha => by
  rw [upd_ne (ne_of_none ha h)]
  exact e a u ha
theorem ex_rd {H H' : Hp} {a : Addr} {u : HO} (e : Ex H H') (n : NoTb u) (h : Rd H a u) : Rd H' a u := by
  rcases h with h | ⟨o, h⟩
  · exact Or.inl ((e a _ h).at n)
  · exact Or.inr ⟨o, e a _ h⟩
theorem ex_l {K : Fg} {H H' : Hp} {a : Addr} {xs : List V} (e : Ex H H') (h : SqL K H a xs) : SqL K H' a xs := by
  rcases h with h | h
  · exact Or.inl (ex_rd e (fun _ z => nomatch z) h)
  · exact Or.inr h
theorem ex_t {K : Fg} {H H' : Hp} {a : Addr} {xs : List V} (e : Ex H H') (h : SqT K H a xs) : SqT K H' a xs := by
  rcases h with h | h
  · exact Or.inl (ex_rd e (fun _ z => nomatch z) h)
  · exact Or.inr h
/-! ### data -/
inductive D where
  | non | bl (b : Bool) | int (i : Int) | str (x : Str) | lst (xs : List D) | tup (xs : List D)
  /-- the script: a list that is read alone -/
  | scr (ns : List Int)
  /-- an object, by its address -/
  | ref (a : Addr)
  /-- a built-in class -/
  | ty (n : String)
  /-- an exception of an own class: its class object, its fields and what they hold -/
  | exc (Cl : Addr) (fl : List Str) (ds : List D)
  /-- a list that callees change: a list of data, a number, and n more integers; what the integers are is not told -/
  | hand (ds : List D) (n : Nat)
  /-- a list of n integers, none greater than B in size, that is changed by other names too; which integers is not told -/
  | loose (n B : Nat)
/-- the integers behind a hand's list -/
def handV (dr : Addr) (i : Nat) (js : List Int) : List V := .ref dr :: .int (i : Int) :: js.map V.int
def HandO (p dr : Addr) (n : Nat) : HO := .ext fun h => ∃ (i : Nat) (js : List Int) (its : List Value) (m : Nat), js.length = n ∧ (handV dr i js).length ≤ sizeLine ∧ Vals (handV dr i js) its ∧ h.get? p = some { cls := .type "list", data := .seq its.toArray m }
def LooseO (p : Addr) (n B : Nat) : HO := .ext fun h => ∃ (js : List Int) (its : List Value) (m : Nat), js.length = n ∧ (∀ j ∈ js, j.natAbs ≤ B) ∧ js.length ≤ sizeLine ∧ Vals (js.map V.int) its ∧ h.get? p = some { cls := .type "list", data := .seq its.toArray m }
mutual
inductive Dq (K : Fg) (H : Hp) : V → D → Prop
  | non : Dq K H .non .non
  | bl (b : Bool) : Dq K H (.bl b) (.bl b)
  | int (i : Int) : Dq K H (.int i) (.int i)
  | str (x : Str) : Dq K H (.str x) (.str x)
  | lst {a : Addr} {xs : List V} {ds : List D} : H a = some (.lst xs) → DqAll K H xs ds → Dq K H (.ref a) (.lst ds)
  | tup {a : Addr} {xs : List V} {ds : List D} : SqT K H a xs → DqAll K H xs ds → Dq K H (.ref a) (.tup ds)
  | scr {a : Addr} {ns : List Int} : SqL K H a (ns.map V.int) → Dq K H (.ref a) (.scr ns)
  | ref (a : Addr) : Dq K H (.ref a) (.ref a)
  | ty (n : String) : Dq K H (.ty n) (.ty n)
  | exc {a dd Cl : Addr} {fl : List Str} {vs : List V} {ds : List D} : H a = some (exo a Cl (some dd)) → H dd = some (exd dd (fl.zip vs).reverse) → DqAll K H vs ds → Dq K H (.ref a) (.exc Cl fl ds)
  | hand {a dr : Addr} {xs : List V} {ds : List D} {n : Nat} : H a = some (HandO a dr n) → H dr = some (.lst xs) → DqAll K H xs ds → Dq K H (.ref a) (.hand ds n)
  | loose {a : Addr} {n B : Nat} : H a = some (LooseO a n B) → Dq K H (.ref a) (.loose n B)
inductive DqAll (K : Fg) (H : Hp) : List V → List D → Prop
  | nil : DqAll K H [] []
  | cons {v : V} {vs : List V} {d : D} {ds : List D} : Dq K H v d → DqAll K H vs ds → DqAll K H (v :: vs) (d :: ds)
end
mutual
theorem dq_mono {K : Fg} {H H' : Hp} (e : Ex H H') : ∀ {v : V} {d : D}, Dq K H v d → Dq K H' v d
  | _, _, .non => .non
  | _, _, .bl b => .bl b
  | _, _, .int i => .int i
  | _, _, .str x => .str x
  | _, _, .lst h a => .lst (e _ _ h) (dqAll_mono e a)
  | _, _, .tup h a => .tup (ex_t e h) (dqAll_mono e a)
  | _, _, .scr h => .scr (ex_l e h)
  | _, _, .ref a => .ref a
  | _, _, .ty n => .ty n
  | _, _, .exc h1 h2 a => .exc (e _ _ h1) (e _ _ h2) (dqAll_mono e a)
  | _, _, .hand h1 h2 a => .hand (e _ _ h1) (e _ _ h2) (dqAll_mono e a)
  | _, _, .loose h => .loose (e _ _ h)
theorem dqAll_mono {K : Fg} {H H' : Hp} (e : Ex H H') : ∀ {vs : List V} {ds : List D}, DqAll K H vs ds → DqAll K H' vs ds
  | _, _, .nil => .nil
  | _, _, .cons h a => .cons (dq_mono e h) (dqAll_mono e a)
end
section
variable {K : Fg} {G : Hp}
theorem dq_int {v : V} {i : Int} (h : Dq K G v (.int i)) : v = .int i := by cases h; rfl
theorem dq_bl {v : V} {b : Bool} (h : Dq K G v (.bl b)) : v = .bl b := by cases h; rfl
theorem dq_str {v : V} {x : Str} (h : Dq K G v (.str x)) : v = .str x := by cases h; rfl
theorem dq_non {v : V} (h : Dq K G v .non) : v = .non := by cases h; rfl
theorem dq_ref {v : V} {a : Addr} (h : Dq K G v (.ref a)) : v = .ref a := by cases h; rfl
theorem dq_ty {v : V} {n : String} (h : Dq K G v (.ty n)) : v = .ty n := by cases h; rfl
theorem dq_lst {v : V} {ds : List D} (h : Dq K G v (.lst ds)) : ∃ a vs, v = .ref a ∧ G a = some (.lst vs) ∧ DqAll K G vs ds := by
  cases h with
  | lst h a => exact ⟨_, _, rfl, h, a⟩
theorem dq_tup {v : V} {ds : List D} (h : Dq K G v (.tup ds)) : ∃ a vs, v = .ref a ∧ SqT K G a vs ∧ DqAll K G vs ds := by
  cases h with
  | tup h a => exact ⟨_, _, rfl, h, a⟩
theorem dq_scr {v : V} {ns : List Int} (h : Dq K G v (.scr ns)) : ∃ a, v = .ref a ∧ SqL K G a (ns.map V.int) := by
  cases h with
  | scr h => exact ⟨_, rfl, h⟩
theorem DqAll.length : ∀ {vs : List V} {ds : List D}, DqAll K G vs ds → vs.length = ds.length
  | _, _, .nil => rfl
  | _, _, .cons _ a => congrArg (· + 1) (DqAll.length a)
theorem DqAll.get : ∀ {vs : List V} {ds : List D} {i : Nat} {d : D}, DqAll K G vs ds → ds[i]? = some d → ∃ v, vs[i]? = some v ∧ Dq K G v d
  | _, _, _, _, .nil, e => by simp at e
  | _, _, 0, _, .cons h _, e => by
    simp at e; subst e; exact ⟨_, rfl, h⟩
  | _, _, i + 1, d, .cons _ a, e => by
    obtain ⟨v, h1, h2⟩ := DqAll.get (i := i) (d := d) a (by simpa using e)
    exact ⟨v, by simpa using h1, h2⟩
theorem DqAll.get' : ∀ {vs : List V} {ds : List D} {i : Nat} {v : V}, DqAll K G vs ds → vs[i]? = some v → ∃ d, ds[i]? = some d ∧ Dq K G v d
  | _, _, _, _, .nil, e => by simp at e
  | _, _, 0, _, .cons h _, e => by
    simp at e; subst e; exact ⟨_, rfl, h⟩
  | _, _, i + 1, d, .cons _ a, e => by
    obtain ⟨v, h1, h2⟩ := DqAll.get' (i := i) (v := d) a (by simpa using e)
    exact ⟨v, by simpa using h1, h2⟩
theorem DqAll.append : ∀ {vs ws : List V} {ds es : List D}, DqAll K G vs ds → DqAll K G ws es → DqAll K G (vs ++ ws) (ds ++ es)
  | _, _, _, _, .nil, b => b
  | _, _, _, _, .cons h a, b => .cons h (DqAll.append a b)
theorem DqAll.take : ∀ {vs : List V} {ds : List D} (n : Nat), DqAll K G vs ds → DqAll K G (vs.take n) (ds.take n)
  | _, _, 0, _ => .nil
  | _, _, _ + 1, .nil => .nil
  | _, _, n + 1, .cons h a => .cons h (DqAll.take n a)
theorem DqAll.drop : ∀ {vs : List V} {ds : List D} (n : Nat), DqAll K G vs ds → DqAll K G (vs.drop n) (ds.drop n)
  | _, _, 0, h => h
  | _, _, _ + 1, .nil => .nil
  | _, _, n + 1, .cons _ a => DqAll.drop n a
theorem DqAll.set {v : V} {d : D} (r : Dq K G v d) : ∀ {vs : List V} {ds : List D} (i : Nat), DqAll K G vs ds → DqAll K G (vs.set i v) (ds.set i d)
  | _, _, _, .nil => .nil
  | _, _, 0, .cons _ t => .cons r t
  | _, _, i + 1, .cons q t => .cons q (DqAll.set r i t)
theorem dqAll_ints : ∀ (ns : List Int), DqAll K G (ns.map V.int) (ns.map D.int)
  | [] => .nil
  | n :: r => .cons (.int n) (dqAll_ints r)
theorem dqAll_ints' : ∀ {vs : List V} {ns : List Int}, DqAll K G vs (ns.map D.int) → vs = ns.map V.int
  | [], [], _ => rfl
  | _, _ :: _, .cons h a => by rw [dq_int h, dqAll_ints' a]; rfl
end
/-! ### what a slot holds -/
inductive Loc where
  | any
  | val (d : D)
  | own (ds : List D)
  | own2 (dss : List (List D))
def Own2 (K : Fg) (G H : Hp) : List Addr → List (List D) → Prop
  | [], [] => True
  | q :: qs, ds :: dss => (∃ vs, H q = some (.lst vs) ∧ DqAll K G vs ds) ∧ Own2 K G H qs dss
  | _, _ => False
def LocOk (K : Fg) (G H : Hp) (sv : Option V) : Loc → List Addr → Prop
  | .any, ps => ps = []
  | .val d, ps => ps = [] ∧ ∃ v, sv = some v ∧ Dq K G v d
  | .own ds, ps => ∃ p vs, ps = [p] ∧ sv = some (.ref p) ∧ H p = some (.lst vs) ∧ DqAll K G vs ds
  | .own2 dss, ps => ∃ p qs, ps = p :: qs ∧ sv = some (.ref p) ∧ H p = some (.lst (qs.map V.ref)) ∧ Own2 K G H qs dss
/-- something stands there that is no table -/
def NT (H : Hp) (a : Addr) : Prop := ∃ o, H a = some o ∧ NoTb o
theorem NT.ne {H : Hp} {a : Addr} (h : NT H a) : H a ≠ none := by
  obtain ⟨o, e, _⟩ := h
  rw [e]
  simp
theorem nt_lst {H : Hp} {a : Addr} {xs : List V} (h : H a = some (.lst xs)) : NT H a := ⟨_, h, fun _ z => nomatch z⟩
theorem nt_eq {H H' : Hp} {a : Addr} (h : NT H a) (e : H' a = H a) : NT H' a := by
  obtain ⟨o, e1, n⟩ := h
  exact ⟨o, e.trans e1, n⟩
structure Sat (K : Fg) (F : Addr → Prop) (G H : Hp) (σ : L2.St) (ls : List Loc) : Prop where
  ex : Ex G H
  fo : ∀ a, F a → G a = none ∧ NT H a
  len : σ.length = ls.length
  ow : ∃ ow : Nat → List Addr, (∀ i l, ls[i]? = some l → LocOk K G H (σ.getD i none) l (ow i)) ∧ (∀ i p, p ∈ ow i → G p = none ∧ NT H p ∧ ¬ F p) ∧ (∀ i, (ow i).Nodup) ∧ (∀ i j p, p ∈ ow i → p ∈ ow j → i = j)
theorem own2_mono {K : Fg} {G G' H H' : Hp} (eg : Ex G G') : ∀ {qs : List Addr} {dss : List (List D)}, (∀ q ∈ qs, H' q = H q) → Own2 K G H qs dss → Own2 K G' H' qs dss
  | [], [], _, _ => True.intro
  | q :: qs, ds :: dss, e, ⟨⟨vs, h1, h2⟩, h3⟩ => ⟨⟨vs, by rw [e q List.mem_cons_self]; exact h1, dqAll_mono eg h2⟩, own2_mono eg (fun r hr => e r (List.mem_cons_of_mem _ hr)) h3⟩
theorem locOk_mono {K : Fg} {G G' H H' : Hp} {sv : Option V} {l : Loc} {ps : List Addr} (eg : Ex G G') (e : ∀ p ∈ ps, H' p = H p) (h : LocOk K G H sv l ps) : LocOk K G' H' sv l ps := by
  cases l with
  | any => exact h
  | val d => obtain ⟨h1, v, h2, h3⟩ := h; exact ⟨h1, v, h2, dq_mono eg h3⟩
  | own ds =>
    obtain ⟨p, vs, rfl, h2, h3, h4⟩ := h
    exact ⟨p, vs, rfl, h2, by rw [e p List.mem_cons_self]; exact h3, dqAll_mono eg h4⟩
  | own2 dss =>
    obtain ⟨p, qs, rfl, h2, h3, h4⟩ := h
    exact ⟨p, qs, rfl, h2, by rw [e p List.mem_cons_self]; exact h3, own2_mono eg (fun q hq => e q (List.mem_cons_of_mem _ hq)) h4⟩
theorem ex_eq {H H' : Hp} {p : Addr} (e : Ex H H') (h : NT H p) : H' p = H p := by
  obtain ⟨o, q, n⟩ := h
  rw [q]
  exact (e p o q).at n
theorem ex_nt {H H' : Hp} {p : Addr} (e : Ex H H') (h : NT H p) : NT H' p := nt_eq h (ex_eq e h)
section
variable {K : Fg} {F F' : Addr → Prop} {G G' H H' : Hp} {σ : L2.St} {ls : List Loc}
theorem Sat.grow (S : Sat K F G H σ ls) (eg : Ex G G') (eh : Ex H H') (e : Ex G' H') (n : ∀ a, G' a ≠ none → G a ≠ none ∨ ¬ NT H a) : Sat K F G' H' σ ls := by
  obtain ⟨ow, h1, h2, h3, h4⟩ := S.ow
  have nn : ∀ a, G a = none → NT H a → G' a = none := fun a g h => by
    cases q : G' a with
    | none => rfl
    | some o =>
      rcases n a (by rw [q]; simp) with z | z
      · exact absurd g z
      · exact absurd h z
  refine ⟨e, fun a fa => ?_, S.len, ow, fun i l hl => locOk_mono eg (fun p hp => ex_eq eh (h2 i p hp).2.1) (h1 i l hl), fun i p hp => ?_, h3, h4⟩
  · obtain ⟨g, h⟩ := S.fo a fa
    exact ⟨nn a g h, ex_nt eh h⟩
  · obtain ⟨g, h, f⟩ := h2 i p hp
    exact ⟨nn p g h, ex_nt eh h, f⟩
/-- a new object, frozen -/
theorem Sat.made (S : Sat K F G H σ ls) {p : Addr} {o : HO} (h : H p = none) : Sat K F (upd G p o) (upd H p o) σ ls :=
  S.grow (Ex.new (S.ex.fresh h)) (Ex.new h) S.ex.upd2 fun a ha => by
    by_cases hp : a = p
    · subst hp; exact Or.inr fun z => z.ne h
    · rw [upd_ne hp] at ha; exact Or.inl ha
theorem Sat.sub (S : Sat K F G H σ ls) (h : ∀ a, F' a → F a) : Sat K F' G H σ ls := by
  obtain ⟨ow, h1, h2, h3, h4⟩ := S.ow
  exact ⟨S.ex, fun a fa => S.fo a (h a fa), S.len, ow, h1, fun i p hp => ⟨(h2 i p hp).1, (h2 i p hp).2.1, fun z => (h2 i p hp).2.2 (h p z)⟩, h3, h4⟩
/-- a new list, of nobody yet -/
theorem Sat.madeF (S : Sat K F G H σ ls) {p : Addr} {o : HO} (h : H p = none) (nt : NoTb o := by intro _ z; cases z) : Sat K (fun a => F a ∨ a = p) G (upd H p o) σ ls := by
  obtain ⟨ow, h1, h2, h3, h4⟩ := S.ow
  have eh : Ex H (upd H p o) := Ex.new h
  refine ⟨S.ex.trans eh, fun a fa => ?_, S.len, ow, fun i l hl => locOk_mono (Ex.refl G) (fun p hp => ex_eq eh (h2 i p hp).2.1) (h1 i l hl), fun i q hq => ?_, h3, h4⟩
  · rcases fa with fa | fa
    · obtain ⟨g, k⟩ := S.fo a fa
      exact ⟨g, ex_nt eh k⟩
    · subst fa
      exact ⟨S.ex.fresh h, ⟨o, upd_same, nt⟩⟩
  · obtain ⟨g, k, f⟩ := h2 i q hq
    refine ⟨g, ex_nt eh k, fun z => ?_⟩
    rcases z with z | z
    · exact f z
    · subst z; exact k.ne h
/-- a list of nobody, frozen -/
theorem Sat.freeze {p : Addr} (S : Sat K (fun a => F a ∨ a = p) G H σ ls) (nf : ¬ F p) {o : HO} (h : H p = some o) : Sat K F (upd G p o) H σ ls := by
  obtain ⟨ow, h1, h2, h3, h4⟩ := S.ow
  have gp : G p = none := (S.fo p (Or.inr rfl)).1
  have eg : Ex G (upd G p o) := Ex.new gp
  refine ⟨fun a u ha => ?_, fun a fa => ?_, S.len, ow, fun i l hl => locOk_mono eg (fun _ _ => rfl) (h1 i l hl), fun i q hq => ?_, h3, h4⟩
  · by_cases hp : a = p
    · subst hp; rw [upd_same] at ha; exact .of (h.trans ha)
    · rw [upd_ne hp] at ha; exact S.ex a u ha
  · have ne : a ≠ p := fun z => nf (z ▸ fa)
    rw [upd_ne ne]
    exact S.fo a (Or.inl fa)
  · obtain ⟨g, k, f⟩ := h2 i q hq
    have ne : q ≠ p := fun z => f (Or.inr z)
    rw [upd_ne ne]
    exact ⟨g, k, fun z => f (Or.inl z)⟩
theorem getD_set_self {σ : L2.St} {i : Nat} {x : Option V} (h : i < σ.length) : (σ.set i x).getD i none = x := by
  rw [List.getD_eq_getElem?_getD, List.getElem?_set_self h]; rfl
theorem getD_set_ne {σ : L2.St} {i j : Nat} {x : Option V} (h : j ≠ i) : (σ.set i x).getD j none = σ.getD j none := by
  rw [List.getD_eq_getElem?_getD, List.getElem?_set_ne (Ne.symm h), List.getD_eq_getElem?_getD]
end
def owSet (ow : Nat → List Addr) (i : Nat) (ps : List Addr) : Nat → List Addr := fun j => if j = i then ps else ow j
theorem owSet_same {ow : Nat → List Addr} {i : Nat} {ps : List Addr} : owSet ow i ps i = ps := if_pos rfl
theorem owSet_ne {ow : Nat → List Addr} {i j : Nat} {ps : List Addr} (h : j ≠ i) : owSet ow i ps j = ow j := if_neg h
/-- a slot gets another content, the heaps as they are -/
theorem sat_repl {K : Fg} {F F1 : Addr → Prop} {G H : Hp} {σ : L2.St} {ls : List Loc} {i : Nat} {x : Option V} {l : Loc} {ps : List Addr} (S : Sat K F1 G H σ ls) (hF : ∀ a, F a → F1 a) (ok : LocOk K G H x l ps)
    (hp : ∀ p ∈ ps, G p = none ∧ NT H p ∧ ¬ F p) (nd : ps.Nodup) (dj : ∀ p ∈ ps, F1 p) : Sat K F G H (σ.set i x) (ls.set i l) := by
  obtain ⟨ow, h1, h2, h3, h4⟩ := S.ow
  have np : ∀ p ∈ ps, ∀ j, p ∉ ow j := fun p hp' j z => (h2 j p z).2.2 (dj p hp')
  refine ⟨S.ex, fun a fa => S.fo a (hF a fa), by rw [List.length_set, List.length_set]; exact S.len, owSet ow i ps, fun j m hl => ?_, fun j q hq => ?_, fun j => ?_, fun j k q hj hk => ?_⟩
  · by_cases hj : j = i
    · subst hj
      have hlt : j < ls.length := by
        have := (List.getElem?_eq_some_iff.mp hl).1
        rwa [List.length_set] at this
      rw [List.getElem?_set_self hlt] at hl
      cases hl
      rw [owSet_same, getD_set_self (by rw [S.len]; exact hlt)]
      exact ok
    · rw [List.getElem?_set_ne (Ne.symm hj)] at hl
      rw [owSet_ne hj, getD_set_ne hj]
      exact h1 j m hl
  · by_cases hj : j = i
    · subst hj; rw [owSet_same] at hq; exact hp q hq
    · rw [owSet_ne hj] at hq
      exact ⟨(h2 j q hq).1, (h2 j q hq).2.1, fun z => (h2 j q hq).2.2 (hF q z)⟩
  · by_cases hj : j = i
    · subst hj; rw [owSet_same]; exact nd
    · rw [owSet_ne hj]; exact h3 j
  · by_cases ej : j = i
    · by_cases ek : k = i
      · rw [ej, ek]
      · subst ej; rw [owSet_same] at hj; rw [owSet_ne ek] at hk; exact absurd hk (np q hj k)
    · by_cases ek : k = i
      · subst ek; rw [owSet_same] at hk; rw [owSet_ne ej] at hj; exact absurd hj (np q hk j)
      · rw [owSet_ne ej] at hj; rw [owSet_ne ek] at hk; exact h4 j k q hj hk
section
variable {K : Fg} {F F' : Addr → Prop} {G G' H H' : Hp} {σ : L2.St} {ls : List Loc} {p : Addr}
/-- a slot is stored: frozen data -/
theorem Sat.setV (S : Sat K F G H σ ls) {i : Nat} {v : V} {d : D} (hv : Dq K G v d) : Sat K F G H (σ.set i (some v)) (ls.set i (.val d)) :=
  sat_repl (ps := []) S (fun _ h => h) ⟨rfl, v, rfl, hv⟩ (fun _ h => nomatch h) List.nodup_nil (fun _ h => nomatch h)
/-- a slot is stored: a list of nobody becomes its own -/
theorem Sat.setN (S : Sat K (fun a => F a ∨ a = p) G H σ ls) (nf : ¬ F p) {i : Nat} {vs : List V} {ds : List D} (h : H p = some (.lst vs)) (hv : DqAll K G vs ds) : Sat K F G H (σ.set i (some (.ref p))) (ls.set i (.own ds)) :=
  sat_repl (ps := [p]) S (fun _ h => Or.inl h) ⟨p, vs, rfl, rfl, h, hv⟩ (fun q hq => by
    obtain rfl := List.mem_singleton.mp hq
    exact ⟨(S.fo q (Or.inr rfl)).1, nt_lst h, nf⟩) (by simp) (fun q hq => Or.inr (List.mem_singleton.mp hq))
/-- a slot forgotten -/
theorem Sat.forget (S : Sat K F G H σ ls) {i : Nat} (x : Option V) : Sat K F G H (σ.set i x) (ls.set i .any) :=
  sat_repl (ps := []) S (fun _ h => h) rfl (fun _ h => nomatch h) List.nodup_nil (fun _ h => nomatch h)
theorem Sat.var (S : Sat K F G H σ ls) {i : Nat} {d : D} (h : ls[i]? = some (.val d)) : ∃ v, σ[i]? = some (some v) ∧ Dq K G v d := by
  obtain ⟨ow, h1, _⟩ := S.ow
  obtain ⟨_, v, e, hv⟩ := h1 i _ h
  refine ⟨v, ?_, hv⟩
  rw [List.getD_eq_getElem?_getD] at e
  cases q : σ[i]? with
  | none => rw [q] at e; cases e
  | some x => rw [q] at e; exact congrArg some e
theorem Sat.ownAt (S : Sat K F G H σ ls) {i : Nat} {ds : List D} (h : ls[i]? = some (.own ds)) : ∃ p vs, σ[i]? = some (some (V.ref p)) ∧ H p = some (.lst vs) ∧ DqAll K G vs ds ∧ G p = none ∧ ¬ F p := by
  obtain ⟨ow, h1, h2, _⟩ := S.ow
  obtain ⟨p, vs, e0, e, h3, hv⟩ := h1 i _ h
  refine ⟨p, vs, ?_, h3, hv, (h2 i p (by rw [e0]; exact List.mem_cons_self)).1, (h2 i p (by rw [e0]; exact List.mem_cons_self)).2.2⟩
  rw [List.getD_eq_getElem?_getD] at e
  cases q : σ[i]? with
  | none => rw [q] at e; cases e
  | some x => rw [q] at e; exact congrArg some e
/-- an own list changes -/
theorem Sat.mut (S : Sat K F G H σ ls) {i : Nat} {ds : List D} {ws : List V} {es : List D} (h : ls[i]? = some (.own ds)) (hp : σ[i]? = some (some (V.ref p))) (hw : DqAll K G ws es) :
    Sat K F G (upd H p (.lst ws)) σ (ls.set i (.own es)) := by
  obtain ⟨ow, h1, h2, h3, h4⟩ := S.ow
  have hi := h1 i _ h
  obtain ⟨p', vs, e0, e, hh, hv⟩ := hi
  have ep : p' = p := by
    rw [List.getD_eq_getElem?_getD, hp] at e
    cases e; rfl
  subst ep
  have pi : p' ∈ ow i := by rw [e0]; exact List.mem_cons_self
  obtain ⟨gp, hn, nf⟩ := h2 i p' pi
  refine ⟨S.ex.mut gp, fun a fa => ?_, by rw [List.length_set]; exact S.len, ow, fun j l hl => ?_, fun j q hq => ?_, h3, h4⟩
  · have ne : a ≠ p' := fun z => nf (z ▸ fa)
    exact ⟨(S.fo a fa).1, nt_eq (S.fo a fa).2 (upd_ne ne)⟩
  · by_cases hj : j = i
    · subst hj
      have hlt : j < ls.length := (List.getElem?_eq_some_iff.mp h).1
      rw [List.getElem?_set_self hlt] at hl
      cases hl
      exact ⟨p', ws, e0, e, upd_same, hw⟩
    · rw [List.getElem?_set_ne (Ne.symm hj)] at hl
      refine locOk_mono (Ex.refl G) (fun q hq => upd_ne fun z => hj (h4 j i p' (z ▸ hq) pi)) (h1 j l hl)
  · obtain ⟨a, b, c⟩ := h2 j q hq
    refine ⟨a, ?_, c⟩
    by_cases hz : q = p'
    · rw [hz]; exact nt_lst upd_same
    · exact nt_eq b (upd_ne hz)
/-- an own list becomes frozen -/
theorem Sat.thaw (S : Sat K F G H σ ls) {i : Nat} {ds : List D} (h : ls[i]? = some (.own ds)) : ∃ G', Ex G G' ∧ (∀ a, F a → G' a = none) ∧ Sat K F G' H σ (ls.set i (.val (.lst ds))) := by
  obtain ⟨p, vs, e1, e2, e3, e4, e5⟩ := S.ownAt h
  obtain ⟨ow, h1, h2, h3, h4⟩ := S.ow
  obtain ⟨p', vs', e0, e, hh, hv⟩ := h1 i _ h
  have ep : p' = p := by
    rw [List.getD_eq_getElem?_getD, e1] at e
    cases e; rfl
  subst ep
  have pi : p' ∈ ow i := by rw [e0]; exact List.mem_cons_self
  have eg : Ex G (upd G p' (.lst vs)) := Ex.new e4
  have fg : ∀ a, F a → upd G p' (.lst vs) a = none := fun a fa => by
    have ne : a ≠ p' := fun z => e5 (z ▸ fa)
    rw [upd_ne ne]; exact (S.fo a fa).1
  refine ⟨upd G p' (.lst vs), eg, fg, fun a u ha => ?_, fun a fa => ⟨fg a fa, (S.fo a fa).2⟩, by rw [List.length_set]; exact S.len, owSet ow i [], fun j l hl => ?_, fun j q hq => ?_, fun j => ?_, fun j k q hj hk => ?_⟩
  · by_cases hp : a = p'
    · subst hp; rw [upd_same] at ha; exact .of (e2.trans ha)
    · rw [upd_ne hp] at ha; exact S.ex a u ha
  · by_cases hj : j = i
    · subst hj
      have hlt : j < ls.length := (List.getElem?_eq_some_iff.mp h).1
      rw [List.getElem?_set_self hlt] at hl
      cases hl
      rw [owSet_same]
      exact ⟨rfl, .ref p', e, .lst upd_same (dqAll_mono eg e3)⟩
    · rw [List.getElem?_set_ne (Ne.symm hj)] at hl
      rw [owSet_ne hj]
      exact locOk_mono eg (fun _ _ => rfl) (h1 j l hl)
  · by_cases hj : j = i
    · subst hj; rw [owSet_same] at hq; cases hq
    · rw [owSet_ne hj] at hq
      obtain ⟨a, b, c⟩ := h2 j q hq
      have ne : q ≠ p' := fun z => hj (h4 j i p' (z ▸ hq) pi)
      rw [upd_ne ne]
      exact ⟨a, b, c⟩
  · by_cases hj : j = i
    · subst hj; rw [owSet_same]; exact List.nodup_nil
    · rw [owSet_ne hj]; exact h3 j
  · by_cases ej : j = i
    · subst ej; rw [owSet_same] at hj; cases hj
    · by_cases ek : k = i
      · subst ek; rw [owSet_same] at hk; cases hk
      · rw [owSet_ne ej] at hj; rw [owSet_ne ek] at hk; exact h4 j k q hj hk
end
/-! ### exceptions -/
/-- an exception's fields as data -/
inductive FsOk (K : Fg) (G : Hp) : List (Str × V) → List (Str × D) → Prop
  | nil : FsOk K G [] []
  | cons {f : Str} {v : V} {d : D} {fs : List (Str × V)} {gs : List (Str × D)} : Dq K G v d → FsOk K G fs gs → FsOk K G ((f, v) :: fs) ((f, d) :: gs)
theorem fs_mono {K : Fg} {G G' : Hp} (e : Ex G G') : ∀ {fs : List (Str × V)} {gs : List (Str × D)}, FsOk K G fs gs → FsOk K G' fs gs
  | _, _, .nil => .nil
  | _, _, .cons h r => .cons (dq_mono e h) (fs_mono e r)
theorem fs_get {K : Fg} {G : Hp} {f : Str} {d : D} : ∀ {fs : List (Str × V)} {gs : List (Str × D)}, FsOk K G fs gs → gs.lookup f = some d → ∃ v, fs.lookup f = some v ∧ Dq K G v d
  | _, _, .nil, h => by cases h
  | _, _, .cons (f := f') (v := v) (d := d') h r, e => by
    rw [List.lookup_cons] at e ⊢
    cases q : f == f' with
    | true => rw [q] at e; cases e; exact ⟨v, rfl, h⟩
    | false => rw [q] at e; exact fs_get r e
/-- what is wanted of an exception: W at the slots, where xp lets it -/
structure Xw where
  W : WX
  xp : List Loc → Addr → List (Str × D) → Prop
  /-- the code objects' tables that may grow -/
  T : Addr → Prop
  /-- exceptions' dicts that are known, their fields as data -/
  dx : List (Addr × List (Str × D))
/-- a code object's table stands at P -/
def TabAt (G : Hp) (P : Addr) : Prop := ∃ ps, G P = some (.tbl ps) ∧ TriplesOk ps.toList
theorem TabAt.mono {G H : Hp} {P : Addr} (e : Ex G H) (h : TabAt G P) : TabAt H P := by
  obtain ⟨ps, h1, h2⟩ := h
  obtain ⟨m, h3, h4⟩ := e P _ h1
  exact ⟨_, h3, h4 h2⟩
/-- an exception's dict stands at a -/
def XdAt (K : Fg) (G : Hp) (a : Addr) (gs : List (Str × D)) : Prop := ∃ fs, G a = some (.xd fs) ∧ FsOk K G fs gs
theorem XdAt.mono {K : Fg} {G H : Hp} {a : Addr} {gs : List (Str × D)} (e : Ex G H) (h : XdAt K G a gs) : XdAt K H a gs := by
  obtain ⟨fs, h1, h2⟩ := h
  exact ⟨fs, e a _ h1, fs_mono e h2⟩
structure Xok (K : Fg) (E : Xw) (F : Addr → Prop) (G H : Hp) (σ : L2.St) (ls : List Loc) : Prop where
  tb : ∀ P, E.T P → TabAt G P
  dx : ∀ p ∈ E.dx, XdAt K G p.1 p.2
  ex : ∀ G' H' C dd fs gs, Ex G G' → Ex H H' → Sat K F G' H' σ ls → G' dd = some (.xd fs) → FsOk K G' fs gs → E.xp ls C gs → E.W (.ref C) (some dd) σ H'
theorem Xok.step {K : Fg} {E : Xw} {F : Addr → Prop} {G H G1 H1 : Hp} {σ : L2.St} {ls : List Loc} (x : Xok K E F G H σ ls) (eg : Ex G G1) (eh : Ex H H1) : Xok K E F G1 H1 σ ls := ⟨fun P h => (x.tb P h).mono eg, fun p h => (x.dx p h).mono eg, fun G' H' C dd fs gs e1 e2 => x.ex G' H' C dd fs gs (eg.trans e1) (eh.trans e2)⟩
/-- nothing is raised -/
def noX (T : Addr → Prop := fun _ => False) : Xw := ⟨fun _ _ _ _ => False, fun _ _ _ => False, T, []⟩
theorem xok_no {K : Fg} {T : Addr → Prop} {F : Addr → Prop} {G H : Hp} {σ : L2.St} {ls : List Loc} (h : ∀ P, T P → TabAt G P) : Xok K (noX T) F G H σ ls := ⟨h, fun _ z => (List.not_mem_nil z).elim, fun _ _ _ _ _ _ _ _ _ _ _ z => z.elim⟩
end Qp

/-! Q2: the judgements over data. -/
namespace Qp
open PySem PySem.Spec PyProof.Rows L2
theorem takesN {X : Cx} : L2N.Takes X (fun _ _ _ _ => False) := fun _ _ x => by
  obtain ⟨_, _, _, _, _, _, _, _, _, _, _, _, _, _, _, _, z⟩ := x
  exact z.elim
/-- a family of contexts of one text (a def's body; a comprehension's blocks) -/
structure Cs where
  ι : Type
  X : ι → Cx
  P : Program
  w : World
  K : Fg
  mg : Str → Option Value
  base : Heap
  N : List Str
  k : Nat
  hP : ∀ i, (X i).prog = P
  hw : ∀ i, (X i).w = w
  hK : ∀ i, (X i).K = K
  hmg : ∀ i, (X i).mg = mg
  hbase : ∀ i, (X i).base = base
  hN : ∀ i, (X i).N = N
  nd : N.Nodup
  /-- within the suite of an except -/
  hot : Bool := false
  calm : ∀ i, hot = false → (X i).calm = true
  cold : ∀ i, hot = false → Room k (X i).A
  hotc : ∀ i, hot = true → L2H.HotC (X i) ∧ L2H.RoomH k (X i).A
  E : Xw
  takes : ∀ i, L2N.Takes (X i) E.W
/-- not within the suite of an except -/
class Cold (C : Cs) : Prop where
  h : C.hot = false
theorem Cs.hu (C : Cs) (i : C.ι) : (C.X i).A.units + 64 < cLine := by
  cases h : C.hot with
  | false => exact (C.cold i h).units
  | true =>
    have := (C.hotc i h).2.un
    omega
/-! ### what evaluates to what -/
def Ev (K : Fg) (E : Xw) (te : TE) (ls : List Loc) (d : D) : Prop := ∀ F G H σ, Sat K F G H σ ls → Xok K E F G H σ ls → ∀ Q : VK, (∀ v G' H', Ex G G' → Ex H H' → Sat K F G' H' σ ls → Dq K G' v d → Q v H') → te σ H Q
/-- a new list of nobody -/
def EvN (K : Fg) (E : Xw) (te : TE) (ls : List Loc) (ds : List D) : Prop := ∀ F G H σ, Sat K F G H σ ls → Xok K E F G H σ ls → ∀ Q : VK, (∀ p vs G' H', Ex G G' → Ex H H' → ¬ F p → Sat K (fun a => F a ∨ a = p) G' H' σ ls → H' p = some (.lst vs) → DqAll K G' vs ds → Q (.ref p) H') → te σ H Q
/-- a list as it stands -/
def EvC (K : Fg) (E : Xw) (te : TE) (ls : List Loc) (ds : List D) : Prop := ∀ F G H σ, Sat K F G H σ ls → Xok K E F G H σ ls → ∀ Q : VK, (∀ p vs G' H', Ex G G' → Ex H H' → Sat K F G' H' σ ls → H' p = some (.lst vs) → DqAll K G' vs ds → Q (.ref p) H') → te σ H Q
def EvT (K : Fg) (E : Xw) (tt : TT) (ls : List Loc) (b : Bool) : Prop := ∀ F G H σ, Sat K F G H σ ls → Xok K E F G H σ ls → ∀ Q : Bool → Hp → Prop, (∀ G' H', Ex G G' → Ex H H' → Sat K F G' H' σ ls → Q b H') → tt σ H Q
def EvA (K : Fg) (E : Xw) (ta : TA) (ls : List Loc) (ds : List D) : Prop := ∀ F G H σ, Sat K F G H σ ls → Xok K E F G H σ ls → ∀ Q : List V → Hp → Prop, (∀ vs G' H', Ex G G' → Ex H H' → Sat K F G' H' σ ls → DqAll K G' vs ds → Q vs H') → ta σ H Q
section
variable {K : Fg} {E : Xw} {ls : List Loc} {ta tb te : TE} {d d1 d2 : D} {ds es : List D}
theorem ev_of_new (h : EvN K E te ls ds) : Ev K E te ls (.lst ds) := fun F G H σ S xx Q q => h F G H σ S xx Q fun p vs G' H' eg eh nf S' hp hv => by
  have gp : G' p = none := (S'.fo p (Or.inr rfl)).1
  exact q _ (upd G' p (.lst vs)) H' (eg.trans (Ex.new gp)) eh (S'.freeze nf hp) (.lst upd_same (dqAll_mono (Ex.new gp) hv))
theorem evC_of_new (h : EvN K E te ls ds) : EvC K E te ls ds := fun F G H σ S xx Q q => h F G H σ S xx Q fun p vs G' H' eg eh nf S' hp hv => q p vs G' H' eg eh (S'.sub fun a fa => Or.inl fa) hp hv
theorem evC_of (h : Ev K E te ls (.lst ds)) : EvC K E te ls ds := fun F G H σ S xx Q q => h F G H σ S xx Q fun v G' H' eg eh S' hv => by
  obtain ⟨a, vs, rfl, ha, hd⟩ := dq_lst hv
  exact q a vs G' H' eg eh S' (S'.ex a _ ha) hd
theorem ev_var {i : Nat} (h : ls[i]? = some (.val d)) : Ev K E (tVar i) ls d := fun F G H σ S xx Q q => by
  obtain ⟨v, e, hv⟩ := S.var h
  exact ⟨v, e, q v G H (Ex.refl G) (Ex.refl H) S hv⟩
theorem evC_own {i : Nat} (h : ls[i]? = some (.own ds)) : EvC K E (tVar i) ls ds := fun F G H σ S xx Q q => by
  obtain ⟨p, vs, e, hp, hv, _, _⟩ := S.ownAt h
  exact ⟨_, e, q p vs G H (Ex.refl G) (Ex.refl H) S hp hv⟩
theorem ev_c {v : V} (h : ∀ G, Dq K G v d) : Ev K E (tC v) ls d := fun F G H σ S xx Q q => q v G H (Ex.refl G) (Ex.refl H) S (h G)
/-- a two-place operation on data that lays nothing -/
theorem ev_op {r : R2} (ha : Ev K E ta ls d1) (hb : Ev K E tb ls d2) (hr : ∀ G H x y Q, Ex G H → Dq K G x d1 → Dq K G y d2 → (∀ z, Dq K G z d → Q z H) → r x y H Q) : Ev K E (tOp r ta tb) ls d := fun F G H σ S xx Q q =>
  ha F G H σ S xx _ fun x G1 H1 eg1 eh1 S1 hx => hb F G1 H1 σ S1 (xx.step eg1 eh1) _ fun y G2 H2 eg2 eh2 S2 hy => hr G2 H2 x y Q S2.ex (dq_mono eg2 hx) hy fun z hz => q z G2 H2 (eg1.trans eg2) (eh1.trans eh2) S2 hz
theorem ev_un {r : V → Hp → VK → Prop} (ha : Ev K E ta ls d1) (hr : ∀ G H x Q, Ex G H → Dq K G x d1 → (∀ z, Dq K G z d → Q z H) → r x H Q) : Ev K E (tUn r ta) ls d := fun F G H σ S xx Q q =>
  ha F G H σ S xx _ fun x G1 H1 eg1 eh1 S1 hx => hr G1 H1 x Q S1.ex hx fun z hz => q z G1 H1 eg1 eh1 S1 hz
theorem evA_nil : EvA K E tNil ls [] := fun F G H σ S xx Q q => q [] G H (Ex.refl G) (Ex.refl H) S .nil
theorem evA_cons {t : TA} (ha : Ev K E te ls d) (ht : EvA K E t ls ds) : EvA K E (tCons te t) ls (d :: ds) := fun F G H σ S xx Q q =>
  ha F G H σ S xx _ fun x G1 H1 eg1 eh1 S1 hx => ht F G1 H1 σ S1 (xx.step eg1 eh1) _ fun vs G2 H2 eg2 eh2 S2 hv => q (x :: vs) G2 H2 (eg1.trans eg2) (eh1.trans eh2) S2 (.cons (dq_mono eg2 hx) hv)
/-- a built-in's call on data that lays nothing -/
theorem ev_cb {r : List V → Hp → VK → Prop} {t : TA} (ha : EvA K E t ls ds) (hr : ∀ G H vs Q, Ex G H → DqAll K G vs ds → (∀ z, Dq K G z d → Q z H) → r vs H Q) : Ev K E (tCB r t) ls d := fun F G H σ S xx Q q =>
  ha F G H σ S xx _ fun vs G1 H1 eg1 eh1 S1 hv => hr G1 H1 vs Q S1.ex hv fun z hz => q z G1 H1 eg1 eh1 S1 hz
theorem ev_is {d' : D} (h : Ev K E te ls d) (e : d = d') : Ev K E te ls d' := e ▸ h
/-- a new list is laid -/
theorem evN_lay {F : Addr → Prop} {G H : Hp} {σ : L2.St} {Q : VK} {vs : List V} (S : Sat K F G H σ ls) (hv : DqAll K G vs ds) (q : ∀ p vs G' H', Ex G G' → Ex H H' → ¬ F p → Sat K (fun a => F a ∨ a = p) G' H' σ ls → H' p = some (.lst vs) → DqAll K G' vs ds → Q (.ref p) H') :
    ∀ p, H p = none → Q (.ref p) (upd H p (.lst vs)) := fun p hp =>
  q p vs G (upd H p (.lst vs)) (Ex.refl G) (Ex.new hp) (fun z => (S.fo p z).2.ne hp) (S.madeF hp) upd_same hv
theorem ev_lay {F : Addr → Prop} {G H : Hp} {σ : L2.St} {Q : VK} {vs : List V} (S : Sat K F G H σ ls) (hv : DqAll K G vs ds) (q : ∀ v G' H', Ex G G' → Ex H H' → Sat K F G' H' σ ls → Dq K G' v (.tup ds) → Q v H') :
    ∀ p, H p = none → Q (.ref p) (upd H p (.tup vs)) := fun p hp => by
  have g := S.ex.fresh hp
  exact q _ (upd G p (.tup vs)) _ (Ex.new g) (Ex.new hp) (S.made hp) (.tup (SqT.of upd_same) (dqAll_mono (Ex.new g) hv))
end
/-! ### expressions -/
def eAny (C : Cs) (e : Expr) : TE := fun σ H Q => ∃ t : TE, (∀ i, PE (C.X i) e t) ∧ t σ H Q
theorem pe_any (C : Cs) (e : Expr) (i : C.ι) : PE (C.X i) e (eAny C e) := ⟨fun pins s σ H Q I h => by
  obtain ⟨t, ht, q⟩ := h
  exact (ht i).run pins s σ H Q I q⟩
def tAny (C : Cs) (e : Expr) : TT := fun σ H Q => ∃ t : TT, (∀ i, PT (C.X i) e t) ∧ t σ H Q
theorem pt_any (C : Cs) (e : Expr) (i : C.ι) : PT (C.X i) e (tAny C e) := ⟨fun pins s σ H Q I h => by
  obtain ⟨t, ht, q⟩ := h
  exact (ht i).run pins s σ H Q I q⟩
def aAny (C : Cs) (es : List Expr) : TA := fun σ H Q => ∃ t : TA, (∀ i, PA (C.X i) es t) ∧ t σ H Q
theorem pa_any (C : Cs) (es : List Expr) (i : C.ι) : PA (C.X i) es (aAny C es) := ⟨fun pos pins s σ H Q I h => by
  obtain ⟨t, ht, q⟩ := h
  exact (ht i).run pos pins s σ H Q I q⟩
def JE (C : Cs) (ls : List Loc) (e : Expr) (d : D) : Prop := Ev C.K C.E (eAny C e) ls d
def JN (C : Cs) (ls : List Loc) (e : Expr) (ds : List D) : Prop := EvN C.K C.E (eAny C e) ls ds
def JC (C : Cs) (ls : List Loc) (e : Expr) (ds : List D) : Prop := EvC C.K C.E (eAny C e) ls ds
def JT (C : Cs) (ls : List Loc) (e : Expr) (b : Bool) : Prop := EvT C.K C.E (tAny C e) ls b
/-- no star -/
def NS (e : Expr) : Prop := ∀ (rest : List Expr) (env : Env), starEach (e :: rest) env = (false, eval e env) :: starEach rest env
theorem ns_any : ∀ {es : List Expr} (h : ∀ e ∈ es, NS e) (env : Env) (pos : Pos), (backTo pos (starEach es env)).any (·.1) = false
  | [], _, _, _ => rfl
  | e :: r, h, env, pos => by
    have ih := ns_any (es := r) (fun x hx => h x (List.mem_cons_of_mem _ hx)) env pos
    rw [h e List.mem_cons_self r env]
    show (false || (backTo pos (starEach r env)).any (·.1)) = false
    rw [ih]
    rfl
structure JA (C : Cs) (ls : List Loc) (es : List Expr) (ds : List D) : Prop where
  ns : ∀ e ∈ es, NS e
  ev : EvA C.K C.E (aAny C es) ls ds
section
variable {C : Cs} {ls : List Loc} {e a b c : Expr} {d d1 d2 : D} {ds es : List D} {t : TE} {pos pos' : Pos}
theorem je_of (h : ∀ i, PE (C.X i) e t) (ev : Ev C.K C.E t ls d) : JE C ls e d := fun F G H σ S xx Q q => ⟨t, h, ev F G H σ S xx Q q⟩
theorem jn_of (h : ∀ i, PE (C.X i) e t) (ev : EvN C.K C.E t ls ds) : JN C ls e ds := fun F G H σ S xx Q q => ⟨t, h, ev F G H σ S xx Q q⟩
theorem jc_of (h : ∀ i, PE (C.X i) e t) (ev : EvC C.K C.E t ls ds) : JC C ls e ds := fun F G H σ S xx Q q => ⟨t, h, ev F G H σ S xx Q q⟩
theorem jt_of {t : TT} {k : Bool} (h : ∀ i, PT (C.X i) e t) (ev : EvT C.K C.E t ls k) : JT C ls e k := fun F G H σ S xx Q q => ⟨t, h, ev F G H σ S xx Q q⟩
theorem ja_of {t : TA} {xs : List Expr} (ns : ∀ e ∈ xs, NS e) (h : ∀ i, PA (C.X i) xs t) (ev : EvA C.K C.E t ls ds) : JA C ls xs ds := ⟨ns, fun F G H σ S xx Q q => ⟨t, h, ev F G H σ S xx Q q⟩⟩
theorem JE.new (h : JN C ls e ds) : JE C ls e (.lst ds) := ev_of_new h
theorem JC.new (h : JN C ls e ds) : JC C ls e ds := evC_of_new h
theorem JC.je (h : JE C ls e (.lst ds)) : JC C ls e ds := evC_of h
theorem JE.is {d' : D} (h : JE C ls e d) (e' : d = d') : JE C ls e d' := e' ▸ h
theorem JT.is {k k' : Bool} (h : JT C ls e k) (e' : k = k') : JT C ls e k' := e' ▸ h
theorem JN.is {ds' : List D} (h : JN C ls e ds) (e' : ds = ds') : JN C ls e ds' := e' ▸ h
/-! names, constants -/
theorem je_v (i : Nat) {x : Str} (hl : ls[i]? = some (.val d) := by rfl) (hi : C.N[i]? = some x := by rfl) (hv : ∀ j, Vis (C.X j).env.scope x := by intro _; first | exact Or.inl rfl | exact Or.inr (Or.inl rfl) | exact Or.inr (Or.inr rfl)) (hd : (x == ("__debug__" : Str)) = false := by decide)
    (hcd : (x == ("__classdict__" : Str)) = false := by decide) : JE C ls (.Name x pos) d := je_of (fun j => pe_var (by rw [C.hN]; exact hi) (hv j) hd hcd) (ev_var hl)
theorem jc_v (i : Nat) {x : Str} (hl : ls[i]? = some (.own ds) := by rfl) (hi : C.N[i]? = some x := by rfl) (hv : ∀ j, Vis (C.X j).env.scope x := by intro _; first | exact Or.inl rfl | exact Or.inr (Or.inl rfl) | exact Or.inr (Or.inr rfl)) (hd : (x == ("__debug__" : Str)) = false := by decide)
    (hcd : (x == ("__classdict__" : Str)) = false := by decide) : JC C ls (.Name x pos) ds := jc_of (fun j => pe_var (by rw [C.hN]; exact hi) (hv j) hd hcd) (evC_own hl)
theorem je_int {i : Int} {k : Nat} : JE C ls (.Constant (.int i) k pos) (.int i) := je_of (fun _ => pe_int) (ev_c fun _ => .int i)
theorem je_bl {i : Bool} {k : Nat} : JE C ls (.Constant (.bool i) k pos) (.bl i) := je_of (fun _ => pe_bl) (ev_c fun _ => .bl i)
theorem je_str {i : Str} {k : Nat} : JE C ls (.Constant (.str i) k pos) (.str i) := je_of (fun _ => pe_str) (ev_c fun _ => .str i)
theorem je_non {k : Nat} : JE C ls (.Constant .none k pos) .non := je_of (fun _ => pe_non) (ev_c fun _ => .non)
/-! ints -/
theorem ev_I {ta tb : TE} {i j : Int} {Cd : Int → Int → Prop} {g : Int → Int → V} (ha : Ev C.K C.E ta ls (.int i)) (hb : Ev C.K C.E tb ls (.int j)) (hc : Cd i j) (hd : ∀ G, Dq C.K G (g i j) d) : Ev C.K C.E (tOp (rI Cd g) ta tb) ls d :=
  ev_op ha hb fun G H x y Q eg hx hy q => ⟨i, j, dq_int hx, dq_int hy, hc, q _ (hd G)⟩
theorem ev_I0 {ta tb : TE} {i j : Int} {g : Int → Int → V} (ha : Ev C.K C.E ta ls (.int i)) (hb : Ev C.K C.E tb ls (.int j)) (hd : ∀ G, Dq C.K G (g i j) d) : Ev C.K C.E (tOp (rI0 g) ta tb) ls d :=
  ev_op ha hb fun G H x y Q eg hx hy q => ⟨i, j, dq_int hx, dq_int hy, q _ (hd G)⟩
theorem op_mulA {X : Cx} : OpR X (binaryOp .Mult) (rI IntMulOk fun i j => .int (i * j)) := opI fun _ _ _ _ _ _ _ hc q => mul_int q hc
theorem je_add {i j : Int} (ha : JE C ls a (.int i)) (hb : JE C ls b (.int j)) : JE C ls (.BinOp a .Add b pos) (.int (i + j)) := je_of (fun k => pe_op op_add (pe_any C a k) (pe_any C b k)) (ev_I0 ha hb fun _ => .int _)
theorem je_sub {i j : Int} (ha : JE C ls a (.int i)) (hb : JE C ls b (.int j)) : JE C ls (.BinOp a .Sub b pos) (.int (i - j)) := je_of (fun k => pe_op op_sub (pe_any C a k) (pe_any C b k)) (ev_I0 ha hb fun _ => .int _)
theorem mulL {i j : Int} (h : -(2 ^ 64) < i ∧ i < 2 ^ 64) : IntMulOk i j := .of_left (intBits_le_64 h.1 h.2)
theorem mulR {i j : Int} (h : -(2 ^ 64) < j ∧ j < 2 ^ 64) : IntMulOk i j := .of_right (intBits_le_64 h.1 h.2)
theorem je_mul {i j : Int} (ha : JE C ls a (.int i)) (hb : JE C ls b (.int j)) (hc : IntMulOk i j := by first | exact mulR (by decide) | exact mulL (by decide) | exact mulL (by omega) | exact mulR (by omega)) : JE C ls (.BinOp a .Mult b pos) (.int (i * j)) := je_of (fun k => pe_op op_mulA (pe_any C a k) (pe_any C b k)) (ev_I ha hb hc fun _ => .int _)
theorem je_mod {i j : Int} (ha : JE C ls a (.int i)) (hb : JE C ls b (.int j)) (hc : 0 < j := by first | decide | omega) : JE C ls (.BinOp a .Mod b pos) (.int (i % j)) := je_of (fun k => pe_op op_mod (pe_any C a k) (pe_any C b k)) (ev_I ha hb hc fun _ => .int _)
theorem je_fdiv {i j : Int} (ha : JE C ls a (.int i)) (hb : JE C ls b (.int j)) (hc : CDivW i j := by first | exact ⟨by decide, by decide⟩ | assumption) : JE C ls (.BinOp a .FloorDiv b pos) (.int (i / j)) := je_of (fun k => pe_op op_fdivW (pe_any C a k) (pe_any C b k)) (ev_I ha hb hc fun _ => .int _)
theorem je_pow {i j : Int} (ha : JE C ls a (.int i)) (hb : JE C ls b (.int j)) (hc : CPow i j) : JE C ls (.BinOp a .Pow b pos) (.int (i ^ j.toNat)) := je_of (fun k => pe_op op_pow (pe_any C a k) (pe_any C b k)) (ev_I ha hb hc fun _ => .int _)
theorem je_powL (r : Int) {i j : Int} (ha : JE C ls a (.int i)) (hb : JE C ls b (.int j)) (hc : CPow i j := by exact ⟨by decide, by decide, by decide⟩) (hr : i ^ j.toNat = r := by decide) : JE C ls (.BinOp a .Pow b pos) (.int r) := hr ▸ je_pow ha hb hc
theorem je_neg {i : Int} (ha : JE C ls a (.int i)) : JE C ls (.UnaryOp .USub a pos) (.int (-i)) := je_of (fun k => pe_un un_neg (pe_any C a k)) (ev_un ha fun G H x Q eg hx q => ⟨i, dq_int hx, q _ (.int _)⟩)
/-! comparisons of ints, as values and as tests -/
theorem ev_cmp {ta tb : TE} {i j : Int} {k : Bool} {g : Int → Int → V} (ha : Ev C.K C.E ta ls (.int i)) (hb : Ev C.K C.E tb ls (.int j)) (hd : g i j = .bl k) : Ev C.K C.E (tOp (rI0 g) ta tb) ls (.bl k) :=
  ev_op ha hb fun G H x y Q eg hx hy q => ⟨i, j, dq_int hx, dq_int hy, q _ (by rw [hd]; exact .bl k)⟩
theorem je_lt {i j : Int} (ha : JE C ls a (.int i)) (hb : JE C ls b (.int j)) : JE C ls (.Compare a [.Lt] [b] pos) (.bl (decide (i < j))) := je_of (fun k => pe_cmpR op_lt (pe_any C a k) (pe_any C b k) (nomark _)) (ev_cmp ha hb rfl)
theorem je_le {i j : Int} (ha : JE C ls a (.int i)) (hb : JE C ls b (.int j)) : JE C ls (.Compare a [.LtE] [b] pos) (.bl (decide (i ≤ j))) := je_of (fun k => pe_cmpR op_le (pe_any C a k) (pe_any C b k) (nomark _)) (ev_cmp ha hb rfl)
theorem je_gt {i j : Int} (ha : JE C ls a (.int i)) (hb : JE C ls b (.int j)) : JE C ls (.Compare a [.Gt] [b] pos) (.bl (decide (j < i))) := je_of (fun k => pe_cmpR op_gt (pe_any C a k) (pe_any C b k) (nomark _)) (ev_cmp ha hb rfl)
theorem je_ge {i j : Int} (ha : JE C ls a (.int i)) (hb : JE C ls b (.int j)) : JE C ls (.Compare a [.GtE] [b] pos) (.bl (decide (j ≤ i))) := je_of (fun k => pe_cmpR op_ge (pe_any C a k) (pe_any C b k) (nomark _)) (ev_cmp ha hb rfl)
theorem ev_eqI {ta tb : TE} {i j : Int} (ha : Ev C.K C.E ta ls (.int i)) (hb : Ev C.K C.E tb ls (.int j)) : Ev C.K C.E (tOp rEq ta tb) ls (.bl (decide (i = j))) :=
  ev_op ha hb fun G H x y Q eg hx hy q => by
    rw [dq_int hx, dq_int hy]
    refine ⟨rfl, ?_⟩
    have e : decide (V.int i = V.int j) = decide (i = j) := by
      by_cases h : i = j
      · subst h; simp
      · rw [decide_eq_false h, decide_eq_false fun z => h (V.int.inj z)]
    rw [e]
    exact q _ (.bl _)
theorem ev_neI {ta tb : TE} {i j : Int} (ha : Ev C.K C.E ta ls (.int i)) (hb : Ev C.K C.E tb ls (.int j)) : Ev C.K C.E (tOp rNe ta tb) ls (.bl (!decide (i = j))) :=
  ev_op ha hb fun G H x y Q eg hx hy q => by
    rw [dq_int hx, dq_int hy]
    refine ⟨rfl, ?_⟩
    have e : decide (V.int i = V.int j) = decide (i = j) := by
      by_cases h : i = j
      · subst h; simp
      · rw [decide_eq_false h, decide_eq_false fun z => h (V.int.inj z)]
    rw [e]
    exact q _ (.bl _)
theorem je_eq {i j : Int} (ha : JE C ls a (.int i)) (hb : JE C ls b (.int j)) : JE C ls (.Compare a [.Eq] [b] pos) (.bl (decide (i = j))) := je_of (fun k => pe_cmpR op_eq (pe_any C a k) (pe_any C b k) (nomark _)) (ev_eqI ha hb)
theorem je_ne {i j : Int} (ha : JE C ls a (.int i)) (hb : JE C ls b (.int j)) : JE C ls (.Compare a [.NotEq] [b] pos) (.bl (!decide (i = j))) := je_of (fun k => pe_cmpR op_ne (pe_any C a k) (pe_any C b k) (nomark _)) (ev_neI ha hb)
theorem evT_test {te : TE} {k : Bool} (h : Ev C.K C.E te ls (.bl k)) : EvT C.K C.E (tTest te) ls k := fun F G H σ S xx Q q => h F G H σ S xx _ fun v G' H' eg eh S' hv => ⟨k, dq_bl hv, q G' H' eg eh S'⟩
theorem evT_B {te : TE} {k : Bool} (h : Ev C.K C.E te ls (.bl k)) : EvT C.K C.E (tB te) ls k := fun F G H σ S xx Q q => h F G H σ S xx _ fun v G' H' eg eh S' hv => ⟨k, dq_bl hv, q G' H' eg eh S'⟩
theorem jt_lt {i j : Int} (ha : JE C ls a (.int i)) (hb : JE C ls b (.int j)) : JT C ls (.Compare a [.Lt] [b] pos) (decide (i < j)) := jt_of (fun k => pt_cmpR op_lt (pe_any C a k) (pe_any C b k) (nomark _)) (evT_test (ev_cmp ha hb rfl))
theorem jt_le {i j : Int} (ha : JE C ls a (.int i)) (hb : JE C ls b (.int j)) : JT C ls (.Compare a [.LtE] [b] pos) (decide (i ≤ j)) := jt_of (fun k => pt_cmpR op_le (pe_any C a k) (pe_any C b k) (nomark _)) (evT_test (ev_cmp ha hb rfl))
theorem jt_gt {i j : Int} (ha : JE C ls a (.int i)) (hb : JE C ls b (.int j)) : JT C ls (.Compare a [.Gt] [b] pos) (decide (j < i)) := jt_of (fun k => pt_cmpR op_gt (pe_any C a k) (pe_any C b k) (nomark _)) (evT_test (ev_cmp ha hb rfl))
theorem jt_ge {i j : Int} (ha : JE C ls a (.int i)) (hb : JE C ls b (.int j)) : JT C ls (.Compare a [.GtE] [b] pos) (decide (j ≤ i)) := jt_of (fun k => pt_cmpR op_ge (pe_any C a k) (pe_any C b k) (nomark _)) (evT_test (ev_cmp ha hb rfl))
theorem jt_eq {i j : Int} (ha : JE C ls a (.int i)) (hb : JE C ls b (.int j)) : JT C ls (.Compare a [.Eq] [b] pos) (decide (i = j)) := jt_of (fun k => pt_cmpR op_eq (pe_any C a k) (pe_any C b k) (nomark _)) (evT_test (ev_eqI ha hb))
theorem jt_ne {i j : Int} (ha : JE C ls a (.int i)) (hb : JE C ls b (.int j)) : JT C ls (.Compare a [.NotEq] [b] pos) (!decide (i = j)) := jt_of (fun k => pt_cmpR op_ne (pe_any C a k) (pe_any C b k) (nomark _)) (evT_test (ev_neI ha hb))
/-- any expression of a truth value, as a test -/
theorem jt_val {k : Bool} (h : JE C ls e (.bl k)) (he : ∀ j whole, isTrue e (C.X j).env whole = (do let v ← whole; standAt e.pos; holding [v] (truthy v)) := by intro _ _; rfl) : JT C ls e k := jt_of (fun j => pt_val (pe_any C e j) (he j)) (evT_B h)
theorem jt_not {k : Bool} (h : JT C ls e k) : JT C ls (.UnaryOp .Not e pos) (!k) := jt_of (fun j => pt_not (pt_any C e j)) fun F G H σ S xx Q q => h F G H σ S xx _ fun G' H' eg eh S' => q G' H' eg eh S'
/-- and, or as tests: a chain -/
def wAny (C : Cs) (e : Expr) : TT := fun σ H Q => ∃ t : TT, (∀ i, PW (C.X i) e t) ∧ t σ H Q
theorem pw_any (C : Cs) (e : Expr) (i : C.ι) : PW (C.X i) e (wAny C e) := ⟨fun wh pins s σ H Q I h => by
  obtain ⟨t, ht, q⟩ := h
  exact (ht i).run wh pins s σ H Q I q⟩
def JW (C : Cs) (ls : List Loc) (e : Expr) (k : Bool) : Prop := EvT C.K C.E (wAny C e) ls k
theorem jt_w {k : Bool} (h : JW C ls e k) : JT C ls e k := jt_of (fun j => (pw_any C e j).pt) h
theorem evT_and {t u : TT} {k l : Bool} (h1 : EvT C.K C.E t ls k) (h2 : k = true → EvT C.K C.E u ls l) : EvT C.K C.E (tAnd t u) ls (k && l) := fun F G H σ S xx Q q => h1 F G H σ S xx _ fun G' H' eg eh S' => by
  cases k with
  | true =>
    rw [if_pos rfl]
    exact h2 rfl F G' H' σ S' (xx.step eg eh) Q fun G2 H2 eg2 eh2 S2 => q G2 H2 (eg.trans eg2) (eh.trans eh2) S2
  | false =>
    rw [if_neg Bool.false_ne_true]
    exact q G' H' eg eh S'
theorem evT_or {t u : TT} {k l : Bool} (h1 : EvT C.K C.E t ls k) (h2 : k = false → EvT C.K C.E u ls l) : EvT C.K C.E (tOr t u) ls (k || l) := fun F G H σ S xx Q q => h1 F G H σ S xx _ fun G' H' eg eh S' => by
  cases k with
  | false =>
    rw [if_neg Bool.false_ne_true]
    exact h2 rfl F G' H' σ S' (xx.step eg eh) Q fun G2 H2 eg2 eh2 S2 => q G2 H2 (eg.trans eg2) (eh.trans eh2) S2
  | true =>
    rw [if_pos rfl]
    exact q G' H' eg eh S'
theorem jw_of {t : TT} {k : Bool} (h : ∀ i, PW (C.X i) e t) (ev : EvT C.K C.E t ls k) : JW C ls e k := fun F G H σ S xx Q q => ⟨t, h, ev F G H σ S xx Q q⟩
theorem jw_and1 {k : Bool} (h : JT C ls a k) : JW C ls (.BoolOp .And [a] pos) k := jw_of (fun j => pw_and1 (pt_any C a j)) h
theorem jw_or1 {k : Bool} (h : JT C ls a k) : JW C ls (.BoolOp .Or [a] pos) k := jw_of (fun j => pw_or1 (pt_any C a j)) h
theorem jw_and {k l : Bool} {rest : List Expr} (h1 : JT C ls a k) (h2 : k = true → JW C ls (.BoolOp .And (b :: rest) pos) l) : JW C ls (.BoolOp .And (a :: b :: rest) pos) (k && l) := jw_of (fun j => pw_and (pt_any C a j) (pw_any C _ j)) (evT_and h1 h2)
theorem jw_or {k l : Bool} {rest : List Expr} (h1 : JT C ls a k) (h2 : k = false → JW C ls (.BoolOp .Or (b :: rest) pos) l) : JW C ls (.BoolOp .Or (a :: b :: rest) pos) (k || l) := jw_of (fun j => pw_or (pt_any C a j) (pw_any C _ j)) (evT_or h1 h2)
/-- .. as values -/
theorem je_one {op : BoolOp} (h : JE C ls a d) : JE C ls (.BoolOp op [a] pos) d := je_of (fun j => pe_one (pe_any C a j)) h
theorem je_and {k l : Bool} {rest : List Expr} (h1 : JE C ls a (.bl k)) (h2 : k = true → JE C ls (.BoolOp .And (b :: rest) pos) (.bl l)) : JE C ls (.BoolOp .And (a :: b :: rest) pos) (.bl (k && l)) :=
  je_of (fun j => pe_and (pe_any C a j) (pe_any C _ j)) fun F G H σ S xx Q q => h1 F G H σ S xx _ fun v G' H' eg eh S' hv => ⟨k, dq_bl hv, by
    cases k with
    | true =>
      rw [if_pos rfl]
      exact h2 rfl F G' H' σ S' (xx.step eg eh) Q fun v2 G2 H2 eg2 eh2 S2 hv2 => q v2 G2 H2 (eg.trans eg2) (eh.trans eh2) S2 hv2
    | false =>
      rw [if_neg Bool.false_ne_true]
      exact q _ G' H' eg eh S' (.bl _)⟩
theorem je_or {k l : Bool} {rest : List Expr} (h1 : JE C ls a (.bl k)) (h2 : k = false → JE C ls (.BoolOp .Or (b :: rest) pos) (.bl l)) : JE C ls (.BoolOp .Or (a :: b :: rest) pos) (.bl (k || l)) :=
  je_of (fun j => pe_or (pe_any C a j) (pe_any C _ j)) fun F G H σ S xx Q q => h1 F G H σ S xx _ fun v G' H' eg eh S' hv => ⟨k, dq_bl hv, by
    cases k with
    | false =>
      rw [if_neg Bool.false_ne_true]
      exact h2 rfl F G' H' σ S' (xx.step eg eh) Q fun v2 G2 H2 eg2 eh2 S2 hv2 => q v2 G2 H2 (eg.trans eg2) (eh.trans eh2) S2 hv2
    | true =>
      rw [if_pos rfl]
      exact q _ G' H' eg eh S' (.bl _)⟩
theorem je_not {k : Bool} (h1 : JE C ls a (.bl k)) : JE C ls (.UnaryOp .Not a pos) (.bl (!k)) := je_of (fun j => pe_not (pe_any C a j)) fun F G H σ S xx Q q => h1 F G H σ S xx _ fun v G' H' eg eh S' hv => ⟨k, dq_bl hv, q _ G' H' eg eh S' (.bl _)⟩
theorem je_ifExp {k : Bool} (hc : JT C ls c k) (ha : k = true → JE C ls a d) (hb : k = false → JE C ls b d) : JE C ls (.IfExp c a b pos) d :=
  je_of (fun j => pe_ifExp (pt_any C c j) (pe_any C a j) (pe_any C b j)) fun F G H σ S xx Q q => hc F G H σ S xx _ fun G' H' eg eh S' => by
    cases k with
    | true =>
      rw [if_pos rfl]
      exact ha rfl F G' H' σ S' (xx.step eg eh) Q fun v2 G2 H2 eg2 eh2 S2 hv2 => q v2 G2 H2 (eg.trans eg2) (eh.trans eh2) S2 hv2
    | false =>
      rw [if_neg Bool.false_ne_true]
      exact hb rfl F G' H' σ S' (xx.step eg eh) Q fun v2 G2 H2 eg2 eh2 S2 hv2 => q v2 G2 H2 (eg.trans eg2) (eh.trans eh2) S2 hv2
/-- is None -/
def D.isNon : D → Bool
  | .non => true
  | _ => false
theorem dq_isNon {K : Fg} {G : Hp} {v : V} (h : Dq K G v d) : decide (v = .non) = d.isNon := by
  cases h <;> rfl
theorem je_isN {k : Nat} (h : JE C ls a d) : JE C ls (.Compare a [.Is] [.Constant .none k pos'] pos) (.bl d.isNon) := je_of (fun j => pe_cmp (pc_isN (pe_any C a j)) rfl) fun F G H σ S xx Q q => h F G H σ S xx _ fun v G' H' eg eh S' hv => q _ G' H' eg eh S' (by rw [dq_isNon hv]; exact .bl _)
theorem je_notN {k : Nat} (h : JE C ls a d) : JE C ls (.Compare a [.IsNot] [.Constant .none k pos'] pos) (.bl (!d.isNon)) := je_of (fun j => pe_cmp (pc_notN (pe_any C a j)) rfl) fun F G H σ S xx Q q => h F G H σ S xx _ fun v G' H' eg eh S' hv => q _ G' H' eg eh S' (by rw [dq_isNon hv]; exact .bl _)
end
end Qp

/-! Q3: lists, tuples, built-ins. -/
namespace Qp
open PySem PySem.Spec PyProof.Rows L2
/-! the rules that speak of K -/
theorem kx {C : Cs} (j : C.ι) {p : Fg → Prop} (h : p (C.X j).K) : p C.K := C.hK j ▸ h
theorem ix_list' (C : Cs) (j : C.ι) : IxR (C.X j) (rIxL C.K) := kx (p := fun K => IxR (C.X j) (rIxL K)) j ix_list
theorem ix_tup' (C : Cs) (j : C.ι) : IxR (C.X j) (rIxT C.K) := kx (p := fun K => IxR (C.X j) (rIxT K)) j ix_tup
def rLen (K : Fg) : List V → Hp → VK → Prop := fun xs H Q => ∃ p ys, xs = [.ref p] ∧ (SqL K H p ys ∨ SqT K H p ys) ∧ Q (.int ys.length) H
def rListOf (K : Fg) : List V → Hp → VK → Prop := fun xs H Q => ∃ p ys, xs = [.ref p] ∧ (SqL K H p ys ∨ SqT K H p ys) ∧ ∀ l, H l = none → Q (.ref l) (upd H l (.lst ys))
def rTupleOf (K : Fg) : List V → Hp → VK → Prop := fun xs H Q => ∃ p ys, xs = [.ref p] ∧ ((SqL K H p ys ∧ ∀ l, H l = none → Q (.ref l) (upd H l (.tup ys))) ∨ (SqT K H p ys ∧ Q (.ref p) H))
theorem len' (C : Cs) (j : C.ι) : CallR (C.X j) (.builtin "len") (rLen C.K) := kx (p := fun K => CallR (C.X j) (.builtin "len") (rLen K)) j call_len_seq
theorem list' (C : Cs) (j : C.ι) : CallR (C.X j) (.type "list") (rListOf C.K) := kx (p := fun K => CallR (C.X j) (.type "list") (rListOf K)) j call_list_of
theorem tuple' (C : Cs) (j : C.ι) : CallR (C.X j) (.type "tuple") (rTupleOf C.K) := kx (p := fun K => CallR (C.X j) (.type "tuple") (rTupleOf K)) j call_tuple_of
theorem isi' (C : Cs) (j : C.ι) : CallR (C.X j) (.builtin "isinstance") (rIsi C.K) := kx (p := fun K => CallR (C.X j) (.builtin "isinstance") (rIsi K)) j call_isi
theorem sl_list' (C : Cs) (j : C.ι) : SlR (C.X j) (rSlL C.K) := kx (p := fun K => SlR (C.X j) (rSlL K)) j sl_list
theorem sl_tup' (C : Cs) (j : C.ι) : SlR (C.X j) (rSlT C.K) := kx (p := fun K => SlR (C.X j) (rSlT K)) j sl_tup
theorem op_catT' (C : Cs) (j : C.ι) : OpR (C.X j) (binaryOp .Add) (rCatT C.K) := kx (p := fun K => OpR (C.X j) (binaryOp .Add) (rCatT K)) j op_catT
abbrev NoG (C : Cs) (x : Str) : Prop := C.mg x = none
theorem noG {C : Cs} {x : Str} (h : NoG C x) (j : C.ι) : (C.X j).mg x = none := by rw [C.hmg]; exact h
section
variable {C : Cs} {ls : List Loc} {a b : Expr} {d d1 d2 : D} {ds : List D} {p pos : Pos} {x : Str} {id : String} {r : List V → Hp → VK → Prop}
theorem pe_cb1 (j : C.ι) (hc : CallR (C.X j) (.builtin id) r) (hg : Gl (C.X j) x) (hm : NoG C x) (hv : bootBuiltins x = some (.builtin id)) (hs : NS a) (hn : x ≠ "__name__" := by decide) (hdb : (x == ("__debug__" : Str)) = false := by decide) : PE (C.X j) (.Call (.Name x p) [a] [] pos) (tCB r (tCons (eAny C a) tNil)) :=
  pe_callB hc hg (noG hm j) hv (pa_cons (pe_any C a j) pa_nil (hs _ _)) hn hdb (hs _ _) (ns_any (es := []) (fun _ h => (List.not_mem_nil h).elim) _ _)
theorem pe_ct1 (j : C.ι) (hc : CallR (C.X j) (.type id) r) (hg : Gl (C.X j) x) (hm : NoG C x) (hv : bootBuiltins x = some (.type id)) (hs : NS a) (hn : x ≠ "__name__" := by decide) (hdb : (x == ("__debug__" : Str)) = false := by decide) : PE (C.X j) (.Call (.Name x p) [a] [] pos) (tCB r (tCons (eAny C a) tNil)) :=
  pe_callTy hc hg (noG hm j) hv (pa_cons (pe_any C a j) pa_nil (hs _ _)) hn hdb (hs _ _) (ns_any (es := []) (fun _ h => (List.not_mem_nil h).elim) _ _)
theorem pe_cb2 (j : C.ι) (hc : CallR (C.X j) (.builtin id) r) (hg : Gl (C.X j) x) (hm : NoG C x) (hv : bootBuiltins x = some (.builtin id)) (hs : NS a) (hs2 : NS b) {tb : TE} (hb : PE (C.X j) b tb) (hn : x ≠ "__name__" := by decide) (hdb : (x == ("__debug__" : Str)) = false := by decide) : PE (C.X j) (.Call (.Name x p) [a, b] [] pos) (tCB r (tCons (eAny C a) (tCons tb tNil))) :=
  pe_callB hc hg (noG hm j) hv (pa_cons (pe_any C a j) (pa_cons hb pa_nil (hs2 _ _)) (hs _ _)) hn hdb (hs _ _) (ns_any (fun x h => by obtain rfl := List.mem_singleton.mp h; exact hs2) _ _)
end
section
variable {C : Cs} {ls : List Loc} {e a b c : Expr} {d d1 d2 : D} {ds es : List D} {t : TE} {pos pos' p1 p2 : Pos}
/-! arguments, displays -/
theorem ja_nil : JA C ls [] [] := ja_of (fun _ h => nomatch h) (fun _ => pa_nil) evA_nil
theorem ja_cons {xs : List Expr} (h : JE C ls e d) (r : JA C ls xs ds) (hs : NS e := by intro _ _; rfl) : JA C ls (e :: xs) (d :: ds) :=
  ja_of (fun x hx => (List.mem_cons.mp hx).elim (fun z => z ▸ hs) (r.ns x)) (fun j => pa_cons (pe_any C e j) (pa_any C xs j) (hs _ _)) (evA_cons h r.ev)
theorem je_tup {k : Nat} {xs : List Expr} (h : JA C ls xs ds) (hl : ds.length ≤ 1000000 := by first | exact Nat.le_of_ble_eq_true rfl | omega) : JE C ls (.Tuple xs k pos) (.tup ds) :=
  je_of (fun j => pe_tup (pa_any C xs j)) fun F G H σ S xx Q q => h.ev F G H σ S xx _ fun vs G' H' eg eh S' hv => ⟨by rw [hv.length]; exact Nat.le_trans hl (by decide), ev_lay S' hv fun v G2 H2 eg2 eh2 S2 hv2 => q v G2 H2 (eg.trans eg2) (eh.trans eh2) S2 hv2⟩
theorem jn_lst {xs : List Expr} (h : JA C ls xs ds) (hl : ds.length ≤ 1000000 := by first | exact Nat.le_of_ble_eq_true rfl | omega) : JN C ls (.List xs pos) ds :=
  jn_of (fun j => pe_lst (pa_any C xs j)) fun F G H σ S xx Q q => h.ev F G H σ S xx _ fun vs G' H' eg eh S' hv => ⟨by rw [hv.length]; exact Nat.le_trans hl (by decide), evN_lay S' hv fun p vs G2 H2 eg2 eh2 nf S2 hp hv2 => q p vs G2 H2 (eg.trans eg2) (eh.trans eh2) nf S2 hp hv2⟩
/-! a subscript -/
theorem ixN_some {n : Nat} {i : Int} {j : Nat} (h : ixN n i = some j) : j < n := by
  unfold ixN at h
  split at h
  · split at h
    · cases h; omega
    · cases h
  · split at h
    · cases h; omega
    · cases h
theorem atI_dq {K : Fg} {G : Hp} {vs : List V} {i : Int} (hv : DqAll K G vs ds) (h : atI ds i = some d) : ∃ v, atI vs i = some v ∧ Dq K G v d := by
  unfold atI at h ⊢
  rw [hv.length]
  cases q : ixN ds.length i with
  | none => rw [q] at h; cases h
  | some j =>
    rw [q] at h
    obtain ⟨v, e1, e2⟩ := hv.get (show ds[j]? = some d from h)
    exact ⟨v, e1, e2⟩
theorem je_ixL {i : Int} (ha : JC C ls a ds) (hb : JE C ls b (.int i)) (h : atI ds i = some d) (hs : PlainIx b := by intro _ _; rfl) : JE C ls (.Subscript a b pos) d :=
  je_of (fun j => pe_ix (ix_list' C j) (pe_any C a j) (pe_any C b j) hs) fun F G H σ S xx Q q => ha F G H σ S xx _ fun p vs G1 H1 eg1 eh1 S1 hp hv => hb F G1 H1 σ S1 (xx.step eg1 eh1) _ fun y G2 H2 eg2 eh2 S2 hy => by
    obtain ⟨v, e1, e2⟩ := atI_dq (dqAll_mono eg2 hv) h
    exact ⟨p, vs, i, v, rfl, dq_int hy, SqL.of (eh2 _ _ hp), e1, q v G2 H2 (eg1.trans eg2) (eh1.trans eh2) S2 e2⟩
theorem je_ixT {i : Int} (ha : JE C ls a (.tup ds)) (hb : JE C ls b (.int i)) (h : atI ds i = some d) (hs : PlainIx b := by intro _ _; rfl) : JE C ls (.Subscript a b pos) d :=
  je_of (fun j => pe_ix (ix_tup' C j) (pe_any C a j) (pe_any C b j) hs) fun F G H σ S xx Q q => ha F G H σ S xx _ fun x G1 H1 eg1 eh1 S1 hx => hb F G1 H1 σ S1 (xx.step eg1 eh1) _ fun y G2 H2 eg2 eh2 S2 hy => by
    obtain ⟨p, vs, e0, ht, hv⟩ := dq_tup (dq_mono eg2 hx)
    obtain ⟨v, e1, e2⟩ := atI_dq hv h
    exact ⟨p, vs, i, v, e0, dq_int hy, ex_t S2.ex ht, e1, q v G2 H2 (eg1.trans eg2) (eh1.trans eh2) S2 e2⟩
theorem je_ixScr {i n : Int} {ns : List Int} (ha : JE C ls a (.scr ns)) (hb : JE C ls b (.int i)) (h : atI ns i = some n) (hs : PlainIx b := by intro _ _; rfl) : JE C ls (.Subscript a b pos) (.int n) :=
  je_of (fun j => pe_ix (ix_list' C j) (pe_any C a j) (pe_any C b j) hs) fun F G H σ S xx Q q => ha F G H σ S xx _ fun x G1 H1 eg1 eh1 S1 hx => hb F G1 H1 σ S1 (xx.step eg1 eh1) _ fun y G2 H2 eg2 eh2 S2 hy => by
    obtain ⟨p, e0, hl⟩ := dq_scr (dq_mono eg2 hx)
    refine ⟨p, ns.map V.int, i, .int n, e0, dq_int hy, ?_, ?_, q _ G2 H2 (eg1.trans eg2) (eh1.trans eh2) S2 (.int n)⟩
    · exact ex_l S2.ex hl
    · unfold atI at h ⊢
      rw [List.length_map]
      cases q : ixN ns.length i with
      | none => rw [q] at h; cases h
      | some j =>
        rw [q] at h
        show (ns.map V.int)[j]? = _
        rw [List.getElem?_map, show ns[j]? = some n from h]
        rfl
/-! len -/
theorem je_lenL (ha : JC C ls a ds) (hn : NoG C "len" := by assumption) (hg : ∀ j, Gl (C.X j) "len" := by intro _; rfl) (hs : NS a := by intro _ _; rfl) : JE C ls (.Call (.Name "len" p1) [a] [] pos) (.int (ds.length : Int)) :=
  je_of (fun j => pe_cb1 j (len' C j) (hg j) hn PySem.boot_len hs) fun F G H σ S xx Q q => ha F G H σ S xx _ fun p vs G1 H1 eg1 eh1 S1 hp hv => ⟨p, vs, rfl, Or.inl (SqL.of hp), by rw [hv.length]; exact q _ G1 H1 eg1 eh1 S1 (.int _)⟩
theorem je_lenT (ha : JE C ls a (.tup ds)) (hn : NoG C "len" := by assumption) (hg : ∀ j, Gl (C.X j) "len" := by intro _; rfl) (hs : NS a := by intro _ _; rfl) : JE C ls (.Call (.Name "len" p1) [a] [] pos) (.int (ds.length : Int)) :=
  je_of (fun j => pe_cb1 j (len' C j) (hg j) hn PySem.boot_len hs) fun F G H σ S xx Q q => ha F G H σ S xx _ fun x G1 H1 eg1 eh1 S1 hx => by
    obtain ⟨p, vs, e0, ht, hv⟩ := dq_tup hx
    refine ⟨p, vs, by rw [e0], Or.inr ?_, by rw [hv.length]; exact q _ G1 H1 eg1 eh1 S1 (.int _)⟩
    exact ex_t S1.ex ht
theorem je_lenScr {ns : List Int} (ha : JE C ls a (.scr ns)) (hn : NoG C "len" := by assumption) (hg : ∀ j, Gl (C.X j) "len" := by intro _; rfl) (hs : NS a := by intro _ _; rfl) : JE C ls (.Call (.Name "len" p1) [a] [] pos) (.int (ns.length : Int)) :=
  je_of (fun j => pe_cb1 j (len' C j) (hg j) hn PySem.boot_len hs) fun F G H σ S xx Q q => ha F G H σ S xx _ fun x G1 H1 eg1 eh1 S1 hx => by
    obtain ⟨p, e0, hl⟩ := dq_scr hx
    refine ⟨p, ns.map V.int, by rw [e0], Or.inl ?_, by rw [List.length_map]; exact q _ G1 H1 eg1 eh1 S1 (.int _)⟩
    exact ex_l S1.ex hl
/-! a list or a tuple -/
inductive IsSeq : D → List D → Prop
  | lst (ds : List D) : IsSeq (.lst ds) ds
  | tup (ds : List D) : IsSeq (.tup ds) ds
theorem je_ixS {i : Int} (ha : JE C ls a d1) (hq : IsSeq d1 ds) (hb : JE C ls b (.int i)) (h : atI ds i = some d) (hs : PlainIx b := by intro _ _; rfl) : JE C ls (.Subscript a b pos) d := by
  cases hq with
  | lst => exact je_ixL (JC.je ha) hb h hs
  | tup => exact je_ixT ha hb h hs
theorem je_lenS (ha : JE C ls a d1) (hq : IsSeq d1 ds) (hn : NoG C "len" := by assumption) (hg : ∀ j, Gl (C.X j) "len" := by intro _; rfl) (hs : NS a := by intro _ _; rfl) : JE C ls (.Call (.Name "len" p1) [a] [] pos) (.int (ds.length : Int)) := by
  cases hq with
  | lst => exact je_lenL (JC.je ha) hn hg hs
  | tup => exact je_lenT ha hn hg hs
/-! int(..), abs(..) -/
theorem je_intI {i : Int} (ha : JE C ls a (.int i)) (hn : NoG C "int" := by assumption) (hg : ∀ j, Gl (C.X j) "int" := by intro _; rfl) (hs : NS a := by intro _ _; rfl) : JE C ls (.Call (.Name "int" p1) [a] [] pos) (.int i) :=
  je_of (fun j => pe_ct1 j call_int1 (hg j) hn boot_int hs) fun F G H σ S xx Q q => ha F G H σ S xx _ fun x G1 H1 eg1 eh1 S1 hx => Or.inl ⟨i, by rw [dq_int hx], q _ G1 H1 eg1 eh1 S1 (.int _)⟩
theorem je_intB {k : Bool} (ha : JE C ls a (.bl k)) (hn : NoG C "int" := by assumption) (hg : ∀ j, Gl (C.X j) "int" := by intro _; rfl) (hs : NS a := by intro _ _; rfl) : JE C ls (.Call (.Name "int" p1) [a] [] pos) (.int (if k then 1 else 0)) :=
  je_of (fun j => pe_ct1 j call_int1 (hg j) hn boot_int hs) fun F G H σ S xx Q q => ha F G H σ S xx _ fun x G1 H1 eg1 eh1 S1 hx => Or.inr ⟨k, by rw [dq_bl hx], q _ G1 H1 eg1 eh1 S1 (.int _)⟩
theorem je_abs {i : Int} (ha : JE C ls a (.int i)) (hn : NoG C "abs" := by assumption) (hg : ∀ j, Gl (C.X j) "abs" := by intro _; rfl) (hs : NS a := by intro _ _; rfl) : JE C ls (.Call (.Name "abs" p1) [a] [] pos) (.int (i.natAbs : Int)) :=
  je_of (fun j => pe_cb1 j call_abs (hg j) hn (by decide +kernel) hs) fun F G H σ S xx Q q => ha F G H σ S xx _ fun x G1 H1 eg1 eh1 S1 hx => ⟨i, by rw [dq_int hx], by
    have e : (if i < 0 then -i else i) = (i.natAbs : Int) := by split <;> omega
    rw [e]
    exact q _ G1 H1 eg1 eh1 S1 (.int _)⟩
theorem je_max2 [Cold C] {i l : Int} (ha : JE C ls a (.int i)) (hb : JE C ls b (.int l)) (hn : NoG C "max" := by assumption) (hg : ∀ j, Gl (C.X j) "max" := by intro _; rfl) (hs : NS a := by intro _ _; rfl) (hs2 : NS b := by intro _ _; rfl) : JE C ls (.Call (.Name "max" p1) [a, b] [] pos) (.int (max i l)) :=
  je_of (fun j => pe_cb2 j (call_max2 (C.calm j Cold.h)) (hg j) hn (by decide +kernel) hs hs2 (pe_any C b j)) fun F G H σ S xx Q q => ha F G H σ S xx _ fun x G1 H1 eg1 eh1 S1 hx => hb F G1 H1 σ S1 (xx.step eg1 eh1) _ fun y G2 H2 eg2 eh2 S2 hy => ⟨i, l, by rw [dq_int hx, dq_int hy], by
    have e : (if l > i then l else i) = max i l := by split <;> omega
    rw [e]
    exact q _ G2 H2 (eg1.trans eg2) (eh1.trans eh2) S2 (.int _)⟩
theorem je_min2 [Cold C] {i l : Int} (ha : JE C ls a (.int i)) (hb : JE C ls b (.int l)) (hn : NoG C "min" := by assumption) (hg : ∀ j, Gl (C.X j) "min" := by intro _; rfl) (hs : NS a := by intro _ _; rfl) (hs2 : NS b := by intro _ _; rfl) : JE C ls (.Call (.Name "min" p1) [a, b] [] pos) (.int (min i l)) :=
  je_of (fun j => pe_cb2 j (call_min2 (C.calm j Cold.h)) (hg j) hn (by decide +kernel) hs hs2 (pe_any C b j)) fun F G H σ S xx Q q => ha F G H σ S xx _ fun x G1 H1 eg1 eh1 S1 hx => hb F G1 H1 σ S1 (xx.step eg1 eh1) _ fun y G2 H2 eg2 eh2 S2 hy => ⟨i, l, by rw [dq_int hx, dq_int hy], by
    have e : (if l < i then l else i) = min i l := by split <;> omega
    rw [e]
    exact q _ G2 H2 (eg1.trans eg2) (eh1.trans eh2) S2 (.int _)⟩
/-! list(..), tuple(..) -/
theorem jn_listL (ha : JC C ls a ds) (hn : NoG C "list" := by assumption) (hg : ∀ j, Gl (C.X j) "list" := by intro _; rfl) (hs : NS a := by intro _ _; rfl) : JN C ls (.Call (.Name "list" p1) [a] [] pos) ds :=
  jn_of (fun j => pe_ct1 j (list' C j) (hg j) hn boot_list hs) fun F G H σ S xx Q q => ha F G H σ S xx _ fun p vs G1 H1 eg1 eh1 S1 hp hv => ⟨p, vs, rfl, Or.inl (SqL.of hp), evN_lay S1 hv fun p vs G2 H2 eg2 eh2 nf S2 hp hv2 => q p vs G2 H2 (eg1.trans eg2) (eh1.trans eh2) nf S2 hp hv2⟩
theorem jn_listT (ha : JE C ls a (.tup ds)) (hn : NoG C "list" := by assumption) (hg : ∀ j, Gl (C.X j) "list" := by intro _; rfl) (hs : NS a := by intro _ _; rfl) : JN C ls (.Call (.Name "list" p1) [a] [] pos) ds :=
  jn_of (fun j => pe_ct1 j (list' C j) (hg j) hn boot_list hs) fun F G H σ S xx Q q => ha F G H σ S xx _ fun x G1 H1 eg1 eh1 S1 hx => by
    obtain ⟨p, vs, e0, ht, hv⟩ := dq_tup hx
    refine ⟨p, vs, by rw [e0], Or.inr ?_, evN_lay S1 hv fun p vs G2 H2 eg2 eh2 nf S2 hp hv2 => q p vs G2 H2 (eg1.trans eg2) (eh1.trans eh2) nf S2 hp hv2⟩
    exact ex_t S1.ex ht
theorem je_tupleL (ha : JC C ls a ds) (hn : NoG C "tuple" := by assumption) (hg : ∀ j, Gl (C.X j) "tuple" := by intro _; rfl) (hs : NS a := by intro _ _; rfl) : JE C ls (.Call (.Name "tuple" p1) [a] [] pos) (.tup ds) :=
  je_of (fun j => pe_ct1 j (tuple' C j) (hg j) hn boot_tuple hs) fun F G H σ S xx Q q => ha F G H σ S xx _ fun p vs G1 H1 eg1 eh1 S1 hp hv => ⟨p, vs, rfl, Or.inl ⟨SqL.of hp, ev_lay S1 hv fun v G2 H2 eg2 eh2 S2 hv2 => q v G2 H2 (eg1.trans eg2) (eh1.trans eh2) S2 hv2⟩⟩
theorem je_tupleT (ha : JE C ls a (.tup ds)) (hn : NoG C "tuple" := by assumption) (hg : ∀ j, Gl (C.X j) "tuple" := by intro _; rfl) (hs : NS a := by intro _ _; rfl) : JE C ls (.Call (.Name "tuple" p1) [a] [] pos) (.tup ds) :=
  je_of (fun j => pe_ct1 j (tuple' C j) (hg j) hn boot_tuple hs) fun F G H σ S xx Q q => ha F G H σ S xx _ fun x G1 H1 eg1 eh1 S1 hx => by
    obtain ⟨p, vs, e0, ht, hv⟩ := dq_tup hx
    subst e0
    refine ⟨p, vs, rfl, Or.inr ⟨?_, q _ G1 H1 eg1 eh1 S1 hx⟩⟩
    exact ex_t S1.ex ht
/-! slices -/
def oAny (C : Cs) (o : Option Expr) : TO := fun σ H Q => ∃ t : TO, (∀ i, PO (C.X i) o t) ∧ t σ H Q
theorem po_any (C : Cs) (o : Option Expr) (i : C.ι) : PO (C.X i) o (oAny C o) := ⟨fun pins s σ H Q I h => by
  obtain ⟨t, ht, q⟩ := h
  exact (ht i).run pins s σ H Q I q⟩
def JO (C : Cs) (ls : List Loc) (o : Option Expr) (n : Option Int) : Prop := ∀ F G H σ, Sat C.K F G H σ ls → Xok C.K C.E F G H σ ls → ∀ Q : Option Int → Hp → Prop, (∀ G' H', Ex G G' → Ex H H' → Sat C.K F G' H' σ ls → Q n H') → oAny C o σ H Q
theorem jo_none : JO C ls none none := fun F G H σ S xx Q q => ⟨tNoPart, fun _ => po_none, q G H (Ex.refl G) (Ex.refl H) S⟩
theorem jo_some {i : Int} (h : JE C ls e (.int i)) : JO C ls (some e) (some i) := fun F G H σ S xx Q q => ⟨tPart (eAny C e), fun j => po_some (pe_any C e j), h F G H σ S xx _ fun v G' H' eg eh S' hv => ⟨i, dq_int hv, q G' H' eg eh S'⟩⟩
/-- the items of ds[lo:hi] -/
def cutD (ds : List D) (lo hi : Option Int) : List D := (ds.drop (HT.sIx ds.length 0 lo)).take (HT.sIx ds.length ds.length hi - HT.sIx ds.length 0 lo)
theorem dqAll_cut {K : Fg} {G : Hp} {vs : List V} {lo hi : Option Int} (h : DqAll K G vs ds) : DqAll K G (cutV vs lo hi) (cutD ds lo hi) := by
  unfold cutV cutD
  rw [h.length]
  exact (h.drop _).take _
theorem jn_slice {lo hi : Option Expr} {l u : Option Int} (ha : JC C ls a ds) (h1 : JO C ls lo l) (h2 : JO C ls hi u) : JN C ls (.Subscript a (.Slice lo hi none p2) pos) (cutD ds l u) :=
  jn_of (fun j => pe_slice (sl_list' C j) (pe_any C a j) (po_any C lo j) (po_any C hi j)) fun F G H σ S xx Q q => ha F G H σ S xx _ fun p vs G1 H1 eg1 eh1 S1 hp hv => h1 F G1 H1 σ S1 (xx.step eg1 eh1) _ fun G2 H2 eg2 eh2 S2 => h2 F G2 H2 σ S2 (xx.step (eg1.trans eg2) (eh1.trans eh2)) _ fun G3 H3 eg3 eh3 S3 =>
    ⟨p, vs, rfl, SqL.of (eh3 _ _ (eh2 _ _ hp)), evN_lay S3 (dqAll_cut (dqAll_mono (eg2.trans eg3) hv)) fun p vs G4 H4 eg4 eh4 nf S4 hp hv2 => q p vs G4 H4 (((eg1.trans eg2).trans eg3).trans eg4) (((eh1.trans eh2).trans eh3).trans eh4) nf S4 hp hv2⟩
/-- a tuple's slice (the whole of it is the tuple itself) -/
theorem je_sliceT {lo hi : Option Expr} {l u : Option Int} (ha : JE C ls a (.tup ds)) (h1 : JO C ls lo l) (h2 : JO C ls hi u) (hw : ¬ (HT.sIx ds.length 0 l = 0 ∧ HT.sIx ds.length ds.length u = ds.length)) : JE C ls (.Subscript a (.Slice lo hi none p2) pos) (.tup (cutD ds l u)) :=
  je_of (fun j => pe_slice (sl_tup' C j) (pe_any C a j) (po_any C lo j) (po_any C hi j)) fun F G H σ S xx Q q => ha F G H σ S xx _ fun x G1 H1 eg1 eh1 S1 hx => h1 F G1 H1 σ S1 (xx.step eg1 eh1) _ fun G2 H2 eg2 eh2 S2 => h2 F G2 H2 σ S2 (xx.step (eg1.trans eg2) (eh1.trans eh2)) _ fun G3 H3 eg3 eh3 S3 => by
    obtain ⟨p, vs, e0, ht, hv⟩ := dq_tup (dq_mono (eg2.trans eg3) hx)
    refine ⟨p, vs, e0, ?_, by rw [hv.length]; exact hw, ev_lay S3 (dqAll_cut hv) fun v G4 H4 eg4 eh4 S4 hv2 => q v G4 H4 (((eg1.trans eg2).trans eg3).trans eg4) (((eh1.trans eh2).trans eh3).trans eh4) S4 hv2⟩
    exact ex_t S3.ex ht
/-! sums -/
theorem jn_cat (ha : JC C ls a ds) (hb : JC C ls b es) (hl : ds.length + es.length ≤ 1000000) : JN C ls (.BinOp a .Add b pos) (ds ++ es) :=
  jn_of (fun j => pe_op op_cat (pe_any C a j) (pe_any C b j)) fun F G H σ S xx Q q => ha F G H σ S xx _ fun p vs G1 H1 eg1 eh1 S1 hp hv => hb F G1 H1 σ S1 (xx.step eg1 eh1) _ fun p2 vs2 G2 H2 eg2 eh2 S2 hp2 hv2 =>
    ⟨p, p2, vs, vs2, rfl, rfl, eh2 _ _ hp, hp2, by rw [hv.length, hv2.length]; exact Nat.le_trans hl (by decide), evN_lay S2 ((dqAll_mono eg2 hv).append hv2) fun p vs G4 H4 eg4 eh4 nf S4 hp hv2 => q p vs G4 H4 ((eg1.trans eg2).trans eg4) ((eh1.trans eh2).trans eh4) nf S4 hp hv2⟩
theorem je_catT (ha : JE C ls a (.tup ds)) (hb : JE C ls b (.tup es)) (h0 : ds ≠ []) (hl : ds.length + es.length ≤ 1000000) : JE C ls (.BinOp a .Add b pos) (.tup (ds ++ es)) :=
  je_of (fun j => pe_op (op_catT' C j) (pe_any C a j) (pe_any C b j)) fun F G H σ S xx Q q => ha F G H σ S xx _ fun x G1 H1 eg1 eh1 S1 hx => hb F G1 H1 σ S1 (xx.step eg1 eh1) _ fun y G2 H2 eg2 eh2 S2 hy => by
    obtain ⟨p, vs, e0, ht, hv⟩ := dq_tup (dq_mono eg2 hx)
    obtain ⟨p2, vs2, e2, ht2, hv2⟩ := dq_tup hy
    refine ⟨p, p2, vs, vs2, e0, e2, ?_, ?_, fun z => ?_, by rw [hv.length, hv2.length]; exact Nat.le_trans hl (by decide), fun z => ?_, fun _ => ev_lay S2 (hv.append hv2) fun v G4 H4 eg4 eh4 S4 hv2 => q v G4 H4 ((eg1.trans eg2).trans eg4) ((eh1.trans eh2).trans eh4) S4 hv2⟩
    · exact ex_t S2.ex ht
    · exact ex_t S2.ex ht2
    · subst z
      have := hv.length
      cases ds with
      | nil => exact h0 rfl
      | cons _ _ => simp at this
    · subst z
      have := hv2.length
      have e3 : es = [] := by
        cases es with
        | nil => rfl
        | cons _ _ => simp at this
      rw [e3, List.append_nil] at q
      exact q _ G2 H2 (eg1.trans eg2) (eh1.trans eh2) S2 (.tup ht hv)
/-! isinstance -/
def D.kind : D → String
  | .non => "NoneType"
  | .bl _ => "bool"
  | .int _ => "int"
  | .str _ => "str"
  | .lst _ => "list"
  | .tup _ => "tuple"
  | .scr _ => "list"
  | .ref _ => "object"
  | .ty _ => "type"
  | .exc _ _ _ => "object"
  | .hand _ _ => "list"
  | .loose _ _ => "list"
def D.flatK : D → Bool
  | .ref _ => false
  | .ty _ => false
  | .exc _ _ _ => false
  | .hand _ _ => false
  | .loose _ _ => false
  | _ => true
theorem tyx_of {K : Fg} {G H : Hp} {v : V} (e : Ex G H) (h : Dq K G v d) (hf : d.flatK = true) : TyX K H v (.type d.kind) := by
  cases h with
  | non => exact .base .non
  | bl b => exact .base (.bl b)
  | int i => exact .base (.int i)
  | str x => exact .base (.str x)
  | lst h _ => exact .base (.lst (e _ _ h))
  | tup h _ =>
    rcases h with h | ⟨o, its, n, hk, hc, _⟩
    · rcases h with h | ⟨o, h⟩
      · exact .base (.tup (e _ _ h))
      · exact .fTuple (e _ _ h)
    · exact .kTuple hk hc
  | scr h =>
    rcases h with h | ⟨o, its, n, hk, hc, _⟩
    · rcases h with h | ⟨o, h⟩
      · exact .base (.lst (e _ _ h))
      · exact .base (.frz (e _ _ h))
    · exact .kList hk hc
  | ref a => cases hf
  | ty n => cases hf
  | exc _ _ _ => cases hf
  | hand _ _ => cases hf
  | loose _ => cases hf
/-- whether a value of that kind is of the class T -/
theorem je_isi {T : Str} {U : String} {k : Bool} (ha : JE C ls a d) (hf : d.flatK = true) (hk : kitB d.kind U = some k) (hT : bootBuiltins T = some (.type U)) (hnT : NoG C T := by assumption) (hn : NoG C "isinstance" := by assumption) (hg : ∀ j, Gl (C.X j) "isinstance" := by intro _; rfl) (hgT : ∀ j, Gl (C.X j) T := by intro _; rfl)
    (hs : NS a := by intro _ _; rfl) (hnn : T ≠ "__name__" := by decide) (hdb : (T == ("__debug__" : Str)) = false := by decide) :
    JE C ls (.Call (.Name "isinstance" p1) [a, .Name T p2] [] pos) (.bl k) :=
  je_of (fun j => pe_cb2 j (isi' C j) (hg j) hn (by decide +kernel) hs (fun _ _ => rfl) (pe_bltn (v := .ty U) (pos := p2) (hgT j) (noG hnT j) hT rfl hnn hdb)) fun F G H σ S xx Q q => ha F G H σ S xx _ fun x G1 H1 eg1 eh1 S1 hx => ⟨x, .ty U, _, _, k, rfl, .ty U, tyx_of S1.ex hx hf, kit_ty hk, q _ G1 H1 eg1 eh1 S1 (.bl k)⟩
def D.isTup : D → Bool
  | .tup _ => true
  | _ => false
def D.isInt : D → Bool
  | .int _ => true
  | .bl _ => true
  | _ => false
def D.isBool : D → Bool
  | .bl _ => true
  | _ => false
def D.isLst : D → Bool
  | .lst _ => true
  | .scr _ => true
  | _ => false
def D.isStr : D → Bool
  | .str _ => true
  | _ => false
theorem kit0_tup : kitB "NoneType" "tuple" = some false ∧ kitB "bool" "tuple" = some false ∧ kitB "int" "tuple" = some false ∧ kitB "str" "tuple" = some false ∧ kitB "list" "tuple" = some false ∧ kitB "tuple" "tuple" = some true ∧ kitB "list" "tuple" = some false := by decide +kernel
theorem kit_tup (d : D) (h : d.flatK = true) : kitB d.kind "tuple" = some d.isTup := by
  obtain ⟨h1, h2, h3, h4, h5, h6, h7⟩ := kit0_tup
  cases d with
  | non => exact h1
  | bl _ => exact h2
  | int _ => exact h3
  | str _ => exact h4
  | lst _ => exact h5
  | tup _ => exact h6
  | scr _ => exact h7
  | ref _ => cases h
  | ty _ => cases h
  | exc _ _ _ => cases h
  | hand _ _ => cases h
  | loose _ _ => cases h
theorem kit0_int : kitB "NoneType" "int" = some false ∧ kitB "bool" "int" = some true ∧ kitB "int" "int" = some true ∧ kitB "str" "int" = some false ∧ kitB "list" "int" = some false ∧ kitB "tuple" "int" = some false ∧ kitB "list" "int" = some false := by decide +kernel
theorem kit_int (d : D) (h : d.flatK = true) : kitB d.kind "int" = some d.isInt := by
  obtain ⟨h1, h2, h3, h4, h5, h6, h7⟩ := kit0_int
  cases d with
  | non => exact h1
  | bl _ => exact h2
  | int _ => exact h3
  | str _ => exact h4
  | lst _ => exact h5
  | tup _ => exact h6
  | scr _ => exact h7
  | ref _ => cases h
  | ty _ => cases h
  | exc _ _ _ => cases h
  | hand _ _ => cases h
  | loose _ _ => cases h
theorem kit0_bool : kitB "NoneType" "bool" = some false ∧ kitB "bool" "bool" = some true ∧ kitB "int" "bool" = some false ∧ kitB "str" "bool" = some false ∧ kitB "list" "bool" = some false ∧ kitB "tuple" "bool" = some false ∧ kitB "list" "bool" = some false := by decide +kernel
theorem kit_bool (d : D) (h : d.flatK = true) : kitB d.kind "bool" = some d.isBool := by
  obtain ⟨h1, h2, h3, h4, h5, h6, h7⟩ := kit0_bool
  cases d with
  | non => exact h1
  | bl _ => exact h2
  | int _ => exact h3
  | str _ => exact h4
  | lst _ => exact h5
  | tup _ => exact h6
  | scr _ => exact h7
  | ref _ => cases h
  | ty _ => cases h
  | exc _ _ _ => cases h
  | hand _ _ => cases h
  | loose _ _ => cases h
theorem kit0_lst : kitB "NoneType" "list" = some false ∧ kitB "bool" "list" = some false ∧ kitB "int" "list" = some false ∧ kitB "str" "list" = some false ∧ kitB "list" "list" = some true ∧ kitB "tuple" "list" = some false ∧ kitB "list" "list" = some true := by decide +kernel
theorem kit_lst (d : D) (h : d.flatK = true) : kitB d.kind "list" = some d.isLst := by
  obtain ⟨h1, h2, h3, h4, h5, h6, h7⟩ := kit0_lst
  cases d with
  | non => exact h1
  | bl _ => exact h2
  | int _ => exact h3
  | str _ => exact h4
  | lst _ => exact h5
  | tup _ => exact h6
  | scr _ => exact h7
  | ref _ => cases h
  | ty _ => cases h
  | exc _ _ _ => cases h
  | hand _ _ => cases h
  | loose _ _ => cases h
theorem kit0_str : kitB "NoneType" "str" = some false ∧ kitB "bool" "str" = some false ∧ kitB "int" "str" = some false ∧ kitB "str" "str" = some true ∧ kitB "list" "str" = some false ∧ kitB "tuple" "str" = some false ∧ kitB "list" "str" = some false := by decide +kernel
theorem kit_str (d : D) (h : d.flatK = true) : kitB d.kind "str" = some d.isStr := by
  obtain ⟨h1, h2, h3, h4, h5, h6, h7⟩ := kit0_str
  cases d with
  | non => exact h1
  | bl _ => exact h2
  | int _ => exact h3
  | str _ => exact h4
  | lst _ => exact h5
  | tup _ => exact h6
  | scr _ => exact h7
  | ref _ => cases h
  | ty _ => cases h
  | exc _ _ _ => cases h
  | hand _ _ => cases h
  | loose _ _ => cases h
theorem boot_boolT : bootBuiltins "bool" = some (.type "bool") := by decide +kernel
theorem boot_strT : bootBuiltins "str" = some (.type "str") := by decide +kernel
variable {T : Str} {U : String} {k : Bool}
theorem je_isTup (ha : JE C ls a d) (hf : d.flatK = true := by rfl) (hnT : NoG C "tuple" := by assumption) (hn : NoG C "isinstance" := by assumption) (hg : ∀ j, Gl (C.X j) "isinstance" := by intro _; rfl) (hgT : ∀ j, Gl (C.X j) "tuple" := by intro _; rfl) (hs : NS a := by intro _ _; rfl) :
    JE C ls (.Call (.Name "isinstance" p1) [a, .Name "tuple" p2] [] pos) (.bl d.isTup) := je_isi ha hf (kit_tup d hf) boot_tuple hnT hn hg hgT hs
theorem je_isInt (ha : JE C ls a d) (hf : d.flatK = true := by rfl) (hnT : NoG C "int" := by assumption) (hn : NoG C "isinstance" := by assumption) (hg : ∀ j, Gl (C.X j) "isinstance" := by intro _; rfl) (hgT : ∀ j, Gl (C.X j) "int" := by intro _; rfl) (hs : NS a := by intro _ _; rfl) :
    JE C ls (.Call (.Name "isinstance" p1) [a, .Name "int" p2] [] pos) (.bl d.isInt) := je_isi ha hf (kit_int d hf) boot_int hnT hn hg hgT hs
theorem je_isBool (ha : JE C ls a d) (hf : d.flatK = true := by rfl) (hnT : NoG C "bool" := by assumption) (hn : NoG C "isinstance" := by assumption) (hg : ∀ j, Gl (C.X j) "isinstance" := by intro _; rfl) (hgT : ∀ j, Gl (C.X j) "bool" := by intro _; rfl) (hs : NS a := by intro _ _; rfl) :
    JE C ls (.Call (.Name "isinstance" p1) [a, .Name "bool" p2] [] pos) (.bl d.isBool) := je_isi ha hf (kit_bool d hf) boot_boolT hnT hn hg hgT hs
theorem je_isLst (ha : JE C ls a d) (hf : d.flatK = true := by rfl) (hnT : NoG C "list" := by assumption) (hn : NoG C "isinstance" := by assumption) (hg : ∀ j, Gl (C.X j) "isinstance" := by intro _; rfl) (hgT : ∀ j, Gl (C.X j) "list" := by intro _; rfl) (hs : NS a := by intro _ _; rfl) :
    JE C ls (.Call (.Name "isinstance" p1) [a, .Name "list" p2] [] pos) (.bl d.isLst) := je_isi ha hf (kit_lst d hf) boot_list hnT hn hg hgT hs
theorem je_isStr (ha : JE C ls a d) (hf : d.flatK = true := by rfl) (hnT : NoG C "str" := by assumption) (hn : NoG C "isinstance" := by assumption) (hg : ∀ j, Gl (C.X j) "isinstance" := by intro _; rfl) (hgT : ∀ j, Gl (C.X j) "str" := by intro _; rfl) (hs : NS a := by intro _ _; rfl) :
    JE C ls (.Call (.Name "isinstance" p1) [a, .Name "str" p2] [] pos) (.bl d.isStr) := je_isi ha hf (kit_str d hf) boot_strT hnT hn hg hgT hs
end
end Qp

/-! Q4: statements, loops. -/
namespace Qp
open PySem PySem.Spec PyProof.Rows L2
structure Post where
  nx : List Loc → Prop
  rt : D → Prop
  bk : List Loc → Prop := fun _ => False
  ct : List Loc → Prop := fun _ => False
/-- what stands ahead of all is kept -/
def Kp (F : Addr → Prop) (H H' : Hp) : Prop := (∀ a, F a → H' a = H a) ∧ ∀ a ps, H a = some (.tbl ps) → Gr (.tbl ps) (H' a)
theorem Kp.refl {F : Addr → Prop} {H : Hp} : Kp F H H := ⟨fun _ _ => rfl, fun _ _ h => .of h⟩
theorem Kp.trans {F : Addr → Prop} {H H1 H2 : Hp} (a : Kp F H H1) (b : Kp F H1 H2) : Kp F H H2 := ⟨fun x h => (b.1 x h).trans (a.1 x h), fun x ps h => by
  obtain ⟨m1, e1, t1⟩ := a.2 x ps h
  obtain ⟨m2, e2, t2⟩ := b.2 x _ e1
  exact ⟨m1 ++ m2, by rw [e2, Array.append_assoc], fun z => by rw [← Array.append_assoc]; exact t2 (t1 z)⟩⟩
/-- a thing that is no table, and not among F, is put -/
theorem Kp.put {F : Addr → Prop} {H H' : Hp} {p : Addr} {o : HO} (k : Kp F H H') (nt : NT H' p) (nf : ¬ F p) : Kp F H (upd H' p o) := ⟨fun a fa => by
  have ne : a ≠ p := fun z => nf (z ▸ fa)
  rw [upd_ne ne]
  exact k.1 a fa, fun a ps h => by
  obtain ⟨m, e, t⟩ := k.2 a ps h
  have ne : a ≠ p := fun z => by
    obtain ⟨u, e1, n⟩ := nt
    rw [z, e1] at e
    exact n _ (Option.some.inj e)
  exact ⟨m, by rw [upd_ne ne]; exact e, t⟩⟩
theorem Sat.kp {K : Fg} {F : Addr → Prop} {G H H' : Hp} {σ : L2.St} {ls : List Loc} (S : Sat K F G H σ ls) (e : Ex H H') : Kp F H H' := ⟨fun a fa => ex_eq e (S.fo a fa).2, fun a _ h => e a _ h⟩
structure Fol (K : Fg) (E : Xw) (F : Addr → Prop) (G H : Hp) (D' : Ends) (P : Post) : Prop where
  nx : ∀ G' H' σ' ls', Ex G G' → Kp F H H' → Sat K F G' H' σ' ls' → P.nx ls' → D'.nx σ' H'
  rt : ∀ G' H' v d, Ex G G' → Kp F H H' → (∀ a, F a → G' a = none) → Ex G' H' → Dq K G' v d → P.rt d → D'.rt v H'
  bk : ∀ G' H' σ' ls', Ex G G' → Kp F H H' → Sat K F G' H' σ' ls' → P.bk ls' → D'.bk σ' H'
  ct : ∀ G' H' σ' ls', Ex G G' → Kp F H H' → Sat K F G' H' σ' ls' → P.ct ls' → D'.ct σ' H'
  tb : ∀ P, E.T P → TabAt G P
  dx : ∀ p ∈ E.dx, XdAt K G p.1 p.2
  ex : ∀ G' H' σ' ls' C dd fs gs, Ex G G' → Kp F H H' → Sat K F G' H' σ' ls' → G' dd = some (.xd fs) → FsOk K G' fs gs → E.xp ls' C gs → E.W (.ref C) (some dd) σ' H'
theorem Fol.step {K : Fg} {E : Xw} {F : Addr → Prop} {G H G1 H1 : Hp} {D' : Ends} {P : Post} (f : Fol K E F G H D' P) (eg : Ex G G1) (k : Kp F H H1) : Fol K E F G1 H1 D' P :=
  ⟨fun G' H' σ' ls' e k' => f.nx G' H' σ' ls' (eg.trans e) (k.trans k'), fun G' H' v d e k' => f.rt G' H' v d (eg.trans e) (k.trans k'), fun G' H' σ' ls' e k' => f.bk G' H' σ' ls' (eg.trans e) (k.trans k'), fun G' H' σ' ls' e k' => f.ct G' H' σ' ls' (eg.trans e) (k.trans k'), fun P h => (f.tb P h).mono eg, fun p h => (f.dx p h).mono eg, fun G' H' σ' ls' C dd fs gs e k' => f.ex G' H' σ' ls' C dd fs gs (eg.trans e) (k.trans k')⟩
theorem Fol.xok {K : Fg} {E : Xw} {F : Addr → Prop} {G H : Hp} {σ : L2.St} {ls : List Loc} {D' : Ends} {P : Post} (f : Fol K E F G H D' P) (S : Sat K F G H σ ls) : Xok K E F G H σ ls := ⟨f.tb, f.dx, fun G' H' C dd fs gs eg eh S' => f.ex G' H' σ ls C dd fs gs eg (S.kp eh) S'⟩
def Hs (K : Fg) (E : Xw) (t : TS) (ls : List Loc) (P : Post) : Prop := ∀ F G H σ D', Sat K F G H σ ls → Fol K E F G H D' P → t D' σ H
def sAny (C : Cs) (s : Stmt) : TS := fun D' σ H => ∃ t : TS, (∀ i, PS (C.X i) s t) ∧ t D' σ H
theorem ps_any (C : Cs) (s : Stmt) (i : C.ι) : PS (C.X i) s (sAny C s) := ⟨fun pins st σ H D' I h => by
  obtain ⟨t, ht, q⟩ := h
  exact (ht i).run pins st σ H D' I q⟩
def bAny (C : Cs) (s : List Stmt) : TS := fun D' σ H => ∃ t : TS, (∀ i, PSs (C.X i) s t) ∧ t D' σ H
theorem pb_any (C : Cs) (s : List Stmt) (i : C.ι) : PSs (C.X i) s (bAny C s) := ⟨fun pins st σ H D' I h => by
  obtain ⟨t, ht, q⟩ := h
  exact (ht i).run pins st σ H D' I q⟩
def JS (C : Cs) (ls : List Loc) (s : Stmt) (P : Post) : Prop := Hs C.K C.E (sAny C s) ls P
def JB (C : Cs) (ls : List Loc) (s : List Stmt) (P : Post) : Prop := Hs C.K C.E (bAny C s) ls P
section
variable {C : Cs} {ls : List Loc} {s : Stmt} {rest b1 b2 body : List Stmt} {P : Post} {e a c : Expr} {d : D} {ds : List D} {pos pos' : Pos}
theorem js_of {t : TS} (h : ∀ i, PS (C.X i) s t) (ev : Hs C.K C.E t ls P) : JS C ls s P := fun F G H σ D' S f => ⟨t, h, ev F G H σ D' S f⟩
theorem jb_of {t : TS} (h : ∀ i, PSs (C.X i) body t) (ev : Hs C.K C.E t ls P) : JB C ls body P := fun F G H σ D' S f => ⟨t, h, ev F G H σ D' S f⟩
theorem jb_nil (h : P.nx ls) : JB C ls [] P := jb_of (fun _ => pss_nil) fun F G H σ D' S f => f.nx G H σ ls (Ex.refl G) Kp.refl S h
theorem jb_cons (R : List Loc → Prop) (h : JS C ls s { P with nx := R }) (k : ∀ ls', R ls' → JB C ls' rest P) : JB C ls (s :: rest) P :=
  jb_of (fun j => pss_cons (ps_any C s j) (pb_any C rest j)) fun F G H σ D' S f => h F G H σ _ S ⟨fun G' H' σ' ls' eg kp S' r => k ls' r F G' H' σ' D' S' (f.step eg kp), f.rt, f.bk, f.ct, f.tb, f.dx, f.ex⟩
theorem jb_one (h : JS C ls s P) : JB C ls [s] P := jb_of (fun j => pss_one (ps_any C s j)) h
/-- forget, weaken -/
theorem jb_post {P' : Post} (h : JB C ls body P') (h1 : ∀ l, P'.nx l → P.nx l) (h2 : ∀ d, P'.rt d → P.rt d) (h3 : ∀ l, P'.bk l → P.bk l) (h4 : ∀ l, P'.ct l → P.ct l) : JB C ls body P := fun F G H σ D' S f =>
  h F G H σ D' S ⟨fun G' H' σ' ls' eg kp S' r => f.nx G' H' σ' ls' eg kp S' (h1 _ r), fun G' H' v d eg kp fg e hv r => f.rt G' H' v d eg kp fg e hv (h2 _ r), fun G' H' σ' ls' eg kp S' r => f.bk G' H' σ' ls' eg kp S' (h3 _ r), fun G' H' σ' ls' eg kp S' r => f.ct G' H' σ' ls' eg kp S' (h4 _ r), f.tb, f.dx, f.ex⟩
/-! stores -/
abbrev StoreOk (C : Cs) (i : Nat) (x : Str) : Prop := C.N[i]? = some x ∧ ∀ j, L2.Loc (C.X j).env.scope x ∧ ((C.X j).fn x = true ∨ (C.X j).env.scope.names.lookup x = some .local)
theorem js_set (i : Nat) {x : Str} (he : JE C ls e d) (hn : P.nx (ls.set i (.val d))) (hi : C.N[i]? = some x := by rfl) (hx : ∀ j, L2.Loc (C.X j).env.scope x := by intro _; first | exact .inl rfl | exact .inr rfl)
    (hs : ∀ j, swapsWith e (some (.Name x pos')) pos.line (C.X j).env = pure false := by intro _; rfl) (hf : ∀ j, (C.X j).fn x = true ∨ (C.X j).env.scope.names.lookup x = some .local := by intro _; first | exact .inl rfl | exact .inr rfl) : JS C ls (.Assign [.Name x pos'] e pos) P :=
  js_of (fun j => ps_set (i := i) (by rw [C.hN]; exact C.nd) (by rw [C.hN]; exact hi) (hx j) (pe_any C e j) (hs j) (hf j)) fun F G H σ D' S f => he F G H σ S (f.xok S) _ fun v G' H' eg eh S' hv => f.nx G' H' _ _ eg (S.kp eh) (S'.setV hv) hn
theorem jb_set (i : Nat) {x : Str} (he : JE C ls e d) (k : JB C (ls.set i (.val d)) rest P) (hi : C.N[i]? = some x := by rfl) (hx : ∀ j, L2.Loc (C.X j).env.scope x := by intro _; first | exact .inl rfl | exact .inr rfl)
    (hs : ∀ j, swapsWith e (some (.Name x pos')) pos.line (C.X j).env = pure false := by intro _; rfl) (hf : ∀ j, (C.X j).fn x = true ∨ (C.X j).env.scope.names.lookup x = some .local := by intro _; first | exact .inl rfl | exact .inr rfl) : JB C ls (.Assign [.Name x pos'] e pos :: rest) P :=
  jb_cons (fun l => l = ls.set i (.val d)) (js_set i he rfl hi hx hs hf) fun _ h => h ▸ k
theorem js_setN (i : Nat) {x : Str} (he : JN C ls e ds) (hn : P.nx (ls.set i (.own ds))) (hi : C.N[i]? = some x := by rfl) (hx : ∀ j, L2.Loc (C.X j).env.scope x := by intro _; first | exact .inl rfl | exact .inr rfl)
    (hs : ∀ j, swapsWith e (some (.Name x pos')) pos.line (C.X j).env = pure false := by intro _; rfl) (hf : ∀ j, (C.X j).fn x = true ∨ (C.X j).env.scope.names.lookup x = some .local := by intro _; first | exact .inl rfl | exact .inr rfl) : JS C ls (.Assign [.Name x pos'] e pos) P :=
  js_of (fun j => ps_set (i := i) (by rw [C.hN]; exact C.nd) (by rw [C.hN]; exact hi) (hx j) (pe_any C e j) (hs j) (hf j)) fun F G H σ D' S f => he F G H σ S (f.xok S) _ fun p vs G' H' eg eh nf S' hp hv => f.nx G' H' _ _ eg (S.kp eh) (S'.setN nf hp hv) hn
theorem jb_setN (i : Nat) {x : Str} (he : JN C ls e ds) (k : JB C (ls.set i (.own ds)) rest P) (hi : C.N[i]? = some x := by rfl) (hx : ∀ j, L2.Loc (C.X j).env.scope x := by intro _; first | exact .inl rfl | exact .inr rfl)
    (hs : ∀ j, swapsWith e (some (.Name x pos')) pos.line (C.X j).env = pure false := by intro _; rfl) (hf : ∀ j, (C.X j).fn x = true ∨ (C.X j).env.scope.names.lookup x = some .local := by intro _; first | exact .inl rfl | exact .inr rfl) : JB C ls (.Assign [.Name x pos'] e pos :: rest) P :=
  jb_cons (fun l => l = ls.set i (.own ds)) (js_setN i he rfl hi hx hs hf) fun _ h => h ▸ k
/-! return -/
theorem js_ret (he : JE C ls e d) (h : P.rt d) : JS C ls (.Return (some e) pos) P := js_of (fun j => ps_ret (pe_any C e j)) fun F G H σ D' S f => he F G H σ S (f.xok S) _ fun v G' H' eg eh S' hv => f.rt G' H' v d eg (S.kp eh) (fun a fa => (S'.fo a fa).1) S'.ex hv h
theorem jb_ret (he : JE C ls e d) (h : P.rt d) : JB C ls (.Return (some e) pos :: rest) P := jb_cons (fun _ => False) (js_ret he h) fun _ h => h.elim
theorem js_retN (h : P.rt .non) : JS C ls (.Return none pos) P := js_of (fun j => ps_retN) fun F G H σ D' S f => f.rt G H _ _ (Ex.refl G) Kp.refl (fun a fa => (S.fo a fa).1) S.ex .non h
/-- an own list from here on as frozen -/
theorem jb_thaw (i : Nat) (hl : ls[i]? = some (.own ds)) (k : JB C (ls.set i (.val (.lst ds))) body P) : JB C ls body P := fun F G H σ D' S f => by
  obtain ⟨G', eg, fg, S'⟩ := S.thaw hl
  exact k F G' H σ D' S' (f.step eg Kp.refl)
theorem jb_forget (i : Nat) (k : JB C (ls.set i .any) body P) : JB C ls body P := fun F G H σ D' S f => by
  have S' := S.forget (i := i) (σ.getD i none)
  have e : σ.set i (σ.getD i none) = σ := by
    apply List.ext_getElem?
    intro j
    by_cases hj : i = j
    · subst hj
      by_cases hi : i < σ.length
      · rw [List.getElem?_set_self hi, List.getD_eq_getElem?_getD, List.getElem?_eq_getElem hi]; rfl
      · rw [List.getElem?_eq_none (by simpa using hi), List.getElem?_eq_none (by omega)]
    · rw [List.getElem?_set_ne hj]
  rw [e] at S'
  exact k F G H σ D' S' f
/-- a block's end, some slots forgotten -/
def anys (ls : List Loc) (fs : List Nat) : List Loc := fs.foldl (fun l i => l.set i .any) ls
theorem jb_end (fs : List Nat) (h : P.nx (anys ls fs)) : JB C ls [] P := by
  induction fs generalizing ls with
  | nil => exact jb_nil h
  | cons i r ih => exact jb_forget i (ih h)
/-! if -/
theorem js_if {k : Bool} (hc : JT C ls c k) (h1 : k = true → JB C ls b1 P) (h2 : k = false → JB C ls b2 P) : JS C ls (.If c b1 b2 pos) P :=
  js_of (fun j => ps_if (pt_any C c j) (pb_any C b1 j) (pb_any C b2 j)) fun F G H σ D' S f => hc F G H σ S (f.xok S) _ fun G' H' eg eh S' => by
    cases k with
    | true => rw [if_pos rfl]; exact h1 rfl F G' H' σ D' S' (f.step eg (S.kp eh))
    | false => rw [if_neg Bool.false_ne_true]; exact h2 rfl F G' H' σ D' S' (f.step eg (S.kp eh))
/-- if c: .. (leaves by a return), then the rest -/
theorem jb_if {k : Bool} (R : List Loc → Prop) (hc : JT C ls c k) (h1 : k = true → JB C ls b1 { P with nx := R }) (h2 : k = false → JB C ls b2 { P with nx := R }) (h : ∀ ls', R ls' → JB C ls' rest P) : JB C ls (.If c b1 b2 pos :: rest) P :=
  jb_cons R (js_if hc h1 h2) h
/-- if c: .. that never goes on, then the rest with ¬ c -/
theorem jb_ifx {k : Bool} (hc : JT C ls c k) (h1 : k = true → JB C ls b1 { P with nx := fun _ => False }) (h : k = false → JB C ls rest P) : JB C ls (.If c b1 [] pos :: rest) P :=
  jb_cons (fun l => k = false ∧ l = ls) (js_if hc (fun hk => jb_post (h1 hk) (fun _ z => False.elim z) (fun _ z => z) (fun _ z => z) (fun _ z => z)) fun hk => jb_nil ⟨hk, rfl⟩) fun l hl => by
    obtain ⟨hk, rfl⟩ := hl
    exact h hk
/-! append -/
theorem js_app (i : Nat) {x : Str} (he : JE C ls e d) (hl : ls[i]? = some (.own ds)) (hn : P.nx (ls.set i (.own (ds ++ [d])))) (hz : ds.length < 1000000 := by first | decide | omega | assumption) (hi : C.N[i]? = some x := by rfl)
    (hv : ∀ j, Vis (C.X j).env.scope x := by intro _; first | exact Or.inl rfl | exact Or.inr (Or.inl rfl) | exact Or.inr (Or.inr rfl)) (hs : NS e := by intro _ _; rfl) {p1 p2 p3 : Pos}
    (hd : (x == ("__debug__" : Str)) = false := by decide) (hcd : (x == ("__classdict__" : Str)) = false := by decide) (hsw : ∀ j, swapsWith (.Call (.Attribute (.Name x p1) "append" p2) [e] [] p3) none pos.line (C.X j).env = pure false := by intro _; rfl)
    (hb : ∀ j, PE (C.X j) (.Call (.Attribute (.Name x p1) "append" p2) [e] [] p3) (tBM C.K "list" rAppend (tVar i) (tCons (eAny C e) tNil)) := by intro j; exact pe_bm PySem.F.plainAttrs_list PySem.F.slot_list_append PySem.F.type_list_append mt_append (pv _) (pa_cons (pe_any _ _ j) pa_nil)) :
    JS C ls (.Expr (.Call (.Attribute (.Name x p1) "append" p2) [e] [] p3) pos) P :=
  js_of (fun j => ps_expr (hb j) (hsw j)) fun F G H σ D' S f => by
    obtain ⟨p, vs, ep, hp, hv, gp, nf⟩ := S.ownAt hl
    refine ⟨.ref p, ep, Or.inl ⟨rfl, vs, SqL.of hp⟩, he F G H σ S (f.xok S) _ fun v G' H' eg eh S' hv' => ?_⟩
    have hp' := eh _ _ hp
    refine ⟨p, vs, v, rfl, rfl, hp', ?_, ?_⟩
    · rw [hv.length]
      exact Nat.lt_of_lt_of_le hz (by decide)
    · exact f.nx G' _ σ _ eg ((S.kp eh).put (nt_lst hp') nf) (S'.mut hl ep ((dqAll_mono eg hv).append (.cons hv' .nil))) hn
theorem jb_app (i : Nat) {x : Str} (he : JE C ls e d) (hl : ls[i]? = some (.own ds)) (k : JB C (ls.set i (.own (ds ++ [d]))) rest P) (hz : ds.length < 1000000 := by first | decide | omega | assumption) (hi : C.N[i]? = some x := by rfl)
    (hv : ∀ j, Vis (C.X j).env.scope x := by intro _; first | exact Or.inl rfl | exact Or.inr (Or.inl rfl) | exact Or.inr (Or.inr rfl)) (hs : NS e := by intro _ _; rfl) {p1 p2 p3 : Pos}
    (hd : (x == ("__debug__" : Str)) = false := by decide) (hcd : (x == ("__classdict__" : Str)) = false := by decide) (hsw : ∀ j, swapsWith (.Call (.Attribute (.Name x p1) "append" p2) [e] [] p3) none pos.line (C.X j).env = pure false := by intro _; rfl)
    (hb : ∀ j, PE (C.X j) (.Call (.Attribute (.Name x p1) "append" p2) [e] [] p3) (tBM C.K "list" rAppend (tVar i) (tCons (eAny C e) tNil)) := by intro j; exact pe_bm PySem.F.plainAttrs_list PySem.F.slot_list_append PySem.F.type_list_append mt_append (pv _) (pa_cons (pe_any _ _ j) pa_nil)) :
    JB C ls (.Expr (.Call (.Attribute (.Name x p1) "append" p2) [e] [] p3) pos :: rest) P :=
  jb_cons (fun l => l = ls.set i (.own (ds ++ [d]))) (js_app i he hl rfl hz hi hv hs hd hcd hsw hb) fun _ h => h ▸ k
theorem js_ifx {k : Bool} (hc : JT C ls c k) (h1 : k = true → JB C ls b1 P) (h2 : k = false → P.nx ls) : JS C ls (.If c b1 [] pos) P := js_if hc h1 fun h => jb_nil (h2 h)
/-! loops -/
/-- a for over anything: Pv by the turn and the slots; c: what the iterable turned out to be -/
theorem hs_forX {κ : Type} {wi : TI} {g : TG} {tb : TS} (Pv : κ → Nat → List Loc → Prop) (n : κ → Nat) (J : κ → Hp → It → Prop)
    (hw : ∀ F G H σ, Sat C.K F G H σ ls → Xok C.K C.E F G H σ ls → ∀ R : It → Hp → Prop, (∀ c Jt G' H', Ex G G' → Ex H H' → Sat C.K F G' H' σ ls → J c G' Jt → R Jt H') → wi σ H R) (h0 : ∀ c G Jt, J c G Jt → Pv c 0 ls)
    (hstop : ∀ c G Jt H, J c G Jt → Ex G H → Jt.stop (n c) H) (hgo : ∀ c G Jt H i, J c G Jt → Ex G H → i < n c → Jt.go i H)
    (hs : ∀ c F G G0 H σ ls' i x Jt H1, J c G0 Jt → Ex G0 G → i < n c → Sat C.K F G H σ ls' → Pv c i ls' → Jt.yld i H x H1 → ∀ D' : Ends, Fol C.K C.E F G H D' { nx := Pv c (i + 1), rt := P.rt, bk := P.nx, ct := Pv c (i + 1) } → g x σ H1 fun σ2 H2 => tb D' σ2 H2)
    (hd : ∀ c G Jt ls', J c G Jt → Pv c (n c) ls' → P.nx ls') : Hs C.K C.E (tFor wi g tb) ls P := fun F G H σ D' S f => hw F G H σ S (f.xok S) _ fun c Jt G1 H1 eg1 eh1 S1 hJ => by
  have f1 := f.step eg1 (S.kp eh1)
  refine ⟨fun i m σ' H' => m = n c - i ∧ i ≤ n c ∧ ∃ G' ls', Ex G1 G' ∧ Kp F H1 H' ∧ Sat C.K F G' H' σ' ls' ∧ Pv c i ls', ⟨n c, by simp, Nat.zero_le _, G1, ls, Ex.refl _, Kp.refl, S1, h0 c G1 Jt hJ⟩, ?_⟩
  rintro i m σ' H' ⟨rfl, hi, G', ls', eg', kp', S', p⟩
  by_cases hlt : i < n c
  · refine .inr ⟨hgo c G1 Jt H' i hJ (eg'.trans S'.ex) hlt, fun σ2 H2 => ∃ G2 ls2, Ex G1 G2 ∧ Kp F H1 H2 ∧ Sat C.K F G2 H2 σ2 ls2 ∧ Pv c (i + 1) ls2, fun σ2 H2 h => ⟨n c - (i + 1), by omega, rfl, hlt, h⟩, fun x H2 y => ?_⟩
    refine hs c F G' G1 H' σ' ls' i x Jt H2 hJ eg' hlt S' p y _ ⟨fun G3 H3 σ3 ls3 eg3 kp3 S3 r => ⟨G3, ls3, eg'.trans eg3, kp'.trans kp3, S3, r⟩, fun G3 H3 v d eg3 kp3 fg e3 hv r => f1.rt G3 H3 v d (eg'.trans eg3) (kp'.trans kp3) fg e3 hv r, fun G3 H3 σ3 ls3 eg3 kp3 S3 r => f1.nx G3 H3 σ3 ls3 (eg'.trans eg3) (kp'.trans kp3) S3 r, fun G3 H3 σ3 ls3 eg3 kp3 S3 r => ⟨G3, ls3, eg'.trans eg3, kp'.trans kp3, S3, r⟩, fun P h => (f1.tb P h).mono eg', fun p h => (f1.dx p h).mono eg', fun G3 H3 σ3 ls3 C dd fs gs eg3 kp3 => f1.ex G3 H3 σ3 ls3 C dd fs gs (eg'.trans eg3) (kp'.trans kp3)⟩
  · have e : i = n c := by omega
    subst e
    exact .inl ⟨hstop c G1 Jt H' hJ (eg'.trans S'.ex), f1.nx G' H' σ' ls' eg' kp' S' (hd c G1 Jt ls' hJ p)⟩
theorem hs_for {wi : TI} {g : TG} {tb : TS} (Pv : Nat → List Loc → Prop) (n : Nat) (J : Hp → It → Prop)
    (hw : ∀ F G H σ, Sat C.K F G H σ ls → Xok C.K C.E F G H σ ls → ∀ R : It → Hp → Prop, (∀ Jt G' H', Ex G G' → Ex H H' → Sat C.K F G' H' σ ls → J G' Jt → R Jt H') → wi σ H R) (h0 : Pv 0 ls)
    (hstop : ∀ G Jt H, J G Jt → Ex G H → Jt.stop n H) (hgo : ∀ G Jt H i, J G Jt → Ex G H → i < n → Jt.go i H)
    (hs : ∀ F G G0 H σ ls' i x Jt H1, J G0 Jt → Ex G0 G → i < n → Sat C.K F G H σ ls' → Pv i ls' → Jt.yld i H x H1 → ∀ D' : Ends, Fol C.K C.E F G H D' { nx := Pv (i + 1), rt := P.rt, bk := P.nx, ct := Pv (i + 1) } → g x σ H1 fun σ2 H2 => tb D' σ2 H2)
    (hd : ∀ ls', Pv n ls' → P.nx ls') : Hs C.K C.E (tFor wi g tb) ls P :=
  hs_forX (κ := Unit) (fun _ => Pv) (fun _ => n) (fun _ => J) (fun F G H σ S xx R q => hw F G H σ S xx R fun Jt G' H' => q () Jt G' H') (fun _ _ _ _ => h0) (fun _ => hstop) (fun _ => hgo) (fun _ => hs) fun _ _ _ ls' _ => hd ls'
theorem range' {C : Cs} (j : C.ι) {tg a : Expr} {p pos : Pos} (hg : Gl (C.X j) "range") (hm : NoG C "range") (hs : NS a) : PI (C.X j) tg (.Call (.Name "range" p) [a] [] pos) (iRng1 (tCons (eAny C a) tNil)) := pi_range1 hg (noG hm j) (pa_cons (pe_any C a j) pa_nil (hs _ _)) (hs _ _)
/-- for x in range(e) -/
theorem js_forR [Cold C] {n : Int} {x : Str} {p1 p2 p3 : Pos} (j : Nat) (Pv : Nat → List Loc → Prop) (he : JE C ls e (.int n)) (hn : n < 2 ^ 61) (h0 : Pv 0 ls) (hb : ∀ (i : Nat) ls', i < n.toNat → Pv i ls' → JB C (ls'.set j (.val (.int i))) body { nx := Pv (i + 1), rt := P.rt, bk := P.nx, ct := Pv (i + 1) })
    (hd : ∀ ls', Pv n.toNat ls' → P.nx ls') (hm : NoG C "range" := by assumption) (hg : ∀ j, Gl (C.X j) "range" := by intro _; rfl) (hs : NS e := by intro _ _; rfl) (hi : C.N[j]? = some x := by rfl) (hx : ∀ i, L2.Loc (C.X i).env.scope x := by intro _; first | exact .inl rfl | exact .inr rfl)
    (hf : ∀ i, (C.X i).fn x = true ∨ (C.X i).env.scope.names.lookup x = some .local := by intro _; first | exact .inl rfl | exact .inr rfl) (hp : ∀ i, PassesOwn (model (C.X i).prog (C.X i).w) (C.X i).A (C.X i).env (C.X i).xe := by intro q; first | exact PassesOwn.never | exact passes_of rfl | exact q.owns) (hfs : ∀ i x, foldedSetIterable (.Call (.Name "range" p1) [e] [] p2) (C.X i).env x = pure x := by intro _ _; rfl)
    (h62 : -(2 ^ 62) ≤ n := by omega) : JS C ls (.For (.Name x p3) (.Call (.Name "range" p1) [e] [] p2) body [] pos) P :=
  js_of (fun i => ps_for (hp i) (C.calm i Cold.h) (range' i (hg i) hm hs) (pg_name (i := j) (by rw [C.hN]; exact C.nd) (by rw [C.hN]; exact hi) (hx i) (hf i)) (pb_any C body i) (hfs i))
    (hs_for Pv n.toNat (fun _ Jt => Jt = Itr 0 n.toNat)
      (fun F G H σ S xx R q => he F G H σ S xx _ fun v G' H' eg eh S' hv => ⟨n, by rw [dq_int hv], h62, by omega, q _ G' H' eg eh S' rfl⟩) h0
      (fun G Jt H hJ e => by subst hJ; exact Nat.le_refl _) (fun G Jt H i hJ e hi => by subst hJ; exact hi)
      (fun F G G0 H σ ls' i x Jt H1 hJ eg hi S p y D' f => by
        subst hJ
        obtain ⟨rfl, rfl⟩ := y
        have e0 : (0 : Int) + (i : Int) = (i : Int) := Int.zero_add _
        rw [e0]
        exact hb i ls' hi p F G H1 _ D' (S.setV (.int _)) f) hd)
/-- for x in a frozen list; in a tuple -/
theorem js_forL [Cold C] {x : Str} {p3 : Pos} (j : Nat) (Pv : Nat → List Loc → Prop) (he : JE C ls e (.lst ds)) (h0 : Pv 0 ls) (hb : ∀ (i : Nat) d ls', ds[i]? = some d → Pv i ls' → JB C (ls'.set j (.val d)) body { nx := Pv (i + 1), rt := P.rt, bk := P.nx, ct := Pv (i + 1) })
    (hd : ∀ ls', Pv ds.length ls' → P.nx ls') (hi : C.N[j]? = some x := by rfl) (hx : ∀ i, L2.Loc (C.X i).env.scope x := by intro _; first | exact .inl rfl | exact .inr rfl)
    (hf : ∀ i, (C.X i).fn x = true ∨ (C.X i).env.scope.names.lookup x = some .local := by intro _; first | exact .inl rfl | exact .inr rfl) (hp : ∀ i, PassesOwn (model (C.X i).prog (C.X i).w) (C.X i).A (C.X i).env (C.X i).xe := by intro q; first | exact PassesOwn.never | exact passes_of rfl | exact q.owns) (hfs : ∀ i x, foldedSetIterable e (C.X i).env x = pure x := by intro _ _; rfl) : JS C ls (.For (.Name x p3) e body [] pos) P :=
  js_of (t := tFor (iList C.K (eAny C e)) (gName j) (bAny C body)) (fun i => ps_for (hp i) (C.calm i Cold.h) (kx (p := fun K => PI (C.X i) _ e (iList K (eAny C e))) i (pi_list (pe_any C e i))) (pg_name (i := j) (by rw [C.hN]; exact C.nd) (by rw [C.hN]; exact hi) (hx i) (hf i)) (pb_any C body i) (hfs i))
    (hs_for Pv ds.length (fun G Jt => ∃ a vs, Jt = Itl C.K a ∧ G a = some (.lst vs) ∧ DqAll C.K G vs ds)
      (fun F G H σ S xx R q => he F G H σ S xx _ fun v G' H' eg eh S' hv => by
        obtain ⟨a, vs, rfl, ha, hd⟩ := dq_lst hv
        exact ⟨a, rfl, ⟨vs, SqL.of (S'.ex _ _ ha)⟩, q _ G' H' eg eh S' ⟨a, vs, rfl, ha, hd⟩⟩) h0
      (fun G Jt H hJ e => by
        obtain ⟨a, vs, rfl, ha, hd⟩ := hJ
        exact ⟨vs, SqL.of (e _ _ ha), by rw [hd.length]; exact Nat.le_refl _⟩)
      (fun G Jt H i hJ e hi => by
        obtain ⟨a, vs, rfl, ha, hd⟩ := hJ
        exact ⟨vs, vs[i]'(by rw [hd.length]; exact hi), SqL.of (e _ _ ha), List.getElem?_eq_getElem _⟩)
      (fun F G G0 H σ ls' i x Jt H1 hJ eg hi S p y D' f => by
        obtain ⟨a, vs, rfl, ha, hd⟩ := hJ
        obtain ⟨rfl, y⟩ := y
        have hx := y vs (SqL.of ((eg.trans S.ex) _ _ ha))
        obtain ⟨d, e1, e2⟩ := hd.get' hx
        exact hb i d ls' e1 p F G H1 _ D' (S.setV (dq_mono eg e2)) f) hd)
theorem js_forT [Cold C] {x : Str} {p3 : Pos} (j : Nat) (Pv : Nat → List Loc → Prop) (he : JE C ls e (.tup ds)) (h0 : Pv 0 ls) (hb : ∀ (i : Nat) d ls', ds[i]? = some d → Pv i ls' → JB C (ls'.set j (.val d)) body { nx := Pv (i + 1), rt := P.rt, bk := P.nx, ct := Pv (i + 1) })
    (hd : ∀ ls', Pv ds.length ls' → P.nx ls') (hi : C.N[j]? = some x := by rfl) (hx : ∀ i, L2.Loc (C.X i).env.scope x := by intro _; first | exact .inl rfl | exact .inr rfl)
    (hf : ∀ i, (C.X i).fn x = true ∨ (C.X i).env.scope.names.lookup x = some .local := by intro _; first | exact .inl rfl | exact .inr rfl) (hp : ∀ i, PassesOwn (model (C.X i).prog (C.X i).w) (C.X i).A (C.X i).env (C.X i).xe := by intro q; first | exact PassesOwn.never | exact passes_of rfl | exact q.owns) (hfs : ∀ i x, foldedSetIterable e (C.X i).env x = pure x := by intro _ _; rfl) : JS C ls (.For (.Name x p3) e body [] pos) P :=
  js_of (t := tFor (iTup C.K (eAny C e)) (gName j) (bAny C body)) (fun i => ps_for (hp i) (C.calm i Cold.h) (kx (p := fun K => PI (C.X i) _ e (iTup K (eAny C e))) i (pi_tup (pe_any C e i))) (pg_name (i := j) (by rw [C.hN]; exact C.nd) (by rw [C.hN]; exact hi) (hx i) (hf i)) (pb_any C body i) (hfs i))
    (hs_for Pv ds.length (fun G Jt => ∃ a vs, Jt = Itt C.K a ∧ SqT C.K G a vs ∧ DqAll C.K G vs ds)
      (fun F G H σ S xx R q => he F G H σ S xx _ fun v G' H' eg eh S' hv => by
        obtain ⟨a, vs, rfl, ha, hd⟩ := dq_tup hv
        exact ⟨a, rfl, ⟨vs, ex_t S'.ex ha⟩, q _ G' H' eg eh S' ⟨a, vs, rfl, ha, hd⟩⟩) h0
      (fun G Jt H hJ e => by
        obtain ⟨a, vs, rfl, ha, hd⟩ := hJ
        exact ⟨vs, ex_t e ha, by rw [hd.length]; exact Nat.le_refl _⟩)
      (fun G Jt H i hJ e hi => by
        obtain ⟨a, vs, rfl, ha, hd⟩ := hJ
        exact ⟨vs, vs[i]'(by rw [hd.length]; exact hi), ex_t e ha, List.getElem?_eq_getElem _⟩)
      (fun F G G0 H σ ls' i x Jt H1 hJ eg hi S p y D' f => by
        obtain ⟨a, vs, rfl, ha, hd⟩ := hJ
        obtain ⟨rfl, y⟩ := y
        have hx := y vs (ex_t (eg.trans S.ex) ha)
        obtain ⟨d, e1, e2⟩ := hd.get' hx
        exact hb i d ls' e1 p F G H1 _ D' (S.setV (dq_mono eg e2)) f) hd)
/-- while: Pv by a measure and the slots -/
theorem js_while (Pv : Nat → List Loc → Prop) (m : Nat) (h0 : Pv m ls) (hb : ∀ m ls', Pv m ls' → ∃ k, JT C ls' c k ∧ (k = true → JB C ls' body { nx := fun l => ∃ m', m' < m ∧ Pv m' l, rt := P.rt, bk := P.nx, ct := fun l => ∃ m', m' < m ∧ Pv m' l }) ∧ (k = false → P.nx ls'))
    (hp : ∀ i, PassesOwn (model (C.X i).prog (C.X i).w) (C.X i).A (C.X i).env (C.X i).xe := by intro q; first | exact PassesOwn.never | exact passes_of rfl | exact q.owns) : JS C ls (.While c body [] pos) P :=
  js_of (fun i => ps_while (hp i) (pt_any C c i) (pb_any C body i)) fun F G H σ D' S f => by
    refine ⟨fun m σ' H' => ∃ G' ls', Ex G G' ∧ Kp F H H' ∧ Sat C.K F G' H' σ' ls' ∧ Pv m ls', ⟨m, G, ls, Ex.refl _, Kp.refl, S, h0⟩, ?_⟩
    rintro m σ' H' ⟨G', ls', eg', kp', S', p⟩
    obtain ⟨k, ht, h1, h2⟩ := hb m ls' p
    refine ht F G' H' σ' S' ((f.step eg' kp').xok S') _ fun G2 H2 eg2 eh2 S2 => ?_
    have f2 := f.step (eg'.trans eg2) (kp'.trans (S'.kp eh2))
    cases k with
    | true =>
      rw [if_pos rfl]
      refine ⟨fun σ3 H3 => ∃ m', m' < m ∧ ∃ G3 ls3, Ex G G3 ∧ Kp F H H3 ∧ Sat C.K F G3 H3 σ3 ls3 ∧ Pv m' ls3, fun σ3 H3 h => h, h1 rfl F G2 H2 σ' _ S2 ⟨?_, f2.rt, f2.nx, ?_, f2.tb, f2.dx, f2.ex⟩⟩
      · rintro G3 H3 σ3 ls3 eg3 kp3 S3 ⟨m', hm, r⟩
        exact ⟨m', hm, G3, ls3, (eg'.trans eg2).trans eg3, (kp'.trans (S'.kp eh2)).trans kp3, S3, r⟩
      · rintro G3 H3 σ3 ls3 eg3 kp3 S3 ⟨m', hm, r⟩
        exact ⟨m', hm, G3, ls3, (eg'.trans eg2).trans eg3, (kp'.trans (S'.kp eh2)).trans kp3, S3, r⟩
    | false =>
      rw [if_neg Bool.false_ne_true]
      exact f2.nx G2 H2 σ' ls' (Ex.refl _) Kp.refl S2 (h2 rfl)
end
end Qp

/-! Q5: defs, calls, comprehensions, a try that runs through. -/
namespace Qp
open PySem PySem.Spec PyProof.Rows L2
/-! ### a def's promise over data -/
abbrev Rel := List D → (D → Prop) → Prop
def spD (K : Fg) (R : Rel) (T : Addr → Prop := fun _ => False) : Sp := fun vs H Q _ => ∃ G ds Po, Ex G H ∧ (∀ P, T P → TabAt G P) ∧ DqAll K G vs ds ∧ R ds Po ∧ ∀ d, Po d → ∀ G' H' v, Ex G G' → Ex G' H' → Ex H H' → (∀ a, NT H a → G a = none → G' a = none) → Dq K G' v d → Q v H'
/-- the one answer d -/
def det (r : List D → D → Prop) : Rel := fun ds Po => ∃ d, r ds d ∧ Po = fun d' => d' = d
/-- the context of a def's body -/
def Cs.of (P : Program) (w : World) (K : Fg) (mg : Str → Option Value) (base : Heap) {N : List Str} (nd : N.Nodup) (qual : Str) (scope : Scope) (f : Addr) (cdv : Value) (A : Around) (outer : List Env) (s : Shared) (H : Hp) (E : XK) {k : Nat}
    (hr : Room k (A.deeper (envOfC qual scope s.heap.objs.size f cdv))) (T : Addr → Prop := fun _ => False) : Cs where
  ι := Unit
  X := fun _ => (cxOf CX0 P w K mg base N qual scope f cdv A outer s H E).nox
  P := P
  w := w
  K := K
  mg := mg
  base := base
  N := N
  k := k
  hP := fun _ => rfl
  hw := fun _ => rfl
  hK := fun _ => rfl
  hmg := fun _ => rfl
  hbase := fun _ => rfl
  hN := fun _ => rfl
  nd := nd
  calm := fun _ _ => rfl
  cold := fun _ _ => hr
  hotc := fun _ z => Bool.noConfusion z
  E := noX T
  takes := fun _ => takesN
instance {P : Program} {w : World} {K : Fg} {mg : Str → Option Value} {base : Heap} {N : List Str} {nd : N.Nodup} {qual : Str} {scope : Scope} {f : Addr} {cdv : Value} {A : Around} {outer : List Env} {s : Shared} {H : Hp} {E : XK} {k : Nat} {hr : Room k (A.deeper (envOfC qual scope s.heap.objs.size f cdv))} {T : Addr → Prop} :
    Cold (Cs.of P w K mg base nd qual scope f cdv A outer s H E hr T) := ⟨rfl⟩
abbrev locs (n : Nat) (ds : List D) : List Loc := ds.map Loc.val ++ List.replicate (n - ds.length) Loc.any
abbrev Ret (d : D) : Post := { nx := fun _ => d = .non, rt := fun d' => d' = d }
abbrev RetX (Po : D → Prop) : Post := { nx := fun _ => Po .non, rt := Po }
theorem sat_start {K : Fg} {G H : Hp} {vs : List V} {ds : List D} {N : List Str} (eg : Ex G H) (hv : DqAll K G vs ds) : Sat K (fun a => NT H a ∧ G a = none) G H (L2.start N vs) (locs N.length ds) := by
  refine ⟨eg, fun a h => ⟨h.2, h.1⟩, ?_, fun _ => [], fun i l hl => ?_, fun _ _ h => (List.not_mem_nil h).elim, fun _ => List.nodup_nil, fun _ _ _ h => (List.not_mem_nil h).elim⟩
  · unfold L2.start locs
    simp [hv.length]
  · unfold locs at hl
    by_cases hi : i < ds.length
    · rw [List.getElem?_append_left (by rw [List.length_map]; exact hi), List.getElem?_map, List.getElem?_eq_getElem hi] at hl
      cases hl
      obtain ⟨v, e1, e2⟩ := hv.get (List.getElem?_eq_getElem hi)
      refine ⟨rfl, v, ?_, e2⟩
      unfold L2.start
      rw [List.getD_eq_getElem?_getD, List.getElem?_append_left (by rw [List.length_map, hv.length]; exact hi), List.getElem?_map, e1]
      rfl
    · rw [List.getElem?_append_right (by rw [List.length_map]; omega)] at hl
      rw [List.getElem?_replicate] at hl
      split at hl
      · cases hl; rfl
      · cases hl
section
variable {P : Program} {w : World} {K : Fg} {mg : Str → Option Value} {base : Heap}
theorem fn_ok {x qual : Str} {st : Stmt} {f : Addr} {fd : FuncData} {N ps : List Str} {k : Nat} {R : Rel} {T : Addr → Prop} (F : Fun K x qual st f fd) (S : FnScope N ps (defScope st)) (len : ∀ ds d, R ds d → ds.length = ps.length)
    (body : ∀ (cdv : Value) (A : Around) (outer : List Env) (s : Shared) (H : Hp) (E : XK) (hr : Room k (A.deeper (envOfC qual (defScope st) s.heap.objs.size f cdv))) (ds : List D) (Po : D → Prop), R ds Po →
      JB (Cs.of P w K mg base S.nd qual (defScope st) f cdv A outer s H E hr T) (locs N.length ds) (defBody st) (RetX Po)) : FnOk P w K mg base CX0 (k + 1) f fd ps (spD K R T) := by
  refine F.ok S (fun vs H Q E h => ?_) (fun cdv A outer s H vs Q E hr h => ?_)
  · obtain ⟨G, ds, d, _, _, hv, hR, _⟩ := h
    rw [hv.length]
    exact len ds d hR
  · obtain ⟨G, ds, Po, eg, tb, hv, hR, q⟩ := h
    refine ⟨_, pb_any (Cs.of P w K mg base S.nd qual (defScope st) f cdv A outer s H E hr T) (defBody st) (), ?_⟩
    have fin : ∀ G' H' v d', Ex G G' → Kp (fun a => NT H a ∧ G a = none) H H' → (∀ a, (NT H a ∧ G a = none) → G' a = none) → Ex G' H' → Dq K G' v d' → Po d' → Q v H' := by
      intro G' H' v d' eg' kp fg e hv' hd
      refine q d' hd G' H' v eg' e (fun a o ha => ?_) (fun a h1 h2 => fg a ⟨h1, h2⟩) hv'
      by_cases nt : NoTb o
      · refine .of ?_
        cases hg : G a with
        | none => rw [kp.1 a ⟨⟨o, ha, nt⟩, hg⟩]; exact ha
        | some u =>
          have h2 := eg a u hg
          rw [ha] at h2
          have nu : NoTb u := fun ps z => by
            subst z
            obtain ⟨m, z, _⟩ := h2
            exact nt _ (Option.some.inj z)
          obtain rfl : o = u := Option.some.inj (h2.at nu)
          exact (e a _ ((eg' a _ hg).at nt)).at nt
      · cases o <;> first | exact kp.2 a _ ha | exact absurd (fun _ z => nomatch z) nt
    refine body cdv A outer s H E hr ds Po hR (fun a => NT H a ∧ G a = none) G H (L2.start N vs) _ (sat_start eg hv) ⟨fun G' H' σ' ls' eg' kp S' r => ?_, fun G' H' v d' eg' kp fg e hv' r => fin G' H' v d' eg' kp fg e hv' r, fun _ _ _ _ _ _ _ z => False.elim z, fun _ _ _ _ _ _ _ z => False.elim z, tb, fun _ z => (List.not_mem_nil z).elim, fun _ _ _ _ _ _ _ _ _ _ _ _ _ z => False.elim z⟩
    exact fin G' H' .non .non eg' kp (fun a fa => (S'.fo a fa).1) S'.ex .non r
/-- a def of one answer -/
theorem fn_okd {x qual : Str} {st : Stmt} {f : Addr} {fd : FuncData} {N ps : List Str} {k : Nat} {r : List D → D → Prop} {T : Addr → Prop} (F : Fun K x qual st f fd) (S : FnScope N ps (defScope st)) (len : ∀ ds d, r ds d → ds.length = ps.length)
    (body : ∀ (cdv : Value) (A : Around) (outer : List Env) (s : Shared) (H : Hp) (E : XK) (hr : Room k (A.deeper (envOfC qual (defScope st) s.heap.objs.size f cdv))) (ds : List D) (d : D), r ds d →
      JB (Cs.of P w K mg base S.nd qual (defScope st) f cdv A outer s H E hr T) (locs N.length ds) (defBody st) (Ret d)) : FnOk P w K mg base CX0 (k + 1) f fd ps (spD K (det r) T) :=
  fn_ok F S (fun ds Po ⟨d, h, _⟩ => len ds d h) fun cdv A outer s H E hr ds Po ⟨d, h, e⟩ => by
    subst e
    exact jb_post (body cdv A outer s H E hr ds d h) (fun _ z => Eq.symm z) (fun _ z => z) (fun _ z => z) (fun _ z => z)
end
section
variable {C : Cs} {ls : List Loc} {e a b : Expr} {d d1 : D} {ds : List D} {p pos : Pos} {x : Str} {f : Addr} {fd : FuncData} {ps : List Str} {k : Nat} {R : Rel} {r : List D → D → Prop} {Po : D → Prop}
theorem fnAt {sp : Sp} {CX : CXT} (F : FnOk C.P C.w C.K C.mg C.base CX k f fd ps sp) (hk : k ≤ C.k) (j : C.ι) : FnOk (C.X j).prog (C.X j).w (C.X j).K (C.X j).mg (C.X j).base CX C.k f fd ps sp := by
  rw [C.hP, C.hw, C.hK, C.hmg, C.hbase]
  exact F.mono hk
/-- a def of the text as callers see it -/
structure Fn (P : Program) (w : World) (K : Fg) (mg : Str → Option Value) (base : Heap) (k : Nat) (x : Str) (R : Rel) (T : Addr → Prop := fun _ => False) : Prop where
  ex : ∃ f fd ps, FnOk P w K mg base CX0 k f fd ps (spD K R T) ∧ mg x = some (.ref f) ∧ PySem.W.keepIn K (.ref f) = true ∧ Binds K fd ps []
/-- to some answer for which Po holds -/
def JX (C : Cs) (ls : List Loc) (e : Expr) (Po : D → Prop) : Prop := ∀ F G H σ, Sat C.K F G H σ ls → Xok C.K C.E F G H σ ls → ∀ Q : VK, (∀ d v G' H', Po d → Ex G G' → Ex H H' → Sat C.K F G' H' σ ls → Dq C.K G' v d → Q v H') → eAny C e σ H Q
structure JXA (C : Cs) (ls : List Loc) (es : List Expr) (Po : List D → Prop) : Prop where
  ns : ∀ e ∈ es, NS e
  ev : ∀ F G H σ, Sat C.K F G H σ ls → Xok C.K C.E F G H σ ls → ∀ Q : List V → Hp → Prop, (∀ ds vs G' H', Po ds → Ex G G' → Ex H H' → Sat C.K F G' H' σ ls → DqAll C.K G' vs ds → Q vs H') → aAny C es σ H Q
theorem JX.of (h : JE C ls e d) (hp : Po d) : JX C ls e Po := fun F G H σ S xx Q q => h F G H σ S xx Q fun v G' H' eg eh S' hv => q d v G' H' hp eg eh S' hv
theorem JX.je (h : JX C ls e fun d' => d' = d) : JE C ls e d := fun F G H σ S xx Q q => h F G H σ S xx Q fun d' v G' H' hd eg eh S' hv => q v G' H' eg eh S' (hd ▸ hv)
theorem JX.mono {Po' : D → Prop} (h : JX C ls e Po) (hp : ∀ d, Po d → Po' d) : JX C ls e Po' := fun F G H σ S xx Q q => h F G H σ S xx Q fun d v G' H' hd => q d v G' H' (hp d hd)
theorem jxa_nil {Pa : List D → Prop} (h : Pa []) : JXA C ls [] Pa := ⟨fun _ h => (List.not_mem_nil h).elim, fun F G H σ S xx Q q => ⟨tNil, fun _ => pa_nil, q [] [] G H h (Ex.refl G) (Ex.refl H) S .nil⟩⟩
theorem jxa_cons {Pa : List D → Prop} {es : List Expr} (h : JX C ls e Po) (r : ∀ d, Po d → JXA C ls es fun ds => Pa (d :: ds)) (hne : ∃ d, Po d) (hs : NS e := by intro _ _; rfl) : JXA C ls (e :: es) Pa := by
  obtain ⟨d0, h0⟩ := hne
  refine ⟨fun x hx => (List.mem_cons.mp hx).elim (fun z => z ▸ hs) ((r d0 h0).ns x), fun F G H σ S xx Q q => ⟨tCons (eAny C e) (aAny C es), fun j => pa_cons (pe_any C e j) (pa_any C es j) (hs _ _), h F G H σ S xx _ fun d v G1 H1 hd eg1 eh1 S1 hv => (r d hd).ev F G1 H1 σ S1 (xx.step eg1 eh1) _ fun ds vs G2 H2 hp eg2 eh2 S2 hvs => q (d :: ds) (v :: vs) G2 H2 hp (eg1.trans eg2) (eh1.trans eh2) S2 (.cons (dq_mono eg2 hv) hvs)⟩⟩
theorem JXA.of {es : List Expr} (h : JA C ls es ds) : JXA C ls es fun ds' => ds' = ds := ⟨h.ns, fun F G H σ S xx Q q => h.ev F G H σ S xx Q fun vs G' H' eg eh S' hv => q ds vs G' H' rfl eg eh S' hv⟩
theorem jx_call [Cold C] (F : Fn C.P C.w C.K C.mg C.base k x R C.E.T) {es : List Expr} {Pa : List D → Prop} (ha : JXA C ls (e :: es) Pa) (hR : ∀ ds, Pa ds → R ds Po) (hk : k ≤ C.k := by exact Nat.le_of_ble_eq_true rfl) (hg : ∀ j, Gl (C.X j) x := by intro _; rfl) (hdb : (x == ("__debug__" : Str)) = false := by decide) :
    JX C ls (.Call (.Name x p) (e :: es) [] pos) Po := by
  obtain ⟨f, fd, ps, G, hm, kp, hb⟩ := F.ex
  refine fun F' G1 H1 σ S xx Q q => ⟨tCall (spD C.K R C.E.T) [] E0 (aAny C (e :: es)), fun j => ?_, ha.ev F' G1 H1 σ S xx _ fun ds vs G2 H2 hp eg2 eh2 S2 hv => ?_⟩
  · refine pe_call (fnAt G hk j) (C.cold j Cold.h) (hg j) (by rw [C.hmg]; exact hm) (by rw [C.hK]; exact kp) (by rw [C.hK]; exact hb) .nil pass0 (pa_any C (e :: es) j) hdb (ha.ns e List.mem_cons_self _ _) (ns_any (fun y hy => ha.ns y (List.mem_cons_of_mem _ hy)) _ _)
  · rw [List.append_nil]
    refine ⟨G2, ds, Po, S2.ex, (xx.step eg2 eh2).tb, hv, hR ds hp, fun d hd G3 H3 v eg3 e3 eh3 n3 hv3 => q d v G3 H3 hd (eg2.trans eg3) (eh2.trans eh3) (S2.grow eg3 eh3 e3 fun a ha => ?_) hv3⟩
    by_cases h2 : NT H2 a
    · exact Or.inl fun g => ha (n3 a h2 g)
    · exact Or.inr h2
theorem je_call [Cold C] (F : Fn C.P C.w C.K C.mg C.base k x (det r) C.E.T) {es : List Expr} (ha : JA C ls (e :: es) ds) (hR : r ds d) (hk : k ≤ C.k := by exact Nat.le_of_ble_eq_true rfl) (hg : ∀ j, Gl (C.X j) x := by intro _; rfl) (hdb : (x == ("__debug__" : Str)) = false := by decide) :
    JE C ls (.Call (.Name x p) (e :: es) [] pos) d := JX.je (jx_call F (.of ha) (fun _ z => by rw [z]; exact ⟨d, hR, rfl⟩) hk hg hdb)
theorem jx_call1 [Cold C] (F : Fn C.P C.w C.K C.mg C.base k x R C.E.T) {es : List Expr} (ha : JA C ls (e :: es) ds) (hR : R ds Po) (hk : k ≤ C.k := by exact Nat.le_of_ble_eq_true rfl) (hg : ∀ j, Gl (C.X j) x := by intro _; rfl) (hdb : (x == ("__debug__" : Str)) = false := by decide) :
    JX C ls (.Call (.Name x p) (e :: es) [] pos) Po := jx_call F (.of ha) (fun _ z => by rw [z]; exact hR) hk hg hdb
end
section
variable {C : Cs} {ls : List Loc} {rest : List Stmt} {P : Post} {e : Expr} {pos pos' : Pos} {Po : D → Prop}
theorem js_setX (i : Nat) {x : Str} (he : JX C ls e Po) (hn : ∀ d, Po d → P.nx (ls.set i (.val d))) (hi : C.N[i]? = some x := by rfl) (hx : ∀ j, L2.Loc (C.X j).env.scope x := by intro _; first | exact .inl rfl | exact .inr rfl)
    (hs : ∀ j, swapsWith e (some (.Name x pos')) pos.line (C.X j).env = pure false := by intro _; rfl) (hf : ∀ j, (C.X j).fn x = true ∨ (C.X j).env.scope.names.lookup x = some .local := by intro _; first | exact .inl rfl | exact .inr rfl) : JS C ls (.Assign [.Name x pos'] e pos) P :=
  js_of (fun j => ps_set (i := i) (by rw [C.hN]; exact C.nd) (by rw [C.hN]; exact hi) (hx j) (pe_any C e j) (hs j) (hf j)) fun F G H σ D' S f => he F G H σ S (f.xok S) _ fun d v G' H' hd eg eh S' hv => f.nx G' H' _ _ eg (S.kp eh) (S'.setV hv) (hn d hd)
theorem jb_setX (i : Nat) {x : Str} (he : JX C ls e Po) (k : ∀ d, Po d → JB C (ls.set i (.val d)) rest P) (hi : C.N[i]? = some x := by rfl) (hx : ∀ j, L2.Loc (C.X j).env.scope x := by intro _; first | exact .inl rfl | exact .inr rfl)
    (hs : ∀ j, swapsWith e (some (.Name x pos')) pos.line (C.X j).env = pure false := by intro _; rfl) (hf : ∀ j, (C.X j).fn x = true ∨ (C.X j).env.scope.names.lookup x = some .local := by intro _; first | exact .inl rfl | exact .inr rfl) : JB C ls (.Assign [.Name x pos'] e pos :: rest) P :=
  jb_cons (fun l => ∃ d, Po d ∧ l = ls.set i (.val d)) (js_setX i he (fun d hd => ⟨d, hd, rfl⟩) hi hx hs hf) fun _ ⟨d, hd, h⟩ => h ▸ k d hd
theorem jb_retX (he : JX C ls e Po) (h : ∀ d, Po d → P.rt d) : JB C ls (.Return (some e) pos :: rest) P :=
  jb_cons (fun _ => False) (js_of (fun j => ps_ret (pe_any C e j)) fun F G H σ D' S f => he F G H σ S (f.xok S) _ fun d v G' H' hd eg eh S' hv => f.rt G' H' v d eg (S.kp eh) (fun a fa => (S'.fo a fa).1) S'.ex hv (h d hd)) fun _ h => h.elim
end
/-- for x in a list of which Po holds -/
theorem js_forLX {C : Cs} [Cold C] {ls : List Loc} {P : Post} {e : Expr} {body : List Stmt} {pos : Pos} {x : Str} {p3 : Pos} {Po : List D → Prop} (j : Nat) (Pv : List D → Nat → List Loc → Prop) (he : JX C ls e fun d => ∃ ds, d = .lst ds ∧ Po ds) (h0 : ∀ ds, Po ds → Pv ds 0 ls) (hb : ∀ ds, Po ds → ∀ (i : Nat) d ls', ds[i]? = some d → Pv ds i ls' → JB C (ls'.set j (.val d)) body { nx := Pv ds (i + 1), rt := P.rt, bk := P.nx, ct := Pv ds (i + 1) })
    (hd : ∀ ds, Po ds → ∀ ls', Pv ds ds.length ls' → P.nx ls') (hi : C.N[j]? = some x := by rfl) (hx : ∀ i, L2.Loc (C.X i).env.scope x := by intro _; first | exact .inl rfl | exact .inr rfl)
    (hf : ∀ i, (C.X i).fn x = true ∨ (C.X i).env.scope.names.lookup x = some .local := by intro _; first | exact .inl rfl | exact .inr rfl) (hp : ∀ i, PassesOwn (model (C.X i).prog (C.X i).w) (C.X i).A (C.X i).env (C.X i).xe := by intro q; first | exact PassesOwn.never | exact passes_of rfl | exact q.owns) (hfs : ∀ i x, foldedSetIterable e (C.X i).env x = pure x := by intro _ _; rfl) : JS C ls (.For (.Name x p3) e body [] pos) P :=
  js_of (t := tFor (iList C.K (eAny C e)) (gName j) (bAny C body)) (fun i => ps_for (hp i) (C.calm i Cold.h) (kx (p := fun K => PI (C.X i) _ e (iList K (eAny C e))) i (pi_list (pe_any C e i))) (pg_name (i := j) (by rw [C.hN]; exact C.nd) (by rw [C.hN]; exact hi) (hx i) (hf i)) (pb_any C body i) (hfs i))
    (hs_forX Pv (fun ds => ds.length) (fun ds G Jt => Po ds ∧ ∃ a vs, Jt = Itl C.K a ∧ G a = some (.lst vs) ∧ DqAll C.K G vs ds)
      (fun F G H σ S xx R q => he F G H σ S xx _ fun d v G' H' hd eg eh S' hv => by
        obtain ⟨ds, rfl, hp⟩ := hd
        obtain ⟨a, vs, rfl, ha, hd⟩ := dq_lst hv
        exact ⟨a, rfl, ⟨vs, SqL.of (S'.ex _ _ ha)⟩, q ds _ G' H' eg eh S' ⟨hp, a, vs, rfl, ha, hd⟩⟩) (fun ds _ _ hJ => h0 ds hJ.1)
      (fun ds G Jt H hJ e => by
        obtain ⟨_, a, vs, rfl, ha, hd⟩ := hJ
        exact ⟨vs, SqL.of (e _ _ ha), by rw [hd.length]; exact Nat.le_refl _⟩)
      (fun ds G Jt H i hJ e hi => by
        obtain ⟨_, a, vs, rfl, ha, hd⟩ := hJ
        exact ⟨vs, vs[i]'(by rw [hd.length]; exact hi), SqL.of (e _ _ ha), List.getElem?_eq_getElem _⟩)
      (fun ds F G G0 H σ ls' i x Jt H1 hJ eg hi S p y D' f => by
        obtain ⟨hp, a, vs, rfl, ha, hd⟩ := hJ
        obtain ⟨rfl, y⟩ := y
        have hx := y vs (SqL.of ((eg.trans S.ex) _ _ ha))
        obtain ⟨d, e1, e2⟩ := hd.get' hx
        exact hb ds hp i d ls' e1 p F G H1 _ D' (S.setV (dq_mono eg e2)) f) fun ds _ _ ls' hJ => hd ds hJ.1 ls')
/-! ### a try that nothing leaves -/
theorem js_try {C : Cs} {ls : List Loc} {body : List Stmt} {h₀ : ExceptHandler} {hs : List ExceptHandler} {pos : Pos} {P : Post} (h : JB C ls body P) (hn : ∀ j e s, ¬ (C.X j).xe e s := by intro _ _ _ z; exact z) : JS C ls (.Try body (h₀ :: hs) [] [] pos) P :=
  js_of (fun j => ps_try_never (hn j) (pb_any C body j) pss_nil) fun F G H σ D' S f => h F G H σ D' S f
/-! ### comprehensions -/
def Cs.blk (C : Cs) [hc : Cold C] (scope : Scope) : Cs where
  ι := C.ι × Shared × Hp × Addr × List (Str × Addr) × List Addr
  X := fun q => (C.X q.1).blk q.2.1 q.2.2.1 scope (compEnvC scope q.2.2.2.2.1 q.2.2.2.1 (C.X q.1).env) q.2.2.2.2.2
  P := C.P
  w := C.w
  K := C.K
  mg := C.mg
  base := C.base
  N := C.N
  k := C.k
  hP := fun q => C.hP q.1
  hw := fun q => C.hw q.1
  hK := fun q => C.hK q.1
  hmg := fun q => C.hmg q.1
  hbase := fun q => C.hbase q.1
  hN := fun q => C.hN q.1
  nd := C.nd
  calm := fun q _ => C.calm q.1 hc.h
  cold := fun q _ => C.cold q.1 hc.h
  hotc := fun _ z => Bool.noConfusion z
  E := noX C.E.T
  takes := fun _ => takesN
instance {C : Cs} {scope : Scope} [Cold C] : Cold (C.blk scope) := ⟨rfl⟩
def Loc.keeps : Loc → Bool
  | .own _ => false
  | .own2 _ => false
  | _ => true
theorem refs_inj : ∀ {qs rs : List Addr}, qs.map V.ref = rs.map V.ref → qs = rs
  | [], [], _ => rfl
  | q :: qs, r :: rs, h => by
    rw [List.map_cons, List.map_cons] at h
    injection h with h1 h2
    injection h1 with h1
    rw [h1, refs_inj h2]
  | [], _ :: _, h => by cases h
  | _ :: _, [], h => by cases h
/-- behind a block: the slots as they were -/
theorem Sat.restore {K : Fg} {F : Addr → Prop} {G G2 H H2 : Hp} {σ : L2.St} {ls : List Loc} {j : Nat} {x : Option V} {l2 : Loc} (S : Sat K F G H σ ls) (S2 : Sat K F G2 H2 (σ.set j x) (ls.set j l2)) (eg : Ex G G2) (eh : Ex H H2) (hj : ∀ l, ls[j]? = some l → l.keeps = true) : Sat K F G2 H2 σ ls := by
  obtain ⟨ow, h1, h2, h3, h4⟩ := S.ow
  obtain ⟨ow2, k1, k2, k3, k4⟩ := S2.ow
  have key : ∀ i l p, ls[i]? = some l → p ∈ ow i → p ∈ ow2 i := by
    intro i l p hl hp
    have hi := h1 i l hl
    by_cases hij : i = j
    · subst hij
      have := hj l hl
      cases l with
      | any => rw [show ow i = [] from hi] at hp; cases hp
      | val d => rw [hi.1] at hp; cases hp
      | own ds => cases this
      | own2 dss => cases this
    · have hl2 : (ls.set j l2)[i]? = some l := by rw [List.getElem?_set_ne (fun z => hij z.symm)]; exact hl
      have h5 := k1 i l hl2
      rw [getD_set_ne hij] at h5
      cases l with
      | any => rw [show ow i = [] from hi] at hp; cases hp
      | val d => rw [hi.1] at hp; cases hp
      | own ds =>
        obtain ⟨p1, vs, e1, e2, e3, e4⟩ := hi
        obtain ⟨p2, vs2, f1, f2, f3, f4⟩ := h5
        rw [e2] at f2
        cases f2
        rw [f1]
        rw [e1] at hp
        exact hp
      | own2 dss =>
        obtain ⟨p1, qs, e1, e2, e3, e4⟩ := hi
        obtain ⟨p2, qs2, f1, f2, f3, f4⟩ := h5
        rw [e2] at f2
        cases f2
        have h6 := eh _ _ e3
        rw [f3] at h6
        have e7 : qs2 = qs := refs_inj (HO.lst.inj (Option.some.inj h6))
        rw [f1, e7]
        rw [e1] at hp
        exact hp
  have inr : ∀ i p, p ∈ ow i → (∃ l, ls[i]? = some l) ∨ ls[i]? = none := fun i p _ => by cases ls[i]? <;> simp
  refine ⟨S2.ex, S2.fo, S.len, fun i => if i < ls.length then ow i else [], fun i l hl => ?_, fun i p hp => ?_, fun i => ?_, fun i k p hi hk => ?_⟩
  · have hlt := (List.getElem?_eq_some_iff.mp hl).1
    simp only [if_pos hlt]
    exact locOk_mono eg (fun p hp => ex_eq eh (h2 i p hp).2.1) (h1 i l hl)
  · simp only at hp
    split at hp
    · next hlt =>
      have := k2 i p (key i _ p (List.getElem?_eq_getElem hlt) hp)
      exact this
    · cases hp
  · simp only
    split
    · exact h3 i
    · exact List.nodup_nil
  · simp only at hi hk
    split at hi
    · split at hk
      · exact h4 i k p hi hk
      · cases hk
    · cases hi
def outs (n : Nat) (b : Nat → Bool) (f : Nat → D) : List D := ((List.range n).filter b).map f
theorem outs_yes {n : Nat} {b : Nat → Bool} {f : Nat → D} (h : b n = true) : outs (n + 1) b f = outs n b f ++ [f n] := by
  unfold outs
  rw [List.range_succ, List.filter_append, List.map_append, List.filter_cons, if_pos h] <;> rfl
theorem outs_no {n : Nat} {b : Nat → Bool} {f : Nat → D} (h : b n = false) : outs (n + 1) b f = outs n b f := by
  unfold outs
  rw [List.range_succ, List.filter_append, List.map_append, List.filter_cons, if_neg (by rw [h]; decide)]
  show _ ++ [] = _
  rw [List.append_nil]
theorem outs_len (n : Nat) (b : Nat → Bool) (f : Nat → D) : (outs n b f).length ≤ n := by
  unfold outs
  rw [List.length_map]
  have h := List.length_filter_le b (List.range n)
  rw [List.length_range] at h
  exact h
theorem outs_all (n : Nat) (f : Nat → D) : outs n (fun _ => true) f = (List.range n).map f := by
  unfold outs
  rw [List.filter_eq_self.mpr fun _ _ => rfl]
theorem outs_list {α : Type} (xs : List α) (z : α) (g : α → D) : outs xs.length (fun _ => true) (fun i => g (xs.getD i z)) = xs.map g := by
  rw [outs_all]
  apply List.ext_getElem?
  intro i
  by_cases hi : i < xs.length
  · rw [List.getElem?_map, List.getElem?_range hi, List.getElem?_map, List.getElem?_eq_getElem hi]
    show some (g (xs.getD i z)) = some (g xs[i])
    rw [List.getD_eq_getElem?_getD, List.getElem?_eq_getElem hi]; rfl
  · rw [List.getElem?_map, List.getElem?_map, List.getElem?_eq_none (by rw [List.length_range]; omega), List.getElem?_eq_none (by omega)]; rfl
section
variable {K : Fg} {E : Xw} {ls : List Loc}
theorem evN_lc {wi : TI} {tt : TT} {te : TE} (j n : Nat) (xs : Nat → D) (b : Nat → Bool) (f : Nat → D) (J : Hp → It → Prop) (hn : n < 1000000) (hj : ∀ l, ls[j]? = some l → l.keeps = true)
    (hw : ∀ F G H σ, Sat K F G H σ ls → Xok K E F G H σ ls → ∀ R : It → Hp → Prop, (∀ Jt G' H', Ex G G' → Ex H H' → Sat K F G' H' σ ls → J G' Jt → R Jt H') → wi σ H R)
    (hstop : ∀ G Jt H, J G Jt → Ex G H → Jt.stop n H) (hgo : ∀ G Jt H i, J G Jt → Ex G H → i < n → Jt.go i H) (hy : ∀ G Jt H i x H1, J G Jt → Ex G H → i < n → Jt.yld i H x H1 → H1 = H ∧ Dq K G x (xs i))
    (ht : ∀ i, i < n → EvT K (noX E.T) tt (ls.set j (.val (xs i))) (b i)) (he : ∀ i, i < n → b i = true → Ev K (noX E.T) te (ls.set j (.val (xs i))) (f i)) : EvN K E (tLc wi (gName j) tt te [j]) ls (outs n b f) := fun F G H σ S xx Q q => hw F G H σ S xx _ fun Jt G1 H1 eg1 eh1 S1 hJ Dl hD => by
  refine ⟨fun i m H' => m = n - i ∧ i ≤ n ∧ ∃ G' vs, Ex G1 G' ∧ Ex H1 H' ∧ Sat K (fun a => F a ∨ a = Dl) G' H' σ ls ∧ H' Dl = some (.lst vs) ∧ DqAll K G' vs (outs i b f), ⟨n, by simp, Nat.zero_le _, G1, [], Ex.refl _, Ex.new hD, S1.madeF hD, upd_same, .nil⟩, ?_⟩
  have nf : ¬ F Dl := fun z => (S1.fo Dl z).2.ne hD
  rintro i m H' ⟨rfl, hi, G', vs, eg', eh', S', hp, hv⟩
  by_cases hlt : i < n
  · refine .inr ⟨hgo G1 Jt H' i hJ (eg'.trans S'.ex) hlt, fun H2 => ∃ G2 vs2, Ex G1 G2 ∧ Ex H1 H2 ∧ Sat K (fun a => F a ∨ a = Dl) G2 H2 σ ls ∧ H2 Dl = some (.lst vs2) ∧ DqAll K G2 vs2 (outs (i + 1) b f), fun H2 h => ⟨n - (i + 1), by omega, rfl, hlt, h⟩, fun x H2 y => ?_⟩
    obtain ⟨rfl, hx⟩ := hy G1 Jt H' i x H2 hJ (eg'.trans S'.ex) hlt y
    have e0 : (wipe σ [j]).set j (some x) = σ.set j (some x) := by
      show (σ.set j none).set j (some x) = _
      rw [List.set_set]
    have e1 : wipe (σ.set j (some x)) [j] = wipe σ [j] := by
      show (σ.set j (some x)).set j none = σ.set j none
      rw [List.set_set]
    show wipe ((wipe σ [j]).set j (some x)) [j] = wipe σ [j] ∧ _
    rw [e0]
    refine ⟨e1, ?_⟩
    have Sx : Sat K (fun a => F a ∨ a = Dl) G' H2 (σ.set j (some x)) (ls.set j (.val (xs i))) := S'.setV (dq_mono eg' hx)
    refine ht i hlt _ G' H2 _ Sx (xok_no fun P h => ((xx.tb P h).mono eg1).mono eg') _ fun G3 H3 eg3 eh3 S3 => ?_
    cases hb : b i with
    | true =>
      rw [if_pos rfl]
      refine he i hlt hb _ G3 H3 _ S3 (xok_no fun P h => (((xx.tb P h).mono eg1).mono eg').mono eg3) _ fun y G4 H4 eg4 eh4 S4 hy4 => ?_
      have S5 := S'.restore S4 (eg3.trans eg4) (eh3.trans eh4) hj
      have hp5 := eh4 _ _ (eh3 _ _ hp)
      refine ⟨vs, hp5, ?_, G4, vs ++ [y], eg'.trans (eg3.trans eg4), ?_, ?_, upd_same, ?_⟩
      · rw [hv.length]
        exact Nat.lt_of_le_of_lt (Nat.le_trans (outs_len i b f) hi) (Nat.lt_of_lt_of_le hn (by decide))
      · exact (eh'.trans (eh3.trans eh4)).mut hD
      · obtain ⟨ow, h1, h2, h3, h4⟩ := S5.ow
        refine ⟨S5.ex.mut (S5.fo Dl (Or.inr rfl)).1, fun a fa => ⟨(S5.fo a fa).1, ?_⟩, S5.len, ow, fun i l hl => locOk_mono (Ex.refl _) (fun p hp => upd_ne fun z => (h2 i p hp).2.2 (Or.inr z)) (h1 i l hl), fun i p hp => ⟨(h2 i p hp).1, ?_, (h2 i p hp).2.2⟩, h3, h4⟩
        · by_cases hz : a = Dl
          · rw [hz]; exact nt_lst upd_same
          · exact nt_eq (S5.fo a fa).2 (upd_ne hz)
        · exact nt_eq (h2 i p hp).2.1 (upd_ne fun z => (h2 i p hp).2.2 (Or.inr z))
      · rw [outs_yes hb]
        exact (dqAll_mono (eg3.trans eg4) hv).append (.cons hy4 .nil)
    | false =>
      rw [if_neg Bool.false_ne_true]
      refine ⟨G3, vs, eg'.trans eg3, eh'.trans eh3, S'.restore S3 eg3 eh3 hj, eh3 _ _ hp, ?_⟩
      rw [outs_no hb]
      exact dqAll_mono eg3 hv
  · have e : i = n := by omega
    subst e
    exact .inl ⟨hstop G1 Jt H' hJ (eg'.trans S'.ex), q Dl vs G' H' (eg1.trans eg') (eh1.trans eh') nf S' hp hv⟩
end
section
variable {C : Cs} {ls : List Loc} {e elt a : Expr} {d : D} {ds : List D} {pos p1 p2 p3 : Pos} {x : Str} {scope : Scope} {ifs : List Expr}
/-- what a comprehension's block wants -/
structure BOk (C : Cs) [Cold C] (scope : Scope) (x : Str) (j : Nat) (p : Pos) : Prop where
  b : ∀ i, BlkOk C.N (C.X i).env.scope scope [(x, j)]
  g : ∀ i, PG ((C.blk scope).X i) (.Name x p) (gName j)
theorem bok [Cold C] {j : Nat} (h : ∀ i, blkC C.N (C.X i).env.scope scope [(x, j)] = true := by intro _; kernel_rfl) (hi : C.N[j]? = some x := by rfl)
    (hl : ∀ i, L2.Loc ((C.blk scope).X i).env.scope x := by intro _; first | exact .inl rfl | exact .inr rfl) (hf : ∀ i, ((C.blk scope).X i).fn x = true ∨ ((C.blk scope).X i).env.scope.names.lookup x = some .local := by intro _; first | exact .inr rfl | exact .inl rfl) : BOk C scope x j p1 :=
  ⟨fun i => blkOk_by (h i), fun i => pg_name (by rw [(C.blk scope).hN]; exact C.nd) (by rw [(C.blk scope).hN]; exact hi) (hl i) (hf i)⟩
def ifAny (C : Cs) (ifs : List Expr) : TT := fun σ H Q => ∃ t : TT, (∀ i, PTs (C.X i) ifs t) ∧ t σ H Q
theorem pif_any (C : Cs) (ifs : List Expr) (i : C.ι) : PTs (C.X i) ifs (ifAny C ifs) := ⟨fun pins s σ H Q I h => by
  obtain ⟨t, ht, q⟩ := h
  exact (ht i).run pins s σ H Q I q⟩
def JI (C : Cs) (ls : List Loc) (ifs : List Expr) (b : Bool) : Prop := EvT C.K C.E (ifAny C ifs) ls b
theorem ji_nil : JI C ls [] true := fun F G H σ S xx Q q => ⟨tYes, fun _ => pts_nil, q G H (Ex.refl G) (Ex.refl H) S⟩
theorem ji_one {k : Bool} (h : JT C ls e k) : JI C ls [e] k := fun F G H σ S xx Q q => ⟨tAny C e, fun j => pts_one (pt_any C e j), h F G H σ S xx Q q⟩
theorem pe_lcA [Cold C] {tg iter : Expr} {wi : TI} {j : Nat} (B : BOk C scope x j p1) (hi : ∀ i, PI (C.X i) (.Name x p1) iter wi) (hs : ∀ i y, foldedSetIterable iter (C.X i).env y = pure y) (i : C.ι) :
    PE (C.X i) (.ListComp elt [⟨.Name x p1, iter, ifs, 0⟩] scope pos) (tLc wi (gName j) (ifAny (C.blk scope) ifs) (eAny (C.blk scope) elt) [j]) :=
  pe_lc (own := [(x, j)]) (C.calm i Cold.h) (by rw [C.hN]; exact C.nd) (hi i) (by rw [C.hN]; exact B.b i) (fun s H Cc cl fp => B.g (i, s, H, Cc, cl, fp)) (fun s H Cc cl fp => pif_any (C.blk scope) ifs (i, s, H, Cc, cl, fp)) (fun s H Cc cl fp => pe_any (C.blk scope) elt (i, s, H, Cc, cl, fp)) (hs i)
/-- [elt for x in range(e) if ..] -/
theorem jn_lcR [Cold C] {n : Int} (j : Nat) (b : Nat → Bool) (f : Nat → D) (he : JE C ls e (.int n)) (hn : n < 1000000) (ht : ∀ i : Nat, i < n.toNat → JI (C.blk scope) (ls.set j (.val (.int i))) ifs (b i)) (hb : ∀ i : Nat, i < n.toNat → b i = true → JE (C.blk scope) (ls.set j (.val (.int i))) elt (f i)) (B : BOk C scope x j p1)
    (hj : ∀ l, ls[j]? = some l → l.keeps = true := by intro _ h; cases h; rfl) (hm : NoG C "range" := by assumption) (hg : ∀ j, Gl (C.X j) "range" := by intro _; rfl) (hs : NS e := by intro _ _; rfl) (hfs : ∀ i x, foldedSetIterable (.Call (.Name "range" p2) [e] [] p3) (C.X i).env x = pure x := by intro _ _; rfl) (h62 : -(2 ^ 62) ≤ n := by omega) :
    JN C ls (.ListComp elt [⟨.Name x p1, .Call (.Name "range" p2) [e] [] p3, ifs, 0⟩] scope pos) (outs n.toNat b f) :=
  jn_of (pe_lcA (tg := e) B (fun i => range' i (hg i) hm hs) hfs) (evN_lc j n.toNat (fun i => .int i) b f (fun _ Jt => Jt = Itr 0 n.toNat) (by omega) hj
    (fun F G H σ S xx R q => he F G H σ S xx _ fun v G' H' eg eh S' hv => ⟨n, by rw [dq_int hv], h62, by omega, q _ G' H' eg eh S' rfl⟩)
    (fun G Jt H hJ e => by subst hJ; exact Nat.le_refl _) (fun G Jt H i hJ e hi => by subst hJ; exact hi)
    (fun G Jt H i x H1 hJ e hi y => by
      subst hJ
      obtain ⟨rfl, rfl⟩ := y
      have e0 : (0 : Int) + (i : Int) = (i : Int) := Int.zero_add _
      exact ⟨rfl, by rw [e0]; exact .int _⟩) ht hb)
/-- over a frozen list; over a tuple -/
theorem jn_lcL [Cold C] {α : Type} {xs : List α} (g : α → D) (z : α) (j : Nat) (b : Nat → Bool) (f : Nat → D) (he : JE C ls e (.lst (xs.map g))) (hn : xs.length < 1000000) (ht : ∀ i, i < xs.length → JI (C.blk scope) (ls.set j (.val (g (xs.getD i z)))) ifs (b i)) (hb : ∀ i, i < xs.length → b i = true → JE (C.blk scope) (ls.set j (.val (g (xs.getD i z)))) elt (f i)) (B : BOk C scope x j p1)
    (hj : ∀ l, ls[j]? = some l → l.keeps = true := by intro _ h; cases h; rfl) (hfs : ∀ i x, foldedSetIterable e (C.X i).env x = pure x := by intro _ _; rfl) :
    JN C ls (.ListComp elt [⟨.Name x p1, e, ifs, 0⟩] scope pos) (outs xs.length b f) :=
  jn_of (pe_lcA (tg := e) (wi := iList C.K (eAny C e)) B (fun i => kx (p := fun K => PI (C.X i) _ e (iList K (eAny C e))) i (pi_list (pe_any C e i))) hfs) (evN_lc j xs.length (fun i => g (xs.getD i z)) b f (fun G Jt => ∃ a vs, Jt = Itl C.K a ∧ G a = some (.lst vs) ∧ DqAll C.K G vs (xs.map g)) hn hj
    (fun F G H σ S xx R q => he F G H σ S xx _ fun v G' H' eg eh S' hv => by
      obtain ⟨a, vs, rfl, ha, hd⟩ := dq_lst hv
      exact ⟨a, rfl, ⟨vs, SqL.of (S'.ex _ _ ha)⟩, q _ G' H' eg eh S' ⟨a, vs, rfl, ha, hd⟩⟩)
    (fun G Jt H hJ e => by
      obtain ⟨a, vs, rfl, ha, hd⟩ := hJ
      exact ⟨vs, SqL.of (e _ _ ha), by rw [hd.length, List.length_map]; exact Nat.le_refl _⟩)
    (fun G Jt H i hJ e hi => by
      obtain ⟨a, vs, rfl, ha, hd⟩ := hJ
      exact ⟨vs, vs[i]'(by rw [hd.length, List.length_map]; exact hi), SqL.of (e _ _ ha), List.getElem?_eq_getElem _⟩)
    (fun G Jt H i x H1 hJ e hi y => by
      obtain ⟨a, vs, rfl, ha, hd⟩ := hJ
      obtain ⟨rfl, y⟩ := y
      have hx := y vs (SqL.of (e _ _ ha))
      obtain ⟨d, e1, e2⟩ := hd.get' hx
      refine ⟨rfl, ?_⟩
      rw [List.getElem?_map, List.getElem?_eq_getElem hi] at e1
      cases e1
      rw [List.getD_eq_getElem?_getD, List.getElem?_eq_getElem hi]
      exact e2) ht hb)
theorem jn_lcT [Cold C] {α : Type} {xs : List α} (g : α → D) (z : α) (j : Nat) (b : Nat → Bool) (f : Nat → D) (he : JE C ls e (.tup (xs.map g))) (hn : xs.length < 1000000) (ht : ∀ i, i < xs.length → JI (C.blk scope) (ls.set j (.val (g (xs.getD i z)))) ifs (b i)) (hb : ∀ i, i < xs.length → b i = true → JE (C.blk scope) (ls.set j (.val (g (xs.getD i z)))) elt (f i)) (B : BOk C scope x j p1)
    (hj : ∀ l, ls[j]? = some l → l.keeps = true := by intro _ h; cases h; rfl) (hfs : ∀ i x, foldedSetIterable e (C.X i).env x = pure x := by intro _ _; rfl) :
    JN C ls (.ListComp elt [⟨.Name x p1, e, ifs, 0⟩] scope pos) (outs xs.length b f) :=
  jn_of (pe_lcA (tg := e) (wi := iTup C.K (eAny C e)) B (fun i => kx (p := fun K => PI (C.X i) _ e (iTup K (eAny C e))) i (pi_tup (pe_any C e i))) hfs) (evN_lc j xs.length (fun i => g (xs.getD i z)) b f (fun G Jt => ∃ a vs, Jt = Itt C.K a ∧ SqT C.K G a vs ∧ DqAll C.K G vs (xs.map g)) hn hj
    (fun F G H σ S xx R q => he F G H σ S xx _ fun v G' H' eg eh S' hv => by
      obtain ⟨a, vs, rfl, ha, hd⟩ := dq_tup hv
      exact ⟨a, rfl, ⟨vs, ex_t S'.ex ha⟩, q _ G' H' eg eh S' ⟨a, vs, rfl, ha, hd⟩⟩)
    (fun G Jt H hJ e => by
      obtain ⟨a, vs, rfl, ha, hd⟩ := hJ
      exact ⟨vs, ex_t e ha, by rw [hd.length, List.length_map]; exact Nat.le_refl _⟩)
    (fun G Jt H i hJ e hi => by
      obtain ⟨a, vs, rfl, ha, hd⟩ := hJ
      exact ⟨vs, vs[i]'(by rw [hd.length, List.length_map]; exact hi), ex_t e ha, List.getElem?_eq_getElem _⟩)
    (fun G Jt H i x H1 hJ e hi y => by
      obtain ⟨a, vs, rfl, ha, hd⟩ := hJ
      obtain ⟨rfl, y⟩ := y
      have hx := y vs (ex_t e ha)
      obtain ⟨d, e1, e2⟩ := hd.get' hx
      refine ⟨rfl, ?_⟩
      rw [List.getElem?_map, List.getElem?_eq_getElem hi] at e1
      cases e1
      rw [List.getD_eq_getElem?_getD, List.getElem?_eq_getElem hi]
      exact e2) ht hb)
end
end Qp

/-! Q6: calls with keywords, the law's end. -/
namespace Qp
open PySem PySem.Spec PyProof.Rows L2
/-- the parameters' values: perm says, for each parameter, which of the handed-in values (the positional ones first) it gets -/
def gPerm (n m : Nat) (perm : List Nat) {α : Type} (us ws : List α) : List α := if us.length = n ∧ ws.length = m then perm.filterMap (fun i => (us ++ ws)[i]?) else []
theorem vals_perm {vs : List V} {us : List Value} (r : Vals vs us) : ∀ perm : List Nat, Vals (perm.filterMap fun i => vs[i]?) (perm.filterMap fun i => us[i]?)
  | [] => .nil
  | i :: p => by
    rw [List.filterMap_cons, List.filterMap_cons]
    cases h : vs[i]? with
    | none => rw [Vals.none_of r h]; exact vals_perm r p
    | some x =>
      obtain ⟨u, e, q⟩ := Vals.get r h
      rw [e]
      exact .cons q (vals_perm r p)
theorem kb_of {K : Fg} {fd : FuncData} {ps ks : List Str} {n : Nat} {perm : List Nat} (hp : ps ≠ []) (h : ∀ us ws : List Value, us.length = n → ws.length = ks.length → bindArgs fd ⟨us, ks.zip ws⟩ = pure (ps.zip (perm.filterMap fun i => (us ++ ws)[i]?))) : KBinds K fd ps ks (gPerm n ks.length perm) (gPerm n ks.length perm) where
  to := fun s us ws _ hl => by
    unfold gPerm at hl ⊢
    by_cases c : us.length = n ∧ ws.length = ks.length
    · rw [if_pos c]
      exact .of_eq (h us ws c.1 c.2)
    · rw [if_neg c] at hl
      exact absurd (List.eq_nil_of_length_eq_zero hl.symm) hp
  rel := fun {vs us zs ws} r q => by
    unfold gPerm
    rw [r.length, q.length]
    by_cases c : us.length = n ∧ ws.length = ks.length
    · rw [if_pos c, if_pos c]
      exact vals_perm (r.append q) perm
    · rw [if_neg c, if_neg c]
      exact .nil
/-- a def called with keywords ks behind n positional values -/
structure Fk (P : Program) (w : World) (K : Fg) (mg : Str → Option Value) (base : Heap) (k : Nat) (x : Str) (n : Nat) (ks : List Str) (perm : List Nat) (R : Rel) (T : Addr → Prop := fun _ => False) : Prop where
  ex : ∃ f fd ps, FnOk P w K mg base CX0 k f fd ps (spD K R T) ∧ mg x = some (.ref f) ∧ PySem.W.keepIn K (.ref f) = true ∧ KBinds K fd ps ks (gPerm n ks.length perm) (gPerm n ks.length perm)
section
variable {X : Cx} {CX : CXT} {k : Nat} {f : Addr} {fd : FuncData} {ps ks : List Str} {sp : Sp} {E : XK} {x : Str} {p pos : Pos} {kws : List Keyword} {tk : TA} {g : List Value → List Value → List Value} {gV : List V → List V → List V}
theorem pe_callK0 (F : FnOk X.prog X.w X.K X.mg X.base CX k f fd ps sp) (hr : Room k X.A) (hg : Gl X x) (hm : X.mg x = some (.ref f)) (hk : PySem.W.keepIn X.K (.ref f) = true) (hb : KBinds X.K fd ps ks g gV) (hx : Passes CX X E)
    (hkw : PK X kws tk) (hall : (backToKw pos (keywordEach kws X.env)).all (·.1.isSome) = true) (hks : (backToKw pos (keywordEach kws X.env)).filterMap (·.1) = ks)
    (hpl : (backToKw pos (keywordEach kws X.env)).any (·.1.isNone) = false) (hdb : (x == ("__debug__" : Str)) = false := by decide) :
    PE X (.Call (.Name x p) [] kws pos) (tCallK sp gV E tNil tk) := by
  refine ⟨fun pins s σ H Q I h => ?_⟩
  refine wpAny_Call_Name_kw (ld_glob I hg hm ?_ hdb)
  refine PySem.W.callWith_KW0 (h₀ := X.base) I.ok.mod.kin hk hall ?_ (by show (false || _) = false; rw [hpl]; rfl)
  refine thn (hkw.run pos pins s σ H _ I h) fun ws s2 ⟨zs, H2, I2, rz, q2⟩ => ⟨I2.kIn, ?_⟩
  rw [hks]
  exact run_fnk (us := []) F hr hb hx I2 .nil rz q2
end
/-- keywords' values -/
def kAny (C : Cs) (kws : List Keyword) : TA := fun σ H Q => ∃ t : TA, (∀ i, PK (C.X i) kws t) ∧ t σ H Q
theorem pk_any (C : Cs) (kws : List Keyword) (i : C.ι) : PK (C.X i) kws (kAny C kws) := ⟨fun pos pins s σ H Q I h => by
  obtain ⟨t, ht, q⟩ := h
  exact (ht i).run pos pins s σ H Q I q⟩
def JK (C : Cs) (ls : List Loc) (kws : List Keyword) (ds : List D) : Prop := EvA C.K C.E (kAny C kws) ls ds
theorem kw_some : ∀ (kws : List Keyword) (env : Env) (pos : Pos), (∀ q ∈ kws, q.1.isSome = true) → (backToKw pos (keywordEach kws env)).all (·.1.isSome) = true ∧ (backToKw pos (keywordEach kws env)).any (·.1.isNone) = false ∧ (backToKw pos (keywordEach kws env)).filterMap (·.1) = kws.filterMap (·.1)
  | [], _, _, _ => ⟨rfl, rfl, rfl⟩
  | ⟨nm, v, kp⟩ :: r, env, pos, h => by
    obtain ⟨h1, h2, h3⟩ := kw_some r env pos fun q hq => h q (List.mem_cons_of_mem _ hq)
    have h0 : nm.isSome = true := h ⟨nm, v, kp⟩ List.mem_cons_self
    cases nm with
    | none => cases h0
    | some n =>
      refine ⟨?_, ?_, ?_⟩
      · show (true && (backToKw pos (keywordEach r env)).all (·.1.isSome)) = true
        rw [h1]; rfl
      · show (false || (backToKw pos (keywordEach r env)).any (·.1.isNone)) = false
        rw [h2]; rfl
      · show n :: (backToKw pos (keywordEach r env)).filterMap (·.1) = n :: r.filterMap (·.1)
        rw [h3]
section
variable {C : Cs} {ls : List Loc} {e : Expr} {d : D} {ds zs : List D} {p pos kpos : Pos} {x : Str} {k n : Nat} {ks : List Str} {perm : List Nat} {R : Rel} {r : List D → D → Prop} {Po : D → Prop} {kws : List Keyword} {nm : Option Str}
theorem jk_nil : JK C ls [] [] := fun F G H σ S xx Q q => ⟨tNil, fun _ => pk_nil, q [] G H (Ex.refl G) (Ex.refl H) S .nil⟩
theorem jk_cons (h : JE C ls e d) (r : JK C ls kws ds) : JK C ls (⟨nm, e, kpos⟩ :: kws) (d :: ds) := fun F G H σ S xx Q q => ⟨tCons (eAny C e) (kAny C kws), fun j => pk_cons (pe_any C e j) (pk_any C kws j), evA_cons (K := C.K) h r F G H σ S xx Q q⟩
theorem filt_map {α β : Type} (f : α → β) (l : List α) : ∀ perm : List Nat, (perm.filterMap fun i => (l.map f)[i]?) = (perm.filterMap fun i => l[i]?).map f
  | [] => rfl
  | i :: p => by
    rw [List.filterMap_cons, List.filterMap_cons, List.getElem?_map]
    cases l[i]? with
    | none => exact filt_map f l p
    | some x => show _ :: _ = _ :: _; rw [filt_map f l p]
theorem dqAll_perm {K : Fg} {G : Hp} {vs : List V} {ds : List D} (r : DqAll K G vs ds) : ∀ perm : List Nat, DqAll K G (perm.filterMap fun i => vs[i]?) (perm.filterMap fun i => ds[i]?)
  | [] => .nil
  | i :: p => by
    rw [List.filterMap_cons, List.filterMap_cons]
    cases h : ds[i]? with
    | none =>
      have h2 : vs[i]? = none := by
        rw [List.getElem?_eq_none_iff] at h ⊢
        rw [r.length]; exact h
      rw [h2]
      exact dqAll_perm r p
    | some x =>
      obtain ⟨u, e, q⟩ := r.get h
      rw [e]
      exact .cons q (dqAll_perm r p)
theorem jx_callK0 [Cold C] (F : Fk C.P C.w C.K C.mg C.base k x 0 ks perm R C.E.T) (ha : JK C ls kws ds) (hl : ds.length = ks.length) (hR : R (perm.filterMap fun i => ds[i]?) Po) (hns : ∀ q ∈ kws, q.1.isSome = true) (hks : kws.filterMap (·.1) = ks) (hk : k ≤ C.k := by exact Nat.le_of_ble_eq_true rfl) (hg : ∀ j, Gl (C.X j) x := by intro _; rfl) (hdb : (x == ("__debug__" : Str)) = false := by decide) :
    JX C ls (.Call (.Name x p) [] kws pos) Po := by
  obtain ⟨f, fd, ps, G, hm, kp, hb⟩ := F.ex
  refine fun F' G1 H1 σ S xx Q q => ⟨tCallK (spD C.K R C.E.T) (gPerm 0 ks.length perm) E0 tNil (kAny C kws), fun j => ?_, ha F' G1 H1 σ S xx _ fun vs G2 H2 eg2 eh2 S2 hv => ?_⟩
  · obtain ⟨h1, h2, h3⟩ := kw_some kws (C.X j).env pos hns
    exact pe_callK0 (fnAt G hk j) (C.cold j Cold.h) (hg j) (by rw [C.hmg]; exact hm) (by rw [C.hK]; exact kp) (by rw [C.hK]; exact hb) pass0 (pk_any C kws j) h1 (h3.trans hks) h2 hdb
  · have e1 : gPerm 0 ks.length perm [] vs = perm.filterMap fun i => vs[i]? := by
      unfold gPerm
      rw [if_pos ⟨rfl, by rw [hv.length]; exact hl⟩]
      rfl
    rw [e1]
    refine ⟨G2, _, Po, S2.ex, (xx.step eg2 eh2).tb, dqAll_perm hv perm, hR, fun d hd G3 H3 v eg3 e3 eh3 n3 hv3 => q d v G3 H3 hd (eg2.trans eg3) (eh2.trans eh3) (S2.grow eg3 eh3 e3 fun a ha => ?_) hv3⟩
    by_cases h2 : NT H2 a
    · exact Or.inl fun g => ha (n3 a h2 g)
    · exact Or.inr h2
theorem je_callK0 [Cold C] (F : Fk C.P C.w C.K C.mg C.base k x 0 ks perm (det r) C.E.T) (ha : JK C ls kws ds) (hl : ds.length = ks.length) (hR : r (perm.filterMap fun i => ds[i]?) d) (hns : ∀ q ∈ kws, q.1.isSome = true := by decide) (hks : kws.filterMap (·.1) = ks := by rfl) (hk : k ≤ C.k := by exact Nat.le_of_ble_eq_true rfl) (hg : ∀ j, Gl (C.X j) x := by intro _; rfl) (hdb : (x == ("__debug__" : Str)) = false := by decide) :
    JE C ls (.Call (.Name x p) [] kws pos) d := JX.je (jx_callK0 F ha hl ⟨d, hR, rfl⟩ hns hks hk hg hdb)
end
/-! ### the law's end -/
def rLaw : Rel := fun ds Po => ∃ ns : List Int, ns.length ≤ 63 ∧ ds = [.scr ns] ∧ Po = fun d => d = .bl true
theorem law_end {l : PySem.W.OpenLaw} {k : Nat} {q : Program} {loose : List Str} {XP : (Str → Option Value) → Heap → Prop} {YP : World → Heap → Prop} {d : DefRec} {K : Params → PySem.W.Frag} {x : Str}
    (hn : l.most = some 63) (hdf : d.params.defaults = []) (hr : Room k callerA) (hY : ∀ (w : World) (h : Heap), YP w h → (K w.params).In h)
    (F : ∀ (w : World) (mg : Str → Option Value) (fa : Addr) (h : Heap), (K w.params).In h → h.Ns mainGlobals mg → mg d.name = some (.ref fa) →
      ∃ fd : FuncData, (∀ (s : Shared) (u : Value), BindsTo s fd ⟨[u], []⟩ [(x, u)]) ∧
        ∀ base : Heap, (K w.params).In base → base.Ns mainGlobals mg → FnOk l.prog w (K w.params) mg base CX0 k fa fd [x] (spD (K w.params) rLaw)) :
    PySem.W.WalkO q loose XP YP l.row.toRowW d [] (fun f vs => PySem.call f vs) :=
  L2.walk_of (n := 63) (CX := fun _ => CX0) (sp := fun w => spD (K w.params) rLaw) hn (by decide) hdf hr hY F
    (fun w H a ns hl _ hS => ⟨H, [.scr ns], _, Ex.refl H, fun _ z => z.elim, .cons (.scr hS) .nil, ⟨ns, hl, rfl, rfl⟩, fun d hd G' H' v _ _ _ _ hv => by subst hd; exact dq_bl hv⟩) fun _ _ _ _ _ z => z
/-- a def of the text, and how it is called, from what the head's facts say -/
theorem fn_mk {P : Program} {w : World} {K : Fg} {mg : Str → Option Value} {base : Heap} {k : Nat} {x qual : Str} {st : Stmt} {f : Addr} {fd : FuncData} {ps : List Str} {R : Rel} {T : Addr → Prop} (F : Fun K x qual st f fd) (G : FnOk P w K mg base CX0 k f fd ps (spD K R T)) (hm : mg x = some (.ref f)) (hb : Binds K fd ps []) : Fn P w K mg base k x R T := ⟨f, fd, ps, G, hm, F.kp, hb⟩
theorem fk_mk {P : Program} {w : World} {K : Fg} {mg : Str → Option Value} {base : Heap} {k : Nat} {x qual : Str} {st : Stmt} {f : Addr} {fd : FuncData} {ps ks : List Str} {n : Nat} {perm : List Nat} {R : Rel} {T : Addr → Prop} (F : Fun K x qual st f fd) (G : FnOk P w K mg base CX0 k f fd ps (spD K R T)) (hm : mg x = some (.ref f)) (hp : ps ≠ [])
    (h : ∀ (kV doc pm : Value) (an : Option Addr) (cdv ct : Value) (us ws : List Value), us.length = n → ws.length = ks.length → bindArgs (PySem.W.fnOf x qual (defArgs st) (defBody st) (defScope st) .none kV doc pm an cdv ct) ⟨us, ks.zip ws⟩ = pure (ps.zip (perm.filterMap fun i => (us ++ ws)[i]?))) : Fk P w K mg base k x n ks perm R T := by
  obtain ⟨oc, od, kV, doc, pm, an, cdv, ct, osl, rfl, lk, hcd⟩ := F.ex
  exact ⟨f, _, ps, G, hm, F.kp, kb_of hp (h kV doc pm an cdv ct)⟩
/-- a def as it stands behind the top -/
structure FT (K : Fg) (mg : Str → Option Value) (x : Str) (st : Stmt) : Prop where
  ex : ∃ f fd, Fun K x x st f fd ∧ mg x = some (.ref f)
theorem ft_mk {K : Fg} {h : Heap} {mg : Str → Option Value} {x : Str} {st : Stmt} {f : Addr} (X : K.In h) (G : h.Ns mainGlobals mg) {od an : Option Addr} {sl : Array (Option Value)} {oc kV dc pm cd ct : Value}
    (a : PySem.W.nsIn K mainGlobals x = some (some (.ref f))) (l : K.lookup f = some ⟨oc, od, .func (PySem.W.fnOf x x (defArgs st) (defBody st) (defScope st) .none kV dc pm an cd ct), sl⟩) (c : PySem.W.codeIn K cd x = true) (k : PySem.W.keepIn K (.ref f) = true) : FT K mg x st :=
  ⟨f, _, fun_mk (st := st) l c k, PySem.W.mg_of X G a⟩
section
variable {P : Program} {w : World} {K : Fg} {mg : Str → Option Value} {base : Heap} {k : Nat} {x : Str} {st : Stmt} {ps ks : List Str} {R : Rel} {T : Addr → Prop} {n : Nat} {perm : List Nat}
theorem FT.fn (Y : FT K mg x st) (G : ∀ {f fd}, Fun K x x st f fd → FnOk P w K mg base CX0 k f fd ps (spD K R T)) (h : ∀ (kV doc pm : Value) (an : Option Addr) (cdv ct : Value) (us : List Value), us.length = ps.length → bindArgs (PySem.W.fnOf x x (defArgs st) (defBody st) (defScope st) .none kV doc pm an cdv ct) ⟨us, []⟩ = pure (ps.zip us)) : Fn P w K mg base k x R T := by
  obtain ⟨f, fd, F, hm⟩ := Y.ex
  exact fn_mk F (G F) hm (F.binds h)
theorem FT.fk (Y : FT K mg x st) (G : ∀ {f fd}, Fun K x x st f fd → FnOk P w K mg base CX0 k f fd ps (spD K R T)) (hp : ps ≠ [])
    (h : ∀ (kV doc pm : Value) (an : Option Addr) (cdv ct : Value) (us ws : List Value), us.length = n → ws.length = ks.length → bindArgs (PySem.W.fnOf x x (defArgs st) (defBody st) (defScope st) .none kV doc pm an cdv ct) ⟨us, ks.zip ws⟩ = pure (ps.zip (perm.filterMap fun i => (us ++ ws)[i]?))) : Fk P w K mg base k x n ks perm R T := by
  obtain ⟨f, fd, F, hm⟩ := Y.ex
  exact fk_mk F (G F) hm hp h
theorem FT.law {lp : Program} (Y : FT K mg "law" st) {fa : Addr} (hfa : mg "law" = some (.ref fa)) (G : ∀ (base : Heap) {f fd}, Fun K "law" "law" st f fd → FnOk lp w K mg base CX0 k f fd ["script"] (spD K R T))
    (h : ∀ (kV doc pm : Value) (an : Option Addr) (cdv ct : Value) (v : Value), bindArgs (PySem.W.fnOf "law" "law" (defArgs st) (defBody st) (defScope st) .none kV doc pm an cdv ct) ⟨[v], []⟩ = pure [(("script" : Str), v)]) :
    ∃ fd : FuncData, (∀ (s : Shared) (u : Value), BindsTo s fd ⟨[u], []⟩ [("script", u)]) ∧ ∀ base : Heap, K.In base → base.Ns mainGlobals mg → FnOk lp w K mg base CX0 k fa fd ["script"] (spD K R T) := by
  obtain ⟨f, fd, F, hm⟩ := Y.ex
  have e := hfa.symm.trans hm
  cases e
  refine ⟨fd, fun s u => ?_, fun base _ _ => G base F⟩
  obtain ⟨oc, od, kV, doc, pm, an, cdv, ct, osl, rfl, lk, hcd⟩ := F.ex
  exact .of_eq (h kV doc pm an cdv ct u)
end
end Qp

/-! Q7: lists of ints, squares, as data. -/
namespace Qp
open PySem PySem.Spec PyProof.Rows L2
def iL (ns : List Int) : List D := ns.map D.int
theorem iL_app (xs : List Int) (x : Int) : iL xs ++ [D.int x] = iL (xs ++ [x]) := by
  unfold iL; rw [List.map_append]; rfl
theorem iL_cat (xs ys : List Int) : iL xs ++ iL ys = iL (xs ++ ys) := by
  unfold iL; rw [List.map_append]
theorem iL_len (xs : List Int) : (iL xs).length = xs.length := by unfold iL; rw [List.length_map]
theorem iL_get (xs : List Int) (i : Nat) : (iL xs)[i]? = xs[i]?.map D.int := by unfold iL; rw [List.getElem?_map]
theorem iL_getD {xs : List Int} {i : Nat} (h : i < xs.length) : (iL xs)[i]? = some (.int (xs.getD i 0)) := by
  rw [iL_get, List.getElem?_eq_getElem h, List.getD_eq_getElem?_getD, List.getElem?_eq_getElem h]; rfl
theorem atI_iL {xs : List Int} {i : Nat} (h : i < xs.length) : atI (iL xs) (i : Int) = some (.int (xs.getD i 0)) := atI_nat (iL_getD h)
/-- an int as a place -/
theorem atI_int {xs : List Int} {i : Int} (h0 : 0 ≤ i) (h : i < xs.length) : atI (iL xs) i = some (.int (xs.getD i.toNat 0)) := by
  have e : i = (i.toNat : Int) := by omega
  rw [e, Int.toNat_natCast]
  exact atI_iL (by omega)
theorem atI_map {α : Type} {xs : List α} (g : α → D) (z : α) {i : Int} (h0 : 0 ≤ i) (h : i < xs.length) : atI (xs.map g) i = some (g (xs.getD i.toNat z)) := by
  have e : i = (i.toNat : Int) := by omega
  rw [e, Int.toNat_natCast]
  have h2 : i.toNat < xs.length := by omega
  refine atI_nat ?_
  rw [List.getElem?_map, List.getElem?_eq_getElem h2, List.getD_eq_getElem?_getD, List.getElem?_eq_getElem h2]; rfl
theorem getD_mem {α : Type} {xs : List α} {i : Nat} (z : α) (h : i < xs.length) : xs.getD i z ∈ xs := by
  rw [List.getD_eq_getElem?_getD, List.getElem?_eq_getElem h]; exact List.getElem_mem h
/-- rows of ints as tuples; as lists -/
def tR (rows : List (List Int)) : D := .tup (rows.map fun r => .tup (iL r))
def lR (rows : List (List Int)) : D := .lst (rows.map fun r => .lst (iL r))
theorem outs_listD {α : Type} (xs : List α) (z : α) (g : α → D) {n : Nat} {b : Nat → Bool} {f : Nat → D} (hn : n = xs.length) (hb : b = fun _ => true) (hf : f = fun i => g (xs.getD i z)) : outs n b f = xs.map g := by
  subst hn hb hf
  exact outs_list xs z g
theorem outs_iL {n : Nat} {b : Nat → Bool} {f : Nat → D} (xs : List Int) (hn : n = xs.length) (hb : b = fun _ => true) (hf : ∀ i, i < n → f i = .int (xs.getD i 0)) : outs n b f = iL xs := by
  subst hn hb
  rw [outs_all]
  apply List.ext_getElem?
  intro i
  by_cases hi : i < xs.length
  · rw [List.getElem?_map, List.getElem?_range hi, iL_getD hi]
    show some (f i) = _
    rw [hf i hi]
  · rw [List.getElem?_map, List.getElem?_eq_none (by rw [List.length_range]; omega), List.getElem?_eq_none (by rw [iL_len]; omega)]; rfl
theorem outs_map {α : Type} {n : Nat} {b : Nat → Bool} {f : Nat → D} (xs : List α) (z : α) (g : α → D) (hn : n = xs.length) (hb : b = fun _ => true) (hf : ∀ i, i < n → f i = g (xs.getD i z)) : outs n b f = xs.map g := by
  subst hn hb
  rw [outs_all]
  apply List.ext_getElem?
  intro i
  by_cases hi : i < xs.length
  · rw [List.getElem?_map, List.getElem?_range hi, List.getElem?_map, List.getElem?_eq_getElem hi]
    show some (f i) = _
    rw [hf i hi, List.getD_eq_getElem?_getD, List.getElem?_eq_getElem hi]; rfl
  · rw [List.getElem?_map, List.getElem?_eq_none (by rw [List.length_range]; omega), List.getElem?_map, List.getElem?_eq_none (by omega)]; rfl
/-- a written part of a list of ints -/
def cutL {α : Type} (xs : List α) (lo hi : Option Int) : List α := (xs.drop (HT.sIx xs.length 0 lo)).take (HT.sIx xs.length xs.length hi - HT.sIx xs.length 0 lo)
theorem cutD_map {α : Type} (xs : List α) (g : α → D) (lo hi : Option Int) : cutD (xs.map g) lo hi = (cutL xs lo hi).map g := by
  unfold cutD cutL
  rw [List.length_map, List.map_take, List.map_drop]
theorem cutD_iL (xs : List Int) (lo hi : Option Int) : cutD (iL xs) lo hi = iL (cutL xs lo hi) := cutD_map xs D.int lo hi
theorem cutL_nat {α : Type} {xs : List α} {a b : Nat} (hab : a ≤ b) (hb : b ≤ xs.length) : cutL xs (some (a : Int)) (some (b : Int)) = (xs.drop a).take (b - a) := by
  unfold cutL
  rw [HT.sIx_nat, HT.sIx_nat, Nat.min_eq_left hb, Nat.min_eq_left (Nat.le_trans hab hb)]
theorem cutL_lo {α : Type} {xs : List α} {a : Nat} (h : a ≤ xs.length) : cutL xs (some (a : Int)) none = xs.drop a := by
  unfold cutL
  rw [HT.sIx_nat, HT.sIx_none, Nat.min_eq_left h]
  exact List.take_of_length_le (by rw [List.length_drop]; exact Nat.le_refl _)
theorem cutL_hi {α : Type} {xs : List α} {b : Nat} (h : b ≤ xs.length) : cutL xs none (some (b : Int)) = xs.take b := by
  unfold cutL
  rw [HT.sIx_nat, HT.sIx_none, Nat.min_eq_left h, Nat.sub_zero, List.drop_zero]
section
variable {C : Cs} {ls : List Loc} {e a b : Expr} {d d1 : D} {ds : List D} {pos : Pos}
/-- a list of ints at an open place: some int of which p holds -/
theorem jx_ixI {xs : List Int} {i : Int} (p : Int → Prop) (ha : JC C ls a (iL xs)) (hb : JE C ls b (.int i)) (h0 : 0 ≤ i ∧ i < xs.length) (hp : ∀ x ∈ xs, p x) (hs : PlainIx b := by intro _ _; rfl) : JX C ls (.Subscript a b pos) fun d => ∃ x, d = .int x ∧ p x :=
  .of (je_ixL ha hb (atI_int h0.1 h0.2) hs) ⟨_, rfl, hp _ (getD_mem 0 (by omega))⟩
theorem all_nil {p : Int → Prop} : ∀ x ∈ ([] : List Int), p x := fun _ h => (List.not_mem_nil h).elim
theorem all_cons {p : Int → Prop} {x : Int} {xs : List Int} (h : p x) (r : ∀ y ∈ xs, p y) : ∀ y ∈ x :: xs, p y := fun y hy => (List.mem_cons.mp hy).elim (fun e => e ▸ h) (r y)
end
/-! kinds -/
section
variable {xs : List D} {i : Int} {b : Bool} {x : Str} {ns : List Int}
@[simp] theorem isTup_tup : (D.tup xs).isTup = true := rfl
@[simp] theorem isTup_lst : (D.lst xs).isTup = false := rfl
@[simp] theorem isTup_int : (D.int i).isTup = false := rfl
@[simp] theorem isLst_lst : (D.lst xs).isLst = true := rfl
@[simp] theorem isLst_tup : (D.tup xs).isLst = false := rfl
@[simp] theorem isLst_int : (D.int i).isLst = false := rfl
@[simp] theorem isInt_int : (D.int i).isInt = true := rfl
@[simp] theorem isInt_bl : (D.bl b).isInt = true := rfl
@[simp] theorem isBool_int : (D.int i).isBool = false := rfl
@[simp] theorem isBool_bl : (D.bl b).isBool = true := rfl
@[simp] theorem isStr_str : (D.str x).isStr = true := rfl
@[simp] theorem isTup_tR {rows : List (List Int)} : (tR rows).isTup = true := rfl
end
/-! numbers -/
theorem mulW {i j : Int} {a b : Nat} (ha : i.natAbs < 2 ^ a) (hb : j.natAbs < 2 ^ b) (h0 : 0 < a) (h1 : 0 < b) (h : a + b ≤ 1000000) : IntMulOk i j := (wide_mul ha hb h0 h1 h).ok
theorem divW {i j : Int} {b : Nat} (h : 0 < j) (hb : j < 2 ^ b) (h0 : 0 < b) (h9 : b ≤ 9000) : CDivW i j := wide_div h (by
  have e : ((j.natAbs : Nat) : Int) = j := by omega
  have e2 : ((2 ^ b : Nat) : Int) = (2 : Int) ^ b := by rw [Int.natCast_pow]; rfl
  omega) h0 h9
theorem log2_of {j : Int} {b : Nat} (h : 0 ≤ j) (hb : j < 2 ^ b) (h0 : 0 < b) : j.natAbs.log2 < b := PySem.Flt.log2_lt_of h0 (by
  have e : ((j.natAbs : Nat) : Int) = j := by omega
  have e2 : ((2 ^ b : Nat) : Int) = (2 : Int) ^ b := by rw [Int.natCast_pow]; rfl
  omega)
/-! the laws' draws -/
def mCell (ns : List Int) (k : Nat) : Int := ((ns.getD k 0).natAbs : Int)
def mix (cell k : Int) : Int :=
  let first := (cell * 48271 + (k + 1) * 69621) % 2147483647
  let second := (first * first + (k + 1) * 40692) % 2147483399
  (second * second + first) % 2147483647
def drawsFrom (cell most : Int) : Nat → Nat → Int → List Int
  | 0, _, _ => []
  | n + 1, k, left => if most ≤ left then left % most :: drawsFrom cell most n (k + 1) (left / most) else mix cell k % most :: drawsFrom cell most n (k + 1) left
def draws (cell : Int) (many : Nat) (most : Int) : List Int := drawsFrom cell most many 0 (if 1000000000000000000 ≤ cell then cell else 0)
theorem drawsFrom_len (cell most : Int) : ∀ (n k : Nat) (left : Int), (drawsFrom cell most n k left).length = n
  | 0, _, _ => rfl
  | n + 1, k, left => by
    unfold drawsFrom
    split <;> rw [List.length_cons, drawsFrom_len]
theorem draws_len (cell : Int) (many : Nat) (most : Int) : (draws cell many most).length = many := drawsFrom_len _ _ _ _ _
theorem drawsFrom_mem {cell most : Int} (h : 0 < most) : ∀ (n k : Nat) (left : Int), ∀ x ∈ drawsFrom cell most n k left, 0 ≤ x ∧ x < most
  | 0, _, _, x, hx => by cases hx
  | n + 1, k, left, x, hx => by
    unfold drawsFrom at hx
    split at hx
    · rcases List.mem_cons.mp hx with e | e
      · subst e; exact ⟨Int.emod_nonneg _ (by omega), Int.emod_lt_of_pos _ h⟩
      · exact drawsFrom_mem h n (k + 1) _ x e
    · rcases List.mem_cons.mp hx with e | e
      · subst e; exact ⟨Int.emod_nonneg _ (by omega), Int.emod_lt_of_pos _ h⟩
      · exact drawsFrom_mem h n (k + 1) _ x e
theorem draws_mem {cell : Int} {many : Nat} {most : Int} (h : 0 < most) {i : Nat} (hi : i < many) : 0 ≤ (draws cell many most).getD i 0 ∧ (draws cell many most).getD i 0 < most :=
  drawsFrom_mem h _ _ _ _ (getD_mem 0 (by have := draws_len cell many most; unfold draws at this; rw [this]; exact hi))
def rCell : List D → D → Prop := fun ds d => ∃ (ns : List Int) (k : Nat), ds = [.scr ns, .int k] ∧ d = .int (mCell ns k)
def rDraws : List D → D → Prop := fun ds d => ∃ (cell : Int) (many : Nat) (most : Int), ds = [.int cell, .int many, .int most] ∧ many < 100000 ∧ 0 < most ∧ most.natAbs.log2 < 9000 ∧ d = .lst (iL (draws cell many most))
end Qp

/-! Q8: lists that change by place, lists of lists, own lists looked at, equality. -/
namespace Qp
open PySem PySem.Spec PyProof.Rows L2
/-! ### an own list, looked at -/
inductive Pure : D → Prop
  | non : Pure .non
  | bl (b : Bool) : Pure (.bl b)
  | int (i : Int) : Pure (.int i)
  | str (x : Str) : Pure (.str x)
  | tup {ds : List D} : (∀ d ∈ ds, Pure d) → Pure (.tup ds)
  | ref (a : Addr) : Pure (.ref a)
theorem pure_ints (ns : List Int) : Pure (.tup (iL ns)) := .tup fun d hd => by
  unfold iL at hd
  obtain ⟨n, _, rfl⟩ := List.mem_map.mp hd
  exact .int n
theorem pure_tR (rows : List (List Int)) : Pure (tR rows) := .tup fun d hd => by
  obtain ⟨r, _, rfl⟩ := List.mem_map.mp hd
  exact pure_ints r
mutual
theorem dq_pure {K : Fg} {G G' : Hp} (h : ∀ a xs, SqT K G a xs → SqT K G' a xs) : ∀ {v : V} {d : D}, Dq K G v d → Pure d → Dq K G' v d
  | _, _, .non, _ => .non
  | _, _, .bl b, _ => .bl b
  | _, _, .int i, _ => .int i
  | _, _, .str x, _ => .str x
  | _, _, .lst _ _, p => by cases p
  | _, _, .tup t a, p => by
    cases p with
    | tup q => exact .tup (h _ _ t) (dqAll_pure h a q)
  | _, _, .scr _, p => by cases p
  | _, _, .ref a, _ => .ref a
  | _, _, .ty n, p => by cases p
theorem dqAll_pure {K : Fg} {G G' : Hp} (h : ∀ a xs, SqT K G a xs → SqT K G' a xs) : ∀ {vs : List V} {ds : List D}, DqAll K G vs ds → (∀ d ∈ ds, Pure d) → DqAll K G' vs ds
  | _, _, .nil, _ => .nil
  | _, _, .cons q a, p => .cons (dq_pure h q (p _ List.mem_cons_self)) (dqAll_pure h a fun d hd => p d (List.mem_cons_of_mem _ hd))
end
def minus (G : Hp) (p : Addr) : Hp := fun a => if a = p then none else G a
theorem minus_same {G : Hp} {p : Addr} : minus G p p = none := if_pos rfl
theorem minus_ne {G : Hp} {p a : Addr} (h : a ≠ p) : minus G p a = G a := if_neg h
/-- the address of an own list is told by its slot -/
theorem own_addr {K : Fg} {G H : Hp} {σ : L2.St} {i : Nat} {ds : List D} {ps : List Addr} {p : Addr} (h : LocOk K G H (σ.getD i none) (.own ds) ps) (hp : σ[i]? = some (some (V.ref p))) : ps = [p] := by
  obtain ⟨q, vs, e0, e, _⟩ := h
  rw [List.getD_eq_getElem?_getD, hp] at e
  cases e
  exact e0
/-- own addresses are the same ones behind a growth -/
theorem own_same {K : Fg} {G G2 H H2 : Hp} {sv : Option V} {l : Loc} {ps ps2 : List Addr} (eh : Ex H H2) (h : LocOk K G H sv l ps) (h2 : LocOk K G2 H2 sv l ps2) : ps2 = ps := by
  cases l with
  | any => rw [show ps = [] from h, show ps2 = [] from h2]
  | val d => rw [h.1, h2.1]
  | own ds =>
    obtain ⟨p, vs, e1, e2, e3, e4⟩ := h
    obtain ⟨p2, vs2, f1, f2, f3, f4⟩ := h2
    rw [e2] at f2
    cases f2
    rw [e1, f1]
  | own2 dss =>
    obtain ⟨p, qs, e1, e2, e3, e4⟩ := h
    obtain ⟨p2, qs2, f1, f2, f3, f4⟩ := h2
    rw [e2] at f2
    cases f2
    have h6 := eh _ _ e3
    rw [f3] at h6
    rw [e1, f1, refs_inj (HO.lst.inj (Option.some.inj h6))]
theorem Sat.unthaw {K : Fg} {F : Addr → Prop} {G G3 H H3 : Hp} {σ : L2.St} {ls : List Loc} {i : Nat} {ds : List D} {p : Addr} {l3 : Loc} (S : Sat K F G H σ ls) (hl : ls[i]? = some (.own ds)) (hp : σ[i]? = some (some (V.ref p))) (S3 : Sat K F G3 H3 σ (ls.set i l3)) (eg : Ex G G3) (eh : Ex H H3) : Ex G (minus G3 p) ∧ Sat K F (minus G3 p) H3 σ ls := by
  obtain ⟨ow, h1, h2, h3, h4⟩ := S.ow
  obtain ⟨ow3, k1, k2, k3, k4⟩ := S3.ow
  have ei := own_addr (h1 i _ hl) hp
  have pi : p ∈ ow i := by rw [ei]; exact List.mem_cons_self
  have gp := (h2 i p pi).1
  have eg2 : Ex G (minus G3 p) := fun a o ha => by
    rw [minus_ne (ne_of_none ha gp)]
    exact eg a o ha
  refine ⟨eg2, fun a o ha => ?_, fun a fa => ⟨?_, (S3.fo a fa).2⟩, S.len, fun j => if j < ls.length then ow j else [], fun j l hj => ?_, fun j q hq => ?_, fun j => ?_, fun j k q hj hk => ?_⟩
  · by_cases e : a = p
    · subst e; rw [minus_same] at ha; cases ha
    · rw [minus_ne e] at ha; exact S3.ex a o ha
  · by_cases e : a = p
    · subst e; exact minus_same
    · rw [minus_ne e]; exact (S3.fo a fa).1
  · have hlt := (List.getElem?_eq_some_iff.mp hj).1
    simp only [if_pos hlt]
    exact locOk_mono eg2 (fun q hq => ex_eq eh (h2 j q hq).2.1) (h1 j l hj)
  · simp only at hq
    split at hq
    · next hlt =>
      have hq2 := h2 j q hq
      refine ⟨?_, ex_nt eh hq2.2.1, hq2.2.2⟩
      by_cases e : q = p
      · subst e; exact minus_same
      · rw [minus_ne e]
        have hji : j ≠ i := fun z => by
          rw [z, ei] at hq
          exact e (List.mem_singleton.mp hq)
        have hj := List.getElem?_eq_getElem hlt
        have hj3 : (ls.set i l3)[j]? = some ls[j] := by rw [List.getElem?_set_ne (Ne.symm hji)]; exact hj
        rw [← own_same eh (h1 j _ hj) (k1 j _ hj3)] at hq
        exact (k2 j q hq).1
    · cases hq
  · simp only
    split
    · exact h3 j
    · exact List.nodup_nil
  · simp only at hj hk
    split at hj
    · split at hk
      · exact h4 j k q hj hk
      · cases hk
    · cases hj
section
variable {C : Cs} {ls : List Loc} {e a b c : Expr} {d d1 d2 : D} {ds es : List D} {pos pos' : Pos} {P : Post} {rest body : List Stmt}
/-- an expression that looks at the own list of slot i, its value made of tuples -/
theorem je_peek (i : Nat) (h : JE C (ls.set i (.val (.lst ds))) e d) (hp : Pure d) (hl : ls[i]? = some (.own ds) := by rfl) (hx : ∀ l c gs, ¬ C.E.xp l c gs := by intro _ _ _ z; exact z) : JE C ls e d := fun F G H σ S xx Q q => by
  obtain ⟨p, vs, ep, hpv, hv, gp, nf⟩ := S.ownAt hl
  obtain ⟨G1, eg, fg, S1⟩ := S.thaw hl
  have x1 : Xok C.K C.E F G1 H σ (ls.set i (.val (.lst ds))) := ⟨fun P h => (xx.tb P h).mono eg, fun p h => (xx.dx p h).mono eg, fun _ _ _ _ _ _ _ _ _ _ _ z => (hx _ _ _ z).elim⟩
  refine h F G1 H σ S1 x1 Q fun v G3 H3 eg3 eh3 S3 hd => ?_
  obtain ⟨e2, S4⟩ := S.unthaw hl ep S3 (eg.trans eg3) eh3
  refine q v _ H3 e2 eh3 S4 (dq_pure (fun a xs t => ?_) hd hp)
  have gl : ∃ ws, G3 p = some (.lst ws) := by
    obtain ⟨v', e', hd'⟩ := S3.var (i := i) (d := .lst ds) (by rw [List.getElem?_set_self (List.getElem?_eq_some_iff.mp hl).1])
    obtain ⟨a', ws, rfl, ha', _⟩ := dq_lst hd'
    rw [ep] at e'
    cases e'
    exact ⟨ws, ha'⟩
  obtain ⟨ws, gl⟩ := gl
  rcases t with (t | ⟨o, t⟩) | t
  · have ne : a ≠ p := fun z => by subst z; rw [t] at gl; cases gl
    exact Or.inl (Or.inl (by rw [minus_ne ne]; exact t))
  · have ne : a ≠ p := fun z => by subst z; rw [t] at gl; cases gl
    exact Or.inl (Or.inr ⟨o, by rw [minus_ne ne]; exact t⟩)
  · exact Or.inr t
/-! ### xs[k] = e -/
theorem js_setItem (i : Nat) {x : Str} {p1 p2 : Pos} {k : Nat} (he : JE C ls e d) (hb : JE C ls b (.int k)) (hl : ls[i]? = some (.own ds)) (hk : k < ds.length) (hn : P.nx (ls.set i (.own (ds.set k d)))) (hi : C.N[i]? = some x := by rfl)
    (hv : ∀ j, Vis (C.X j).env.scope x := by intro _; first | exact Or.inl rfl | exact Or.inr (Or.inl rfl) | exact Or.inr (Or.inr rfl)) (hd : (x == ("__debug__" : Str)) = false := by decide) (hcd : (x == ("__classdict__" : Str)) = false := by decide)
    (ha : ∀ j v, assign (.Subscript (.Name x p1) b p2) (C.X j).env v = (do
      let ov ← holding [v] (eval (.Name x p1) (C.X j).env)
      let iv ← holding [v, ov] (eval b (C.X j).env)
      standAt p2
      holding [v, ov, iv] (setItem ov iv v)
      release [v, ov, iv] []) := by intro _ _; rfl)
    (hs : ∀ j, swapsWithSole [.Subscript (.Name x p1) b p2] e pos.line (C.X j).env = pure false := by intro _; rfl) (hw : ∀ j, swappedStores [.Subscript (.Name x p1) b p2] e (C.X j).env = pure none := by intro _; rfl) (h1 : ∀ j, (assignEach [.Subscript (.Name x p1) b p2] (C.X j).env).map (·.2) = [assign (.Subscript (.Name x p1) b p2) (C.X j).env] := by intro _; rfl) :
    JS C ls (.Assign [.Subscript (.Name x p1) b p2] e pos) P :=
  js_of (fun j => ps_asg (pe_any C e j) (pg_sub (pe_var (i := i) (by rw [C.hN]; exact hi) (hv j) hd hcd) (pe_any C b j) set_list (ha j)) (hs j) (hw j) (h1 j)) fun F G H σ D' S f => he F G H σ S (f.xok S) _ fun v G1 H1 eg1 eh1 S1 hv1 => by
    obtain ⟨p, vs, ep, hp, hv, gp, nf⟩ := S1.ownAt hl
    refine ⟨.ref p, ep, hb F G1 H1 σ S1 ((f.xok S).step eg1 eh1) _ fun y G2 H2 eg2 eh2 S2 hy => ?_⟩
    obtain ⟨p2, vs2, ep2, hp2, hv2, gp2, nf2⟩ := S2.ownAt hl
    rw [ep] at ep2
    cases ep2
    refine ⟨p, vs2, k, k, rfl, dq_int hy, hp2, ?_, ?_⟩
    · have := hv2.length
      unfold ixN
      rw [if_pos (by omega), if_pos (by omega)]
      simp
    · exact f.nx G2 _ σ _ (eg1.trans eg2) ((S.kp (eh1.trans eh2)).put (nt_lst hp2) nf) (S2.mut hl ep (hv2.set (dq_mono eg2 hv1) k)) hn
end
/-! ### lists of own lists -/
theorem own2_len {K : Fg} {G H : Hp} : ∀ {qs : List Addr} {dss : List (List D)}, Own2 K G H qs dss → qs.length = dss.length
  | [], [], _ => rfl
  | _ :: _, _ :: _, ⟨_, h⟩ => congrArg (· + 1) (own2_len h)
theorem own2_at {K : Fg} {G H : Hp} : ∀ {qs : List Addr} {dss : List (List D)} {y : Nat} {ds : List D}, Own2 K G H qs dss → dss[y]? = some ds → ∃ q vs, qs[y]? = some q ∧ H q = some (.lst vs) ∧ DqAll K G vs ds
  | [], [], _, _, _, e => by simp at e
  | q :: qs, ds :: dss, 0, _, ⟨⟨vs, h1, h2⟩, _⟩, e => by simp at e; subst e; exact ⟨q, vs, rfl, h1, h2⟩
  | q :: qs, _ :: dss, y + 1, _, ⟨_, h⟩, e => by
    obtain ⟨q2, vs, e1, e2⟩ := own2_at (y := y) h (by simpa using e)
    exact ⟨q2, vs, by simpa using e1, e2⟩
theorem own2_set {K : Fg} {G H H' : Hp} {q : Addr} {vs : List V} {es : List D} (hq : H' q = some (.lst vs)) (hv : DqAll K G vs es) : ∀ (qs : List Addr) (dss : List (List D)) (y : Nat), qs.Nodup → Own2 K G H qs dss → qs[y]? = some q → (∀ r ∈ qs, r ≠ q → H' r = H r) → Own2 K G H' qs (dss.set y es) := by
  intro qs
  induction qs with
  | nil => intro dss y nd h e k; simp at e
  | cons r qs ih =>
    intro dss y nd h e k
    cases dss with
    | nil => exact h.elim
    | cons ds dss =>
      obtain ⟨⟨ws, h1, h2⟩, h⟩ := h
      have nd' := List.nodup_cons.mp nd
      cases y with
      | zero =>
        have e' : r = q := by simpa using e
        subst e'
        refine ⟨⟨vs, hq, hv⟩, own2_mono (Ex.refl G) (fun r2 hr2 => k r2 (List.mem_cons_of_mem _ hr2) fun z => nd'.1 (z ▸ hr2)) h⟩
      | succ y =>
        have e' : qs[y]? = some q := by simpa using e
        have hr : r ≠ q := fun z => nd'.1 (z ▸ List.mem_of_getElem? e')
        exact ⟨⟨ws, by rw [k r List.mem_cons_self hr]; exact h1, h2⟩, ih dss y nd'.2 h e' fun r2 hr2 => k r2 (List.mem_cons_of_mem _ hr2)⟩
section
variable {K : Fg} {F : Addr → Prop} {G H : Hp} {σ : L2.St} {ls : List Loc} {p : Addr}
theorem Sat.own2At (S : Sat K F G H σ ls) {i : Nat} {dss : List (List D)} (h : ls[i]? = some (.own2 dss)) : ∃ p qs, σ[i]? = some (some (V.ref p)) ∧ H p = some (.lst (qs.map V.ref)) ∧ Own2 K G H qs dss ∧ (p :: qs).Nodup ∧ ∀ q ∈ p :: qs, G q = none ∧ ¬ F q := by
  obtain ⟨ow, h1, h2, h3, _⟩ := S.ow
  obtain ⟨p, qs, e0, e, hp, hv⟩ := h1 i _ h
  refine ⟨p, qs, ?_, hp, hv, by rw [← e0]; exact h3 i, fun q hq => ?_⟩
  · rw [List.getD_eq_getElem?_getD] at e
    cases q : σ[i]? with
    | none => rw [q] at e; cases e
    | some x => rw [q] at e; exact congrArg some e
  · rw [← e0] at hq
    exact ⟨(h2 i q hq).1, (h2 i q hq).2.2⟩
/-- one of the lists changes -/
theorem Sat.mut2 (S : Sat K F G H σ ls) {i y : Nat} {dss : List (List D)} {q : Addr} {qs : List Addr} {ws : List V} {es : List D} (h : ls[i]? = some (.own2 dss)) (hp : σ[i]? = some (some (V.ref p))) (hq0 : H p = some (.lst (qs.map V.ref))) (hq : qs[y]? = some q) (hw : DqAll K G ws es) :
    Sat K F G (upd H q (.lst ws)) σ (ls.set i (.own2 (dss.set y es))) := by
  obtain ⟨ow, h1, h2, h3, h4⟩ := S.ow
  obtain ⟨p', qs', e0, e, hh, hv⟩ := h1 i _ h
  have ep : p' = p := by
    rw [List.getD_eq_getElem?_getD, hp] at e
    cases e; rfl
  subst ep
  rw [hq0] at hh
  have eq : qs = qs' := refs_inj (HO.lst.inj (Option.some.inj hh))
  subst eq
  have hqm : q ∈ qs := List.mem_of_getElem? hq
  have qi : q ∈ ow i := by rw [e0]; exact List.mem_cons_of_mem _ hqm
  have nd := h3 i
  rw [e0] at nd
  have npq : p' ≠ q := fun z => (List.nodup_cons.mp nd).1 (z ▸ hqm)
  obtain ⟨gq, hn, nf⟩ := h2 i q qi
  refine ⟨S.ex.mut gq, fun a fa => ?_, by rw [List.length_set]; exact S.len, ow, fun j l hl => ?_, fun j r hr => ?_, h3, h4⟩
  · have ne : a ≠ q := fun z => nf (z ▸ fa)
    exact ⟨(S.fo a fa).1, nt_eq (S.fo a fa).2 (upd_ne ne)⟩
  · by_cases hj : j = i
    · subst hj
      rw [List.getElem?_set_self (List.getElem?_eq_some_iff.mp h).1] at hl
      cases hl
      exact ⟨p', qs, e0, e, by rw [upd_ne npq]; exact hq0, own2_set upd_same hw _ _ _ (List.nodup_cons.mp nd).2 hv hq fun r _ ne => upd_ne ne⟩
    · rw [List.getElem?_set_ne (Ne.symm hj)] at hl
      refine locOk_mono (Ex.refl G) (fun r hr => upd_ne fun z => hj (h4 j i q (z ▸ hr) qi)) (h1 j l hl)
  · obtain ⟨a, b, c⟩ := h2 j r hr
    refine ⟨a, ?_, c⟩
    by_cases hz : r = q
    · rw [hz]; exact nt_lst upd_same
    · exact nt_eq b (upd_ne hz)
end
section
variable {C : Cs} {ls : List Loc} {e a b c : Expr} {d d1 d2 : D} {ds es : List D} {dss : List (List D)} {pos pos' p1 p2 p3 : Pos} {P : Post} {rest body : List Stmt}
theorem evC_row {K : Fg} {E : Xw} {i y : Nat} {tb : TE} (hl : ls[i]? = some (.own2 dss)) (hb : Ev K E tb ls (.int y)) (hy : dss[y]? = some ds) : EvC K E (tOp (rIxL K) (tVar i) tb) ls ds := fun F G H σ S xx Q q => by
  obtain ⟨p, qs, ep, hp, hv, nd, hf⟩ := S.own2At hl
  refine ⟨_, ep, hb F G H σ S xx _ fun z G2 H2 eg2 eh2 S2 hz => ?_⟩
  obtain ⟨p', qs', ep', hp', hv', nd', hf'⟩ := S2.own2At hl
  rw [ep] at ep'
  cases ep'
  obtain ⟨r, ws, e1, e2, e3⟩ := own2_at hv' hy
  exact ⟨p, qs'.map V.ref, y, .ref r, rfl, dq_int hz, SqL.of hp', atI_nat (by rw [List.getElem?_map, e1]; rfl), q r ws G2 H2 eg2 eh2 S2 e2 e3⟩
/-- rows[y], one of the own lists, as it stands -/
theorem jc_row (i : Nat) {x : Str} {y : Nat} (hb : JE C ls b (.int y)) (hy : dss[y]? = some ds) (hl : ls[i]? = some (.own2 dss) := by rfl) (hi : C.N[i]? = some x := by rfl) (hv : ∀ j, Vis (C.X j).env.scope x := by intro _; first | exact Or.inl rfl | exact Or.inr (Or.inl rfl) | exact Or.inr (Or.inr rfl))
    (hs : PlainIx b := by intro _ _; rfl) (hd : (x == ("__debug__" : Str)) = false := by decide) (hcd : (x == ("__classdict__" : Str)) = false := by decide) : JC C ls (.Subscript (.Name x p1) b pos) ds :=
  jc_of (fun j => pe_ix (ix_list' C j) (pe_var (by rw [C.hN]; exact hi) (hv j) hd hcd) (pe_any C b j) hs) (evC_row hl hb hy)
theorem je_lenO2 (i : Nat) {x : Str} (hl : ls[i]? = some (.own2 dss) := by rfl) (hn : NoG C "len" := by assumption) (hg : ∀ j, Gl (C.X j) "len" := by intro _; rfl) (hi : C.N[i]? = some x := by rfl) (hv : ∀ j, Vis (C.X j).env.scope x := by intro _; first | exact Or.inl rfl | exact Or.inr (Or.inl rfl) | exact Or.inr (Or.inr rfl))
    (hd : (x == ("__debug__" : Str)) = false := by decide) (hcd : (x == ("__classdict__" : Str)) = false := by decide) : JE C ls (.Call (.Name "len" p1) [.Name x p2] [] pos) (.int (dss.length : Int)) :=
  je_of (fun j => pe_callB (len' C j) (hg j) (noG hn j) PySem.boot_len (pa_cons (pe_var (i := i) (by rw [C.hN]; exact hi) (hv j) hd hcd) pa_nil rfl) (by decide) (by decide) rfl rfl) fun F G H σ S xx Q q => by
    obtain ⟨p, qs, ep, hp, hv, nd, hf⟩ := S.own2At hl
    refine ⟨_, ep, p, qs.map V.ref, rfl, Or.inl (SqL.of hp), ?_⟩
    rw [List.length_map, own2_len hv]
    exact q _ G H (Ex.refl G) (Ex.refl H) S (.int _)
/-- rows[y][k] = e -/
theorem js_setCell (i : Nat) {x : Str} {y k : Nat} (he : JE C ls e d) (hb : JE C ls b (.int y)) (hc : JE C ls c (.int k)) (hl : ls[i]? = some (.own2 dss)) (hy : dss[y]? = some ds) (hk : k < ds.length) (hn : P.nx (ls.set i (.own2 (dss.set y (ds.set k d))))) (hi : C.N[i]? = some x := by rfl)
    (hv : ∀ j, Vis (C.X j).env.scope x := by intro _; first | exact Or.inl rfl | exact Or.inr (Or.inl rfl) | exact Or.inr (Or.inr rfl)) (hd : (x == ("__debug__" : Str)) = false := by decide) (hcd : (x == ("__classdict__" : Str)) = false := by decide) (hpl : PlainIx b := by intro _ _; rfl)
    (ha : ∀ j v, assign (.Subscript (.Subscript (.Name x p1) b p2) c p3) (C.X j).env v = (do
      let ov ← holding [v] (eval (.Subscript (.Name x p1) b p2) (C.X j).env)
      let iv ← holding [v, ov] (eval c (C.X j).env)
      standAt p3
      holding [v, ov, iv] (setItem ov iv v)
      release [v, ov, iv] []) := by intro _ _; rfl)
    (hs : ∀ j, swapsWithSole [.Subscript (.Subscript (.Name x p1) b p2) c p3] e pos.line (C.X j).env = pure false := by intro _; rfl) (hw : ∀ j, swappedStores [.Subscript (.Subscript (.Name x p1) b p2) c p3] e (C.X j).env = pure none := by intro _; rfl) (h1 : ∀ j, (assignEach [.Subscript (.Subscript (.Name x p1) b p2) c p3] (C.X j).env).map (·.2) = [assign (.Subscript (.Subscript (.Name x p1) b p2) c p3) (C.X j).env] := by intro _; rfl) :
    JS C ls (.Assign [.Subscript (.Subscript (.Name x p1) b p2) c p3] e pos) P :=
  js_of (fun j => ps_asg (pe_any C e j) (pg_sub (pe_ix (ix_list' C j) (pe_var (i := i) (by rw [C.hN]; exact hi) (hv j) hd hcd) (pe_any C b j) hpl) (pe_any C c j) set_list (ha j)) (hs j) (hw j) (h1 j)) fun F G H σ D' S f => he F G H σ S (f.xok S) _ fun v G1 H1 eg1 eh1 S1 hv1 => by
    obtain ⟨p, qs, ep, hp, hv, nd, hf⟩ := S1.own2At hl
    refine ⟨_, ep, hb F G1 H1 σ S1 ((f.xok S).step eg1 eh1) _ fun z G2 H2 eg2 eh2 S2 hz => ?_⟩
    have hp2 := eh2 _ _ hp
    obtain ⟨p', qs', ep', hp', hv', nd', hf'⟩ := S2.own2At hl
    rw [ep] at ep'
    cases ep'
    rw [hp'] at hp2
    have eqs : qs' = qs := refs_inj (HO.lst.inj (Option.some.inj hp2))
    subst eqs
    obtain ⟨r, ws, e1, e2, e3⟩ := own2_at hv' hy
    refine ⟨p, qs'.map V.ref, y, .ref r, rfl, dq_int hz, SqL.of hp', atI_nat (by rw [List.getElem?_map, e1]; rfl), hc F G2 H2 σ S2 ((f.xok S).step (eg1.trans eg2) (eh1.trans eh2)) _ fun u G3 H3 eg3 eh3 S3 hu => ?_⟩
    have e2' := eh3 _ _ e2
    have e3' := dqAll_mono eg3 e3
    refine ⟨r, ws, k, k, rfl, dq_int hu, e2', ?_, ?_⟩
    · have := e3.length
      unfold ixN
      rw [if_pos (by omega), if_pos (by omega)]
      simp
    · have nfr := (hf' r (List.mem_cons_of_mem _ (List.mem_of_getElem? e1))).2
      exact f.nx G3 _ σ _ ((eg1.trans eg2).trans eg3) ((S.kp ((eh1.trans eh2).trans eh3)).put (nt_lst e2') nfr) (S3.mut2 hl ep (eh3 _ _ hp') e1 (e3'.set (dq_mono (eg2.trans eg3) hv1) k)) hn
end
end Qp

/-! Q9: lists of own lists made, a row put, frozen; equality of data. -/
namespace Qp
open PySem PySem.Spec PyProof.Rows L2
theorem own2_app {K : Fg} {G H : Hp} {q : Addr} {vs : List V} {es : List D} (hq : H q = some (.lst vs)) (hv : DqAll K G vs es) : ∀ {qs : List Addr} {dss : List (List D)}, Own2 K G H qs dss → Own2 K G H (qs ++ [q]) (dss ++ [es])
  | [], [], _ => ⟨⟨vs, hq, hv⟩, True.intro⟩
  | r :: qs, ds :: dss, ⟨h0, h⟩ => ⟨h0, own2_app hq hv h⟩
def EvN2 (K : Fg) (E : Xw) (te : TE) (ls : List Loc) (dss : List (List D)) : Prop := ∀ F G H σ, Sat K F G H σ ls → Xok K E F G H σ ls → ∀ Q : VK, (∀ p qs G' H', Ex G G' → Ex H H' → (∀ q ∈ p :: qs, ¬ F q) → (p :: qs).Nodup → Sat K (fun a => F a ∨ a ∈ p :: qs) G' H' σ ls → H' p = some (.lst (qs.map V.ref)) → Own2 K G' H' qs dss → Q (.ref p) H') → te σ H Q
def JN2 (C : Cs) (ls : List Loc) (e : Expr) (dss : List (List D)) : Prop := EvN2 C.K C.E (eAny C e) ls dss
theorem sat_setN2 {K : Fg} {F : Addr → Prop} {G H : Hp} {σ : L2.St} {ls : List Loc} {p : Addr} {qs : List Addr} (S : Sat K (fun a => F a ∨ a ∈ p :: qs) G H σ ls) (nf : ∀ q ∈ p :: qs, ¬ F q) (nd : (p :: qs).Nodup) {i : Nat} {dss : List (List D)} (h : H p = some (.lst (qs.map V.ref))) (hv : Own2 K G H qs dss) :
    Sat K F G H (σ.set i (some (.ref p))) (ls.set i (.own2 dss)) :=
  sat_repl (ps := p :: qs) S (fun _ h => Or.inl h) ⟨p, qs, rfl, rfl, h, hv⟩ (fun q hq => ⟨(S.fo q (Or.inr hq)).1, (S.fo q (Or.inr hq)).2, nf q hq⟩) nd fun q hq => Or.inr hq
section
variable {K : Fg} {E : Xw} {ls : List Loc}
theorem evN2_lc {wi : TI} {te : TE} (j n : Nat) (xs : Nat → D) (f : Nat → List D) (J : Hp → It → Prop) (hn : n < 1000000) (hj : ∀ l, ls[j]? = some l → l.keeps = true)
    (hw : ∀ F G H σ, Sat K F G H σ ls → Xok K E F G H σ ls → ∀ R : It → Hp → Prop, (∀ Jt G' H', Ex G G' → Ex H H' → Sat K F G' H' σ ls → J G' Jt → R Jt H') → wi σ H R)
    (hstop : ∀ G Jt H, J G Jt → Ex G H → Jt.stop n H) (hgo : ∀ G Jt H i, J G Jt → Ex G H → i < n → Jt.go i H) (hy : ∀ G Jt H i x H1, J G Jt → Ex G H → i < n → Jt.yld i H x H1 → H1 = H ∧ Dq K G x (xs i))
    (he : ∀ i, i < n → EvN K (noX E.T) te (ls.set j (.val (xs i))) (f i)) (tt : TT) (htt : ∀ i, i < n → EvT K (noX E.T) tt (ls.set j (.val (xs i))) true) : EvN2 K E (tLc wi (gName j) tt te [j]) ls ((List.range n).map f) := fun F G H σ S xx Q q => hw F G H σ S xx _ fun Jt G1 H1 eg1 eh1 S1 hJ Dl hD => by
  have nf : ¬ F Dl := fun z => (S1.fo Dl z).2.ne hD
  refine ⟨fun i m H' => m = n - i ∧ i ≤ n ∧ ∃ G' qs, Ex G1 G' ∧ Ex H1 H' ∧ (∀ r ∈ Dl :: qs, ¬ F r) ∧ (Dl :: qs).Nodup ∧ Sat K (fun a => F a ∨ a ∈ Dl :: qs) G' H' σ ls ∧ H' Dl = some (.lst (qs.map V.ref)) ∧ Own2 K G' H' qs ((List.range i).map f), ⟨n, by simp, Nat.zero_le _, G1, [], Ex.refl _, Ex.new hD, fun r hr => by
    rw [List.mem_singleton.mp hr]; exact nf, by simp, (S1.madeF hD).sub (fun a h => h.elim Or.inl fun z => Or.inr (List.mem_singleton.mp z)), upd_same, True.intro⟩, ?_⟩
  rintro i m H' ⟨rfl, hi, G', qs, eg', eh', hf, nd, S', hp, hv⟩
  by_cases hlt : i < n
  · refine .inr ⟨hgo G1 Jt H' i hJ (eg'.trans S'.ex) hlt, fun H2 => ∃ G2 rs, Ex G1 G2 ∧ Ex H1 H2 ∧ (∀ r ∈ Dl :: rs, ¬ F r) ∧ (Dl :: rs).Nodup ∧ Sat K (fun a => F a ∨ a ∈ Dl :: rs) G2 H2 σ ls ∧ H2 Dl = some (.lst (rs.map V.ref)) ∧ Own2 K G2 H2 rs ((List.range (i + 1)).map f), fun H2 h => ⟨n - (i + 1), by omega, rfl, hlt, h⟩, fun x H2 y => ?_⟩
    obtain ⟨rfl, hx⟩ := hy G1 Jt H' i x H2 hJ (eg'.trans S'.ex) hlt y
    have e0 : (wipe σ [j]).set j (some x) = σ.set j (some x) := by
      show (σ.set j none).set j (some x) = _
      rw [List.set_set]
    have e1 : wipe (σ.set j (some x)) [j] = wipe σ [j] := by
      show (σ.set j (some x)).set j none = σ.set j none
      rw [List.set_set]
    show wipe ((wipe σ [j]).set j (some x)) [j] = wipe σ [j] ∧ _
    rw [e0]
    refine ⟨e1, ?_⟩
    have Sx : Sat K (fun a => F a ∨ a ∈ Dl :: qs) G' H2 (σ.set j (some x)) (ls.set j (.val (xs i))) := S'.setV (dq_mono eg' hx)
    refine htt i hlt _ G' H2 _ Sx (xok_no fun P h => ((xx.tb P h).mono eg1).mono eg') _ fun G3 H3 eg3 eh3 S3 => ?_
    rw [if_pos rfl]
    refine he i hlt _ G3 H3 _ S3 (xok_no fun P h => (((xx.tb P h).mono eg1).mono eg').mono eg3) _ fun r ws G4 H4 eg4 eh4 nr S4 hr hws => ?_
    have Sb := (S'.sub (F' := fun a => F a ∨ a ∈ Dl :: qs) fun _ h => h)
    -- the list r belongs to nobody among the slots, too
    have S5 : Sat K (fun a => F a ∨ a ∈ Dl :: (qs ++ [r])) G4 H4 σ ls := by
      have S6 := Sat.restore (F := fun a => (F a ∨ a ∈ Dl :: qs)) S' (S4.sub fun a h => Or.inl h) (eg3.trans eg4) (eh3.trans eh4) hj
      obtain ⟨ow, h1, h2, h3, h4⟩ := S6.ow
      obtain ⟨ow4, k1, k2, k3, k4⟩ := S4.ow
      refine ⟨S6.ex, fun a fa => ?_, S6.len, fun k => if k < ls.length then ow k else [], fun k l hl => ?_, fun k p hp' => ?_, fun k => ?_, fun k k' p hk hk' => ?_⟩
      · by_cases ear : a = r
        · exact S4.fo a (Or.inr ear)
        · refine S6.fo a (fa.elim Or.inl fun z => Or.inr ?_)
          rcases List.mem_cons.mp z with z | z
          · rw [z]; exact List.mem_cons_self
          · rcases List.mem_append.mp z with z | z
            · exact List.mem_cons_of_mem _ z
            · exact absurd (List.mem_singleton.mp z) ear
      · have hlt := (List.getElem?_eq_some_iff.mp hl).1
        simp only [if_pos hlt]
        exact h1 k l hl
      · simp only at hp'
        split at hp'
        · next hlt =>
          obtain ⟨g, hh, nF⟩ := h2 k p hp'
          refine ⟨g, hh, fun z => ?_⟩
          have npr : p ≠ r := by
            intro e
            have hk := List.getElem?_eq_getElem hlt
            by_cases hkj : k = j
            · subst hkj
              have kk := hj _ hk
              have hl := h1 k _ hk
              cases hls : ls[k] with
              | any => rw [hls] at hl; rw [show ow k = [] from hl] at hp'; cases hp'
              | val d => rw [hls] at hl; rw [hl.1] at hp'; cases hp'
              | own ds => rw [hls] at kk; cases kk
              | own2 dss => rw [hls] at kk; cases kk
            · have hk4 : (ls.set j (.val (xs i)))[k]? = some ls[k] := by rw [List.getElem?_set_ne (fun z => hkj z.symm)]; exact hk
              have q4 := k1 k _ hk4
              rw [getD_set_ne hkj] at q4
              have := own_same (Ex.refl H4) (h1 k _ hk) q4
              rw [← this] at hp'
              exact (k2 k p hp').2.2 (Or.inr e)
          rcases z with z | z
          · exact nF (Or.inl z)
          · rcases List.mem_cons.mp z with z | z
            · exact nF (Or.inr (by rw [z]; exact List.mem_cons_self))
            · rcases List.mem_append.mp z with z | z
              · exact nF (Or.inr (List.mem_cons_of_mem _ z))
              · exact npr (List.mem_singleton.mp z)
        · cases hp'
      · simp only
        split
        · exact h3 k
        · exact List.nodup_nil
      · simp only at hk hk'
        split at hk
        · split at hk'
          · exact h4 k k' p hk hk'
          · cases hk'
        · cases hk
    have hp5 := eh4 _ _ (eh3 _ _ hp)
    have nrD : r ≠ Dl := fun z => nr (Or.inr (by rw [z]; exact List.mem_cons_self))
    have nrq : r ∉ qs := fun z => nr (Or.inr (List.mem_cons_of_mem _ z))
    have ndq := List.nodup_cons.mp nd
    have lq := own2_len hv
    rw [List.length_map, List.length_range] at lq
    refine ⟨_, hp5, ?_, G4, qs ++ [r], eg'.trans (eg3.trans eg4), (eh'.trans (eh3.trans eh4)).mut hD, fun u hu => ?_, ?_, ?_, ?_, ?_⟩
    · rw [List.length_map, lq]
      exact Nat.lt_of_le_of_lt hi (Nat.lt_of_lt_of_le hn (by decide))
    · rcases List.mem_cons.mp hu with z | z
      · rw [z]; exact nf
      · rcases List.mem_append.mp z with z | z
        · exact hf u (List.mem_cons_of_mem _ z)
        · rw [List.mem_singleton.mp z]; exact fun w => nr (Or.inl w)
    · refine List.nodup_cons.mpr ⟨fun z => ?_, ?_⟩
      · rcases List.mem_append.mp z with z | z
        · exact ndq.1 z
        · exact nrD (List.mem_singleton.mp z).symm
      · rw [List.nodup_append]
        refine ⟨ndq.2, by simp, fun a ha b hb e => ?_⟩
        rw [List.mem_singleton.mp hb] at e
        exact nrq (e ▸ ha)
    · obtain ⟨ow, h1, h2, h3, h4⟩ := S5.ow
      refine ⟨S5.ex.mut (S5.fo Dl (Or.inr List.mem_cons_self)).1, fun a fa => ⟨(S5.fo a fa).1, ?_⟩, S5.len, ow, fun i l hl => locOk_mono (Ex.refl _) (fun p hp => upd_ne fun z => (h2 i p hp).2.2 (Or.inr (by rw [z]; exact List.mem_cons_self))) (h1 i l hl), fun i p hp => ⟨(h2 i p hp).1, ?_, (h2 i p hp).2.2⟩, h3, h4⟩
      · by_cases hz : a = Dl
        · rw [hz]; exact nt_lst upd_same
        · exact nt_eq (S5.fo a fa).2 (upd_ne hz)
      · exact nt_eq (h2 i p hp).2.1 (upd_ne fun z => (h2 i p hp).2.2 (Or.inr (by rw [z]; exact List.mem_cons_self)))
    · rw [upd_same, List.map_append]
      rfl
    · rw [List.range_succ, List.map_append]
      have g4 : Own2 K G4 H4 qs ((List.range i).map f) := own2_mono (eg3.trans eg4) (fun u hu => ex_eq (eh3.trans eh4) (S'.fo u (Or.inr (List.mem_cons_of_mem _ hu))).2) hv
      refine own2_mono (H := H4) (Ex.refl _) (fun u hu => upd_ne fun z => ?_) (own2_app hr hws g4)
      rcases List.mem_append.mp hu with w | w
      · exact ndq.1 (z ▸ w)
      · exact nrD ((List.mem_singleton.mp w).symm.trans z)
  · have e : i = n := by omega
    subst e
    exact .inl ⟨hstop G1 Jt H' hJ (eg'.trans S'.ex), q Dl qs G' H' (eg1.trans eg') (eh1.trans eh') hf nd S' hp hv⟩
end
section
variable {C : Cs} {ls : List Loc} {e elt a b : Expr} {d : D} {ds : List D} {dss : List (List D)} {pos p1 p2 p3 pos' : Pos} {x : Str} {scope : Scope} {P : Post} {rest body : List Stmt}
theorem jn2_lcT [Cold C] {α : Type} {xs : List α} (g : α → D) (z : α) (j : Nat) (f : Nat → List D) (he : JE C ls e (.tup (xs.map g))) (hn : xs.length < 1000000) (hb : ∀ i, i < xs.length → JN (C.blk scope) (ls.set j (.val (g (xs.getD i z)))) elt (f i)) (B : BOk C scope x j p1)
    (hj : ∀ l, ls[j]? = some l → l.keeps = true := by intro _ h; cases h; rfl) (hfs : ∀ i x, foldedSetIterable e (C.X i).env x = pure x := by intro _ _; rfl) :
    JN2 C ls (.ListComp elt [⟨.Name x p1, e, [], 0⟩] scope pos) ((List.range xs.length).map f) := fun F G H σ S xx Q q =>
  ⟨tLc (iTup C.K (eAny C e)) (gName j) (ifAny (C.blk scope) []) (eAny (C.blk scope) elt) [j], pe_lcA (tg := e) (wi := iTup C.K (eAny C e)) B (fun i => kx (p := fun K => PI (C.X i) _ e (iTup K (eAny C e))) i (pi_tup (pe_any C e i))) hfs,
    evN2_lc j xs.length (fun i => g (xs.getD i z)) f (fun G Jt => ∃ a vs, Jt = Itt C.K a ∧ SqT C.K G a vs ∧ DqAll C.K G vs (xs.map g)) hn hj
    (fun F G H σ S xx R q => he F G H σ S xx _ fun v G' H' eg eh S' hv => by
      obtain ⟨a, vs, rfl, ha, hd⟩ := dq_tup hv
      exact ⟨a, rfl, ⟨vs, ex_t S'.ex ha⟩, q _ G' H' eg eh S' ⟨a, vs, rfl, ha, hd⟩⟩)
    (fun G Jt H hJ e => by
      obtain ⟨a, vs, rfl, ha, hd⟩ := hJ
      exact ⟨vs, ex_t e ha, by rw [hd.length, List.length_map]; exact Nat.le_refl _⟩)
    (fun G Jt H i hJ e hi => by
      obtain ⟨a, vs, rfl, ha, hd⟩ := hJ
      exact ⟨vs, vs[i]'(by rw [hd.length, List.length_map]; exact hi), ex_t e ha, List.getElem?_eq_getElem _⟩)
    (fun G Jt H i x H1 hJ e hi y => by
      obtain ⟨a, vs, rfl, ha, hd⟩ := hJ
      obtain ⟨rfl, y⟩ := y
      have hx := y vs (ex_t e ha)
      obtain ⟨d, e1, e2⟩ := hd.get' hx
      refine ⟨rfl, ?_⟩
      rw [List.getElem?_map, List.getElem?_eq_getElem hi] at e1
      cases e1
      rw [List.getD_eq_getElem?_getD, List.getElem?_eq_getElem hi]
      exact e2) hb (ifAny (C.blk scope) []) (fun i hi => (ji_nil : JI (C.blk scope) (ls.set j (.val (g (xs.getD i z)))) [] true)) F G H σ S xx Q q⟩
theorem jb_setN2 (i : Nat) {x : Str} (he : JN2 C ls e dss) (k : JB C (ls.set i (.own2 dss)) rest P) (hi : C.N[i]? = some x := by rfl) (hx : ∀ j, L2.Loc (C.X j).env.scope x := by intro _; first | exact .inl rfl | exact .inr rfl)
    (hs : ∀ j, swapsWith e (some (.Name x pos')) pos.line (C.X j).env = pure false := by intro _; rfl) (hf : ∀ j, (C.X j).fn x = true ∨ (C.X j).env.scope.names.lookup x = some .local := by intro _; first | exact .inl rfl | exact .inr rfl) : JB C ls (.Assign [.Name x pos'] e pos :: rest) P :=
  jb_cons (fun l => l = ls.set i (.own2 dss)) (js_of (fun j => ps_set (i := i) (by rw [C.hN]; exact C.nd) (by rw [C.hN]; exact hi) (hx j) (pe_any C e j) (hs j) (hf j)) fun F G H σ D' S f => he F G H σ S (f.xok S) _ fun p qs G' H' eg eh nf nd S' hp hv => f.nx G' H' _ _ eg (S.kp eh) (sat_setN2 S' nf nd hp hv) rfl) fun _ h => h ▸ k
/-- name = [..], by the store that CPython folds into the comprehension -/
theorem ps_lcA [Cold C] {tg iter : Expr} {ifs : List Expr} {wi : TI} {i j : Nat} {y : Str} {py spos : Pos} (B : BOk C scope x j p1) (hi : ∀ i, PI (C.X i) (.Name x p1) iter wi) (hs : ∀ i y, foldedSetIterable iter (C.X i).env y = pure y) (hy : C.N[i]? = some y) (hyl : ∀ k, (C.X k).env.scope.names.lookup y = some .local)
    (hsw : ∀ k, swapsWith (.ListComp elt [⟨.Name x p1, iter, ifs, 0⟩] scope pos) (some (.Name y py)) spos.line (C.X k).env = pure true) (k : C.ι) :
    PS (C.X k) (.Assign [.Name y py] (.ListComp elt [⟨.Name x p1, iter, ifs, 0⟩] scope pos) spos) (tAsg (tLc wi (gName j) (ifAny (C.blk scope) ifs) (eAny (C.blk scope) elt) [j]) (gName i)) :=
  ps_setLc (own := [(x, j)]) (C.calm k Cold.h) (by rw [C.hN]; exact C.nd) (by rw [C.hN]; exact hy) (hyl k) (hsw k) (hi k) (by rw [C.hN]; exact B.b k) (fun s H Cc cl fp => B.g (k, s, H, Cc, cl, fp)) (fun s H Cc cl fp => pif_any (C.blk scope) ifs (k, s, H, Cc, cl, fp)) (fun s H Cc cl fp => pe_any (C.blk scope) elt (k, s, H, Cc, cl, fp)) (hs k)
/-- a list of own lists frozen -/
theorem dqAll_refs {K : Fg} {G H : Hp} : ∀ {qs : List Addr} {dss : List (List D)}, Own2 K G H qs dss → (∀ q ∈ qs, ∀ o, H q = some o → G q = some o) → DqAll K G (qs.map V.ref) (dss.map D.lst)
  | [], [], _, _ => .nil
  | q :: qs, ds :: dss, ⟨⟨vs, h1, h2⟩, h⟩, e => .cons (.lst (e q List.mem_cons_self _ h1) h2) (dqAll_refs h fun r hr => e r (List.mem_cons_of_mem _ hr))
end
section
variable {K : Fg} {F : Addr → Prop} {G H : Hp} {σ : L2.St} {ls : List Loc}
theorem Sat.thaw2 (S : Sat K F G H σ ls) {i : Nat} {dss : List (List D)} (h : ls[i]? = some (.own2 dss)) : ∃ G', Ex G G' ∧ (∀ a, F a → G' a = none) ∧ Sat K F G' H σ (ls.set i (.val (.lst (dss.map D.lst)))) := by
  obtain ⟨p, qs, e1, e2, e3, e4, e5⟩ := S.own2At h
  obtain ⟨ow, h1, h2, h3, h4⟩ := S.ow
  obtain ⟨p', qs', e0, e, hh, hv⟩ := h1 i _ h
  have ep : p' = p := by
    rw [List.getD_eq_getElem?_getD, e1] at e
    cases e; rfl
  subst ep
  rw [e2] at hh
  have eqs : qs = qs' := refs_inj (HO.lst.inj (Option.some.inj hh))
  subst eqs
  let G' : Hp := fun a => if a ∈ p' :: qs then H a else G a
  have g1 : ∀ a, a ∈ p' :: qs → G' a = H a := fun a ha => if_pos ha
  have g2 : ∀ a, a ∉ p' :: qs → G' a = G a := fun a ha => if_neg ha
  have eg : Ex G G' := fun a o ha => by
    by_cases hm : a ∈ p' :: qs
    · rw [(e5 a hm).1] at ha; cases ha
    · rw [g2 a hm]; exact .of ha
  have fg : ∀ a, F a → G' a = none := fun a fa => by
    rw [g2 a fun z => (e5 a z).2 fa]; exact (S.fo a fa).1
  refine ⟨G', eg, fg, fun a u ha => ?_, fun a fa => ⟨fg a fa, (S.fo a fa).2⟩, by rw [List.length_set]; exact S.len, owSet ow i [], fun j l hl => ?_, fun j q hq => ?_, fun j => ?_, fun j k q hj hk => ?_⟩
  · by_cases hm : a ∈ p' :: qs
    · rw [g1 a hm] at ha; exact .of ha
    · rw [g2 a hm] at ha; exact S.ex a u ha
  · by_cases hj : j = i
    · subst hj
      rw [List.getElem?_set_self (List.getElem?_eq_some_iff.mp h).1] at hl
      cases hl
      rw [owSet_same]
      refine ⟨rfl, .ref p', e, .lst (by rw [g1 _ List.mem_cons_self]; exact e2) (dqAll_refs (own2_mono eg (fun _ _ => rfl) e3) fun q hq o ho => by rw [g1 q (List.mem_cons_of_mem _ hq)]; exact ho)⟩
    · rw [List.getElem?_set_ne (Ne.symm hj)] at hl
      rw [owSet_ne hj]
      exact locOk_mono eg (fun _ _ => rfl) (h1 j l hl)
  · by_cases hj : j = i
    · subst hj; rw [owSet_same] at hq; cases hq
    · rw [owSet_ne hj] at hq
      obtain ⟨a, b, c⟩ := h2 j q hq
      refine ⟨?_, b, c⟩
      rw [g2 q fun z => hj (h4 j i q hq (by rw [e0]; exact z))]
      exact a
  · by_cases hj : j = i
    · subst hj; rw [owSet_same]; exact List.nodup_nil
    · rw [owSet_ne hj]; exact h3 j
  · by_cases ej : j = i
    · subst ej; rw [owSet_same] at hj; cases hj
    · by_cases ek : k = i
      · subst ek; rw [owSet_same] at hk; cases hk
      · rw [owSet_ne ej] at hj; rw [owSet_ne ek] at hk; exact h4 j k q hj hk
end
theorem jb_thaw2 {C : Cs} {ls : List Loc} {dss : List (List D)} {P : Post} {body : List Stmt} (i : Nat) (hl : ls[i]? = some (.own2 dss)) (k : JB C (ls.set i (.val (.lst (dss.map D.lst)))) body P) : JB C ls body P := fun F G H σ D' S f => by
  obtain ⟨G', eg, fg, S'⟩ := S.thaw2 hl
  exact k F G' H σ D' S' (f.step eg Kp.refl)
end Qp

/-! Q10: a row put into a list of own lists; equality of data. -/
namespace Qp
open PySem PySem.Spec PyProof.Rows L2
theorem refs_set (qs : List Addr) (y : Nat) (r : Addr) : (qs.map V.ref).set y (.ref r) = (qs.set y r).map V.ref := by rw [List.map_set]
theorem own2_put {K : Fg} {G H : Hp} {r : Addr} {vs : List V} {es : List D} (hq : H r = some (.lst vs)) (hv : DqAll K G vs es) : ∀ (qs : List Addr) (dss : List (List D)) (y : Nat), Own2 K G H qs dss → Own2 K G H (qs.set y r) (dss.set y es) := by
  intro qs
  induction qs with
  | nil =>
    intro dss y h
    cases dss with
    | nil => exact True.intro
    | cons _ _ => exact h.elim
  | cons q qs ih =>
    intro dss y h
    cases dss with
    | nil => exact h.elim
    | cons ds dss =>
      cases y with
      | zero => exact ⟨⟨vs, hq, hv⟩, h.2⟩
      | succ y => exact ⟨h.1, ih dss y h.2⟩
theorem mem_set {qs : List Addr} {y : Nat} {r q : Addr} (h : q ∈ qs.set y r) : q = r ∨ q ∈ qs := by
  induction qs generalizing y with
  | nil => cases h
  | cons a qs ih =>
    cases y with
    | zero => exact (List.mem_cons.mp h).elim Or.inl fun z => Or.inr (List.mem_cons_of_mem _ z)
    | succ y => exact (List.mem_cons.mp h).elim (fun z => Or.inr (by rw [z]; exact List.mem_cons_self)) fun z => (ih z).elim Or.inl fun w => Or.inr (List.mem_cons_of_mem _ w)
theorem nodup_set {qs : List Addr} {y : Nat} {r : Addr} (hr : r ∉ qs) (nd : qs.Nodup) : (qs.set y r).Nodup := by
  induction qs generalizing y with
  | nil => exact nd
  | cons a qs ih =>
    have n := List.nodup_cons.mp nd
    cases y with
    | zero => exact List.nodup_cons.mpr ⟨fun z => hr (List.mem_cons_of_mem _ z), n.2⟩
    | succ y => exact List.nodup_cons.mpr ⟨fun z => (mem_set z).elim (fun w => hr (by rw [w]; exact List.mem_cons_self)) n.1, ih (fun z => hr (List.mem_cons_of_mem _ z)) n.2⟩
/-- a new list becomes one of the rows -/
theorem Sat.putRow {K : Fg} {F : Addr → Prop} {G H : Hp} {σ : L2.St} {ls : List Loc} {p r : Addr} (S : Sat K (fun a => F a ∨ a = r) G H σ ls) (nr : ¬ F r) {i y : Nat} {dss : List (List D)} {qs : List Addr} {ws : List V} {es : List D} (h : ls[i]? = some (.own2 dss)) (hp : σ[i]? = some (some (V.ref p))) (hq0 : H p = some (.lst (qs.map V.ref)))
    (hr : H r = some (.lst ws)) (hw : DqAll K G ws es) : Sat K F G (upd H p (.lst ((qs.set y r).map V.ref))) σ (ls.set i (.own2 (dss.set y es))) := by
  obtain ⟨ow, h1, h2, h3, h4⟩ := S.ow
  obtain ⟨p', qs', e0, e, hh, hv⟩ := h1 i _ h
  have ep : p' = p := by
    rw [List.getD_eq_getElem?_getD, hp] at e
    cases e; rfl
  subst ep
  rw [hq0] at hh
  have eq : qs = qs' := refs_inj (HO.lst.inj (Option.some.inj hh))
  subst eq
  have nro : ∀ j, r ∉ ow j := fun j z => (h2 j r z).2.2 (Or.inr rfl)
  have pi : p' ∈ ow i := by rw [e0]; exact List.mem_cons_self
  have npr : p' ≠ r := fun z => nro i (z ▸ pi)
  have nd := h3 i
  rw [e0] at nd
  have ndc := List.nodup_cons.mp nd
  have nrq : r ∉ qs := fun z => nro i (by rw [e0]; exact List.mem_cons_of_mem _ z)
  obtain ⟨gp, hn, nf⟩ := h2 i p' pi
  obtain ⟨gr, hnr⟩ := S.fo r (Or.inr rfl)
  refine ⟨S.ex.mut gp, fun a fa => ?_, by rw [List.length_set]; exact S.len, owSet ow i (p' :: qs.set y r), fun j l hl => ?_, fun j q hq => ?_, fun j => ?_, fun j k q hj hk => ?_⟩
  · have ne : a ≠ p' := fun z => nf (Or.inl (z ▸ fa))
    exact ⟨(S.fo a (Or.inl fa)).1, nt_eq (S.fo a (Or.inl fa)).2 (upd_ne ne)⟩
  · by_cases hj : j = i
    · subst hj
      rw [List.getElem?_set_self (List.getElem?_eq_some_iff.mp h).1] at hl
      cases hl
      rw [owSet_same]
      refine ⟨p', qs.set y r, rfl, e, upd_same, ?_⟩
      have hv2 : Own2 K G (upd H p' (.lst ((qs.set y r).map V.ref))) qs dss := own2_mono (Ex.refl G) (fun q hq => upd_ne fun z => ndc.1 (z ▸ hq)) hv
      exact own2_put (by rw [upd_ne npr.symm]; exact hr) hw qs dss y hv2
    · rw [List.getElem?_set_ne (Ne.symm hj)] at hl
      rw [owSet_ne hj]
      exact locOk_mono (Ex.refl G) (fun q hq => upd_ne fun z => hj (h4 j i p' (z ▸ hq) pi)) (h1 j l hl)
  · by_cases hj : j = i
    · subst hj
      rw [owSet_same] at hq
      rcases List.mem_cons.mp hq with z | z
      · subst z
        exact ⟨gp, nt_lst upd_same, fun w => nf (Or.inl w)⟩
      · rcases mem_set z with z | z
        · subst z
          exact ⟨gr, nt_eq hnr (upd_ne npr.symm), nr⟩
        · have hq2 := h2 j q (by rw [e0]; exact List.mem_cons_of_mem _ z)
          have nqp : q ≠ p' := fun w => ndc.1 (w ▸ z)
          exact ⟨hq2.1, nt_eq hq2.2.1 (upd_ne nqp), fun w => hq2.2.2 (Or.inl w)⟩
    · rw [owSet_ne hj] at hq
      have hq2 := h2 j q hq
      have nqp : q ≠ p' := fun z => hj (h4 j i p' (z ▸ hq) pi)
      exact ⟨hq2.1, nt_eq hq2.2.1 (upd_ne nqp), fun w => hq2.2.2 (Or.inl w)⟩
  · by_cases hj : j = i
    · subst hj
      rw [owSet_same]
      exact List.nodup_cons.mpr ⟨fun z => (mem_set z).elim npr ndc.1, nodup_set nrq ndc.2⟩
    · rw [owSet_ne hj]; exact h3 j
  · have key : ∀ a b, a ≠ i → b = i → q ∈ ow a → q ∈ owSet ow i (p' :: qs.set y r) b → False := fun a b ha hb h5 h6 => by
      subst hb
      rw [owSet_same] at h6
      rcases List.mem_cons.mp h6 with z | z
      · subst z; exact ha (h4 a b q h5 pi)
      · rcases mem_set z with z | z
        · subst z; exact nro a h5
        · exact ha (h4 a b q h5 (by rw [e0]; exact List.mem_cons_of_mem _ z))
    by_cases ej : j = i
    · by_cases ek : k = i
      · rw [ej, ek]
      · rw [owSet_ne ek] at hk; exact (key k j ek ej hk hj).elim
    · rw [owSet_ne ej] at hj
      by_cases ek : k = i
      · exact (key j k ej ek hj hk).elim
      · rw [owSet_ne ek] at hk; exact h4 j k q hj hk
section
variable {C : Cs} {ls : List Loc} {e a b c : Expr} {d d1 d2 : D} {ds es : List D} {dss : List (List D)} {pos pos' p1 p2 p3 : Pos} {P : Post} {rest body : List Stmt}
/-- rows[y] = a new list -/
theorem js_setRow (i : Nat) {x : Str} {y : Nat} (he : JN C ls e es) (hb : JE C ls b (.int y)) (hl : ls[i]? = some (.own2 dss)) (hy : y < dss.length) (hn : P.nx (ls.set i (.own2 (dss.set y es)))) (hi : C.N[i]? = some x := by rfl)
    (hv : ∀ j, Vis (C.X j).env.scope x := by intro _; first | exact Or.inl rfl | exact Or.inr (Or.inl rfl) | exact Or.inr (Or.inr rfl)) (hd : (x == ("__debug__" : Str)) = false := by decide) (hcd : (x == ("__classdict__" : Str)) = false := by decide)
    (ha : ∀ j v, assign (.Subscript (.Name x p1) b p2) (C.X j).env v = (do
      let ov ← holding [v] (eval (.Name x p1) (C.X j).env)
      let iv ← holding [v, ov] (eval b (C.X j).env)
      standAt p2
      holding [v, ov, iv] (setItem ov iv v)
      release [v, ov, iv] []) := by intro _ _; rfl)
    (hs : ∀ j, swapsWithSole [.Subscript (.Name x p1) b p2] e pos.line (C.X j).env = pure false := by intro _; rfl) (hw : ∀ j, swappedStores [.Subscript (.Name x p1) b p2] e (C.X j).env = pure none := by intro _; rfl) (h1 : ∀ j, (assignEach [.Subscript (.Name x p1) b p2] (C.X j).env).map (·.2) = [assign (.Subscript (.Name x p1) b p2) (C.X j).env] := by intro _; rfl) :
    JS C ls (.Assign [.Subscript (.Name x p1) b p2] e pos) P :=
  js_of (fun j => ps_asg (pe_any C e j) (pg_sub (pe_var (i := i) (by rw [C.hN]; exact hi) (hv j) hd hcd) (pe_any C b j) set_list (ha j)) (hs j) (hw j) (h1 j)) fun F G H σ D' S f => he F G H σ S (f.xok S) _ fun r ws G1 H1 eg1 eh1 nr S1 hr hws => by
    obtain ⟨p, qs, ep, hp, hv, nd, hf⟩ := S1.own2At hl
    have x1 : Xok C.K C.E (fun a => F a ∨ a = r) G1 H1 σ ls := ⟨fun P h => (f.tb P h).mono eg1, fun p h => (f.dx p h).mono eg1, fun G' H' Cx dd fs gs eg eh S' => (f.xok S).ex G' H' Cx dd fs gs (eg1.trans eg) (eh1.trans eh) (S'.sub fun a fa => Or.inl fa)⟩
    refine ⟨.ref p, ep, hb _ G1 H1 σ S1 x1 _ fun z G2 H2 eg2 eh2 S2 hz => ?_⟩
    have hp2 := eh2 _ _ hp
    have lq := own2_len hv
    refine ⟨p, qs.map V.ref, y, y, rfl, dq_int hz, hp2, ?_, ?_⟩
    · rw [List.length_map]
      unfold ixN
      rw [if_pos (by omega), if_pos (by omega)]
      simp
    · rw [refs_set]
      exact f.nx G2 _ σ _ (eg1.trans eg2) ((S.kp (eh1.trans eh2)).put (nt_lst hp2) fun fa => (hf p List.mem_cons_self).2 (Or.inl fa)) (S2.putRow nr hl ep hp2 (eh2 _ _ hr) (dqAll_mono eg2 hws)) hn
end
/-! ### equality -/
mutual
def D.py : D → PyData
  | .non => .none
  | .bl b => .bool b
  | .int i => .int i
  | .str x => .str x
  | .lst xs => .list (pyAll xs)
  | .tup xs => .tuple (pyAll xs)
  | .scr _ => .none
  | .ref _ => .none
  | .ty _ => .none
  | .exc _ _ _ => .none
  | .hand _ _ => .none
  | .loose _ _ => .none
def pyAll : List D → List PyData
  | [] => []
  | d :: ds => d.py :: pyAll ds
end
mutual
/-- made of what Python compares by value -/
def D.plain : D → Bool
  | .non => true
  | .bl _ => true
  | .int _ => true
  | .str _ => true
  | .lst xs => plainAll xs
  | .tup xs => plainAll xs
  | .scr _ => false
  | .ref _ => false
  | .ty _ => false
  | .exc _ _ _ => false
  | .hand _ _ => false
  | .loose _ _ => false
def plainAll : List D → Bool
  | [] => true
  | d :: ds => d.plain && plainAll ds
end
mutual
theorem dp_of {K : Fg} {G : Hp} : ∀ {v : V} {d : D}, Dq K G v d → d.plain = true → Dp K G v d.py
  | _, _, .non, _ => .non
  | _, _, .bl b, _ => .bl b
  | _, _, .int i, _ => .int i
  | _, _, .str x, _ => .str x
  | _, _, .lst h a, p => .lst (SqL.of h) (dpAll_of a (by simpa [D.plain] using p))
  | _, _, .tup h a, p => .tup h (dpAll_of a (by simpa [D.plain] using p))
  | _, _, .scr _, p => by simp [D.plain] at p
  | _, _, .ref _, p => by simp [D.plain] at p
  | _, _, .ty _, p => by simp [D.plain] at p
  | _, _, .exc _ _ _, p => by simp [D.plain] at p
  | _, _, .hand _ _ _, p => by simp [D.plain] at p
  | _, _, .loose _, p => by simp [D.plain] at p
theorem dpAll_of {K : Fg} {G : Hp} : ∀ {vs : List V} {ds : List D}, DqAll K G vs ds → plainAll ds = true → DpAll K G vs (pyAll ds)
  | _, _, .nil, _ => .nil
  | _, _, .cons (d := d) (ds := ds) h a, p => by
    have p' : d.plain = true ∧ plainAll ds = true := by simpa [plainAll] using p
    exact .cons (dp_of h p'.1) (dpAll_of a p'.2)
end
mutual
theorem dp_mono {K : Fg} {H H' : Hp} (e : Ex H H') : ∀ {v : V} {d : PyData}, Dp K H v d → Dp K H' v d
  | _, _, .non => .non
  | _, _, .bl b => .bl b
  | _, _, .int i => .int i
  | _, _, .str x => .str x
  | _, _, .lst h a => .lst (ex_l e h) (dpAll_mono e a)
  | _, _, .tup h a => .tup (ex_t e h) (dpAll_mono e a)
theorem dpAll_mono {K : Fg} {H H' : Hp} (e : Ex H H') : ∀ {vs : List V} {ds : List PyData}, DpAll K H vs ds → DpAll K H' vs ds
  | _, _, .nil => .nil
  | _, _, .cons h a => .cons (dp_mono e h) (dpAll_mono e a)
end
structure Shp (d : D) : Prop where
  pl : d.plain = true
  sh : SeqAt.shaped d.py = true
section
variable {C : Cs} {ls : List Loc} {e a b : Expr} {d d1 d2 : D} {pos : Pos} {ds es : List D}
theorem op_eqD' (C : Cs) (j : C.ι) : OpR (C.X j) (compareOp .Eq) (rEqD C.K) := kx (p := fun K => OpR (C.X j) (compareOp .Eq) (rEqD K)) j (op_eqD (C.hu j))
theorem op_neD' (C : Cs) (j : C.ι) : OpR (C.X j) (compareOp .NotEq) (rNeD C.K) := kx (p := fun K => OpR (C.X j) (compareOp .NotEq) (rNeD K)) j (op_neD (C.hu j))
theorem je_eqD (ha : JE C ls a d1) (hb : JE C ls b d2) (h1 : Shp d1) (h2 : Shp d2) : JE C ls (.Compare a [.Eq] [b] pos) (.bl (PyData.eqv d1.py d2.py)) :=
  je_of (fun j => pe_cmpR (op_eqD' C j) (pe_any C a j) (pe_any C b j) (nomark _)) (ev_op ha hb fun G H x y Q eg hx hy q => ⟨_, _, dp_mono eg (dp_of hx h1.pl), dp_mono eg (dp_of hy h2.pl), h1.sh, h2.sh, q _ (.bl _)⟩)
theorem je_neD (ha : JE C ls a d1) (hb : JE C ls b d2) (h1 : Shp d1) (h2 : Shp d2) : JE C ls (.Compare a [.NotEq] [b] pos) (.bl (!PyData.eqv d1.py d2.py)) :=
  je_of (fun j => pe_cmpR (op_neD' C j) (pe_any C a j) (pe_any C b j) (nomark _)) (ev_op ha hb fun G H x y Q eg hx hy q => ⟨_, _, dp_mono eg (dp_of hx h1.pl), dp_mono eg (dp_of hy h2.pl), h1.sh, h2.sh, q _ (.bl _)⟩)
theorem jt_eqD (ha : JE C ls a d1) (hb : JE C ls b d2) (h1 : Shp d1) (h2 : Shp d2) : JT C ls (.Compare a [.Eq] [b] pos) (PyData.eqv d1.py d2.py) :=
  jt_of (fun j => pt_cmpR (op_eqD' C j) (pe_any C a j) (pe_any C b j) (nomark _)) (evT_test (ev_op ha hb fun G H x y Q eg hx hy q => ⟨_, _, dp_mono eg (dp_of hx h1.pl), dp_mono eg (dp_of hy h2.pl), h1.sh, h2.sh, q _ (.bl _)⟩))
theorem jt_neD (ha : JE C ls a d1) (hb : JE C ls b d2) (h1 : Shp d1) (h2 : Shp d2) : JT C ls (.Compare a [.NotEq] [b] pos) (!PyData.eqv d1.py d2.py) :=
  jt_of (fun j => pt_cmpR (op_neD' C j) (pe_any C a j) (pe_any C b j) (nomark _)) (evT_test (ev_op ha hb fun G H x y Q eg hx hy q => ⟨_, _, dp_mono eg (dp_of hx h1.pl), dp_mono eg (dp_of hy h2.pl), h1.sh, h2.sh, q _ (.bl _)⟩))
/-- lists of ints -/
theorem plain_iL : ∀ ns : List Int, plainAll (iL ns) = true
  | [] => rfl
  | n :: r => by
    show (true && plainAll (iL r)) = true
    rw [plain_iL r]
    rfl
theorem py_iL : ∀ ns : List Int, pyAll (iL ns) = ns.map PyData.int
  | [] => rfl
  | n :: r => by
    show PyData.int n :: pyAll (iL r) = PyData.int n :: r.map PyData.int
    rw [py_iL r]
theorem can_ints : ∀ ns : List Int, PyData.canLayAll0 (ns.map PyData.int) = true
  | [] => by simp [PyData.canLayAll0]
  | n :: r => by
    rw [List.map_cons]
    simp only [PyData.canLayAll0, PyData.canLay0]
    rw [can_ints r]
    rfl
theorem depth_ints : ∀ ns : List Int, PyData.depthAll (ns.map PyData.int) ≤ 1
  | [] => by simp [PyData.depthAll]
  | n :: r => by
    rw [List.map_cons]
    simp only [PyData.depthAll, PyData.depth]
    have := depth_ints r
    omega
theorem shp_ints (ns : List Int) : Shp (.lst (iL ns)) := ⟨by simp only [D.plain]; exact plain_iL ns, by
  unfold SeqAt.shaped
  simp only [D.py, PyData.canLay0, PyData.depth]
  rw [py_iL, can_ints]
  have := depth_ints ns
  simp only [Bool.true_and, decide_eq_true_eq]
  omega⟩
theorem eqv_ints : ∀ ns ms : List Int, PyData.eqvAll (ns.map PyData.int) (ms.map PyData.int) = decide (ns = ms)
  | [], [] => by simp [PyData.eqvAll]
  | [], _ :: _ => by simp [PyData.eqvAll]
  | _ :: _, [] => by simp [PyData.eqvAll]
  | n :: r, m :: s => by
    rw [List.map_cons, List.map_cons]
    simp only [PyData.eqvAll]
    rw [eqv_ints r s]
    by_cases h : n = m <;> by_cases h2 : r = s <;> simp [PyData.eqv, h, h2]
theorem eqv_lists (ns ms : List Int) : PyData.eqv (D.lst (iL ns)).py (D.lst (iL ms)).py = decide (ns = ms) := by
  simp only [D.py]
  rw [py_iL, py_iL]
  simp only [PyData.eqv]
  exact eqv_ints ns ms
/-- a test that looks at the own list of slot i -/
theorem jt_peek (i : Nat) {k : Bool} (h : JT C (ls.set i (.val (.lst ds))) e k) (hl : ls[i]? = some (.own ds) := by rfl) (hx : ∀ l c gs, ¬ C.E.xp l c gs := by intro _ _ _ z; exact z) : JT C ls e k := fun F G H σ S xx Q q => by
  obtain ⟨p, vs, ep, hpv, hv, gp, nf⟩ := S.ownAt hl
  obtain ⟨G1, eg, fg, S1⟩ := S.thaw hl
  have x1 : Xok C.K C.E F G1 H σ (ls.set i (.val (.lst ds))) := ⟨fun P h => (xx.tb P h).mono eg, fun p h => (xx.dx p h).mono eg, fun _ _ _ _ _ _ _ _ _ _ _ z => (hx _ _ _ z).elim⟩
  refine h F G1 H σ S1 x1 Q fun G3 H3 eg3 eh3 S3 => ?_
  obtain ⟨e2, S4⟩ := S.unthaw hl ep S3 (eg.trans eg3) eh3
  exact q _ H3 e2 eh3 S4
theorem iL_set (xs : List Int) (k : Nat) (x : Int) : (iL xs).set k (.int x) = iL (xs.set k x) := by
  unfold iL
  rw [List.map_set]
end
end Qp

/-! Q11: ranges with a start, with a step; more comprehensions. -/
namespace Qp
open PySem PySem.Spec PyProof.Rows L2
theorem range2' {C : Cs} (j : C.ι) {tg a b : Expr} {p pos : Pos} (hg : Gl (C.X j) "range") (hm : NoG C "range") (hs : NS a) (hs2 : NS b) : PI (C.X j) tg (.Call (.Name "range" p) [a, b] [] pos) (iRng2 (tCons (eAny C a) (tCons (eAny C b) tNil))) :=
  pi_range2 hg (noG hm j) (pa_cons (pe_any C a j) (pa_cons (pe_any C b j) pa_nil (hs2 _ _)) (hs _ _)) ((hs _ _).trans (congrArg _ (hs2 _ _))) (hs2 _ _)
section
variable {C : Cs} {ls : List Loc} {e e2 elt a b : Expr} {d : D} {ds : List D} {dss : List (List D)} {pos p1 p2 p3 pos' : Pos} {scope : Scope} {ifs : List Expr} {P : Post} {rest body : List Stmt}
/-- for x in range(a, b) -/
theorem js_forR2 [Cold C] {lo hi : Int} {x : Str} {p1 p2 p3 : Pos} (j : Nat) (Pv : Nat → List Loc → Prop) (ha : JE C ls e (.int lo)) (hb2 : JE C ls e2 (.int hi)) (hr : -(2 ^ 61) ≤ lo ∧ lo < 2 ^ 61 ∧ -(2 ^ 61) ≤ hi ∧ hi < 2 ^ 61) (h0 : Pv 0 ls) (hb : ∀ (i : Nat) ls', i < (hi - lo).toNat → Pv i ls' → JB C (ls'.set j (.val (.int (lo + i)))) body { nx := Pv (i + 1), rt := P.rt, bk := P.nx, ct := Pv (i + 1) })
    (hd : ∀ ls', Pv (hi - lo).toNat ls' → P.nx ls') (hm : NoG C "range" := by assumption) (hg : ∀ j, Gl (C.X j) "range" := by intro _; rfl) (hs : NS e := by intro _ _; rfl) (hs2 : NS e2 := by intro _ _; rfl) (hi' : C.N[j]? = some x := by rfl) (hx : ∀ i, L2.Loc (C.X i).env.scope x := by intro _; first | exact .inl rfl | exact .inr rfl)
    (hf : ∀ i, (C.X i).fn x = true ∨ (C.X i).env.scope.names.lookup x = some .local := by intro _; first | exact .inl rfl | exact .inr rfl) (hp : ∀ i, PassesOwn (model (C.X i).prog (C.X i).w) (C.X i).A (C.X i).env (C.X i).xe := by intro q; first | exact PassesOwn.never | exact passes_of rfl | exact q.owns) (hfs : ∀ i x, foldedSetIterable (.Call (.Name "range" p1) [e, e2] [] p2) (C.X i).env x = pure x := by intro _ _; rfl) :
    JS C ls (.For (.Name x p3) (.Call (.Name "range" p1) [e, e2] [] p2) body [] pos) P :=
  js_of (fun i => ps_for (hp i) (C.calm i Cold.h) (range2' i (hg i) hm hs hs2) (pg_name (i := j) (by rw [C.hN]; exact C.nd) (by rw [C.hN]; exact hi') (hx i) (hf i)) (pb_any C body i) (hfs i))
    (hs_for Pv (hi - lo).toNat (fun _ Jt => Jt = Itr lo (hi - lo).toNat)
      (fun F G H σ S xx R q => (evA_cons (K := C.K) ha (evA_cons (K := C.K) hb2 evA_nil)) F G H σ S xx _ fun vs G' H' eg eh S' hv => by
        cases hv with
        | cons h1 h2 =>
          cases h2 with
          | cons h3 h4 =>
            cases h4
            exact ⟨lo, hi, by rw [dq_int h1, dq_int h3], ⟨by omega, by omega, by omega, by omega⟩, q _ G' H' eg eh S' rfl⟩) h0
      (fun G Jt H hJ e => by subst hJ; exact Nat.le_refl _) (fun G Jt H i hJ e hi => by subst hJ; exact hi)
      (fun F G G0 H σ ls' i x Jt H1 hJ eg hi S p y D' f => by
        subst hJ
        obtain ⟨rfl, rfl⟩ := y
        exact hb i ls' hi p F G H1 _ D' (S.setV (.int _)) f) hd)
/-- lists of own lists made: over a frozen list, over range(e) -/
theorem jn2_lcL [Cold C] {α : Type} {xs : List α} {x : Str} (g : α → D) (z : α) (j : Nat) (f : Nat → List D) (he : JE C ls e (.lst (xs.map g))) (hn : xs.length < 1000000) (hb : ∀ i, i < xs.length → JN (C.blk scope) (ls.set j (.val (g (xs.getD i z)))) elt (f i)) (B : BOk C scope x j p1)
    (hj : ∀ l, ls[j]? = some l → l.keeps = true := by intro _ h; cases h; rfl) (hfs : ∀ i x, foldedSetIterable e (C.X i).env x = pure x := by intro _ _; rfl) :
    JN2 C ls (.ListComp elt [⟨.Name x p1, e, [], 0⟩] scope pos) ((List.range xs.length).map f) := fun F G H σ S xx Q q =>
  ⟨tLc (iList C.K (eAny C e)) (gName j) (ifAny (C.blk scope) []) (eAny (C.blk scope) elt) [j], pe_lcA (tg := e) (wi := iList C.K (eAny C e)) B (fun i => kx (p := fun K => PI (C.X i) _ e (iList K (eAny C e))) i (pi_list (pe_any C e i))) hfs,
    evN2_lc j xs.length (fun i => g (xs.getD i z)) f (fun G Jt => ∃ a vs, Jt = Itl C.K a ∧ G a = some (.lst vs) ∧ DqAll C.K G vs (xs.map g)) hn hj
    (fun F G H σ S xx R q => he F G H σ S xx _ fun v G' H' eg eh S' hv => by
      obtain ⟨a, vs, rfl, ha, hd⟩ := dq_lst hv
      exact ⟨a, rfl, ⟨vs, SqL.of (S'.ex _ _ ha)⟩, q _ G' H' eg eh S' ⟨a, vs, rfl, ha, hd⟩⟩)
    (fun G Jt H hJ e => by
      obtain ⟨a, vs, rfl, ha, hd⟩ := hJ
      exact ⟨vs, SqL.of (e _ _ ha), by rw [hd.length, List.length_map]; exact Nat.le_refl _⟩)
    (fun G Jt H i hJ e hi => by
      obtain ⟨a, vs, rfl, ha, hd⟩ := hJ
      exact ⟨vs, vs[i]'(by rw [hd.length, List.length_map]; exact hi), SqL.of (e _ _ ha), List.getElem?_eq_getElem _⟩)
    (fun G Jt H i x H1 hJ e hi y => by
      obtain ⟨a, vs, rfl, ha, hd⟩ := hJ
      obtain ⟨rfl, y⟩ := y
      have hx := y vs (SqL.of (e _ _ ha))
      obtain ⟨d, e1, e2⟩ := hd.get' hx
      refine ⟨rfl, ?_⟩
      rw [List.getElem?_map, List.getElem?_eq_getElem hi] at e1
      cases e1
      rw [List.getD_eq_getElem?_getD, List.getElem?_eq_getElem hi]
      exact e2) hb (ifAny (C.blk scope) []) (fun i hi => (ji_nil : JI (C.blk scope) (ls.set j (.val (g (xs.getD i z)))) [] true)) F G H σ S xx Q q⟩
theorem jn2_lcR [Cold C] {n : Int} {x : Str} (j : Nat) (f : Nat → List D) (he : JE C ls e (.int n)) (hn : n < 1000000) (hb : ∀ i : Nat, i < n.toNat → JN (C.blk scope) (ls.set j (.val (.int i))) elt (f i)) (B : BOk C scope x j p1)
    (hj : ∀ l, ls[j]? = some l → l.keeps = true := by intro _ h; cases h; rfl) (hm : NoG C "range" := by assumption) (hg : ∀ j, Gl (C.X j) "range" := by intro _; rfl) (hs : NS e := by intro _ _; rfl) (hfs : ∀ i x, foldedSetIterable (.Call (.Name "range" p2) [e] [] p3) (C.X i).env x = pure x := by intro _ _; rfl) (h62 : -(2 ^ 62) ≤ n := by omega) :
    JN2 C ls (.ListComp elt [⟨.Name x p1, .Call (.Name "range" p2) [e] [] p3, [], 0⟩] scope pos) ((List.range n.toNat).map f) := fun F G H σ S xx Q q =>
  ⟨tLc (iRng1 (tCons (eAny C e) tNil)) (gName j) (ifAny (C.blk scope) []) (eAny (C.blk scope) elt) [j], pe_lcA (tg := e) B (fun i => range' i (hg i) hm hs) hfs,
    evN2_lc j n.toNat (fun i => .int i) f (fun _ Jt => Jt = Itr 0 n.toNat) (by omega) hj
    (fun F G H σ S xx R q => he F G H σ S xx _ fun v G' H' eg eh S' hv => ⟨n, by rw [dq_int hv], h62, by omega, q _ G' H' eg eh S' rfl⟩)
    (fun G Jt H hJ e => by subst hJ; exact Nat.le_refl _) (fun G Jt H i hJ e hi => by subst hJ; exact hi)
    (fun G Jt H i x H1 hJ e hi y => by
      subst hJ
      obtain ⟨rfl, rfl⟩ := y
      have e0 : (0 : Int) + (i : Int) = (i : Int) := Int.zero_add _
      exact ⟨rfl, by rw [e0]; exact .int _⟩) hb (ifAny (C.blk scope) []) (fun i hi => (ji_nil : JI (C.blk scope) (ls.set j (.val (.int i))) [] true)) F G H σ S xx Q q⟩
end
end Qp

/-! Q12: a generator expression whose element may do anything that an expression may: its frame as a context, its turns by an invariant; all and any of it. -/
namespace Qp
open PySem PySem.Spec PyProof.Rows L2
/-! ### the frame -/
def gcx (X : Cx) (s4 : Shared) (H4 : Hp) (env : Env) (A : Around) (ex : List Addr) : Cx :=
  { X with A := A, s_0 := s4, H_0 := H4, env := env, outer := X.stack, stack := env :: X.stack, ex := ex, fn := fun _ => false, calm := true, pn := [], xe := fun _ _ => False }
theorem over_loopG {A : Around} {elt : Expr} {gens : List Comprehension} {scope : Scope} {pos : Pos} {it acc : Value} {env : Env} : A.over (.compLoop (.GeneratorExp elt gens scope pos) 0 it acc env) [] = A.deeper env := by
  first
    | rfl
    | (obtain ⟨hd, d, fr, gs, u⟩ := A; simp [Around.over, Around.deeper, marksOver, frameCount, unitsOf, envsOf, guardsOf, pushEnvs, pushGuards, Code.envs, Code.env?, Code.isFrame, Code.guards, Code.isGuard, Code.weight, Code.frames, Code.isCreation, Code.isCaller, Code.cUnits])
theorem over_startG {A : Around} {elt : Expr} {gens : List Comprehension} {scope : Scope} {pos : Pos} {it acc : Value} {env : Env} : A.over (.compStart (.GeneratorExp elt gens scope pos) 0 it acc env) [] = A.deeper env := by
  first
    | rfl
    | (obtain ⟨hd, d, fr, gs, u⟩ := A; simp [Around.over, Around.deeper, marksOver, frameCount, unitsOf, envsOf, guardsOf, pushEnvs, pushGuards, Code.envs, Code.env?, Code.isFrame, Code.guards, Code.isGuard, Code.weight, Code.frames, Code.isCreation, Code.isCaller, Code.cUnits])
/-- what the generator expression's scope must be like, beside its def's names N and scope sc: its one name x in slot j -/
structure GOk (N : List Str) (sc scope : Scope) (x : Str) (j : Nat) : Prop where
  kind : scope.kind = .function
  co : scope.isCoroutine = false
  cell : ∀ y ∈ scope.names, y.2 ≠ .cell
  dot : scope.names.lookup (".0" : Str) = some NameKind.local
  loc : scope.names.lookup x = some .local
  only : ∀ y ∈ scope.names, y.2 = .local → y.1 = x ∨ y.1 = (".0" : Str)
  nodot : (".0" : Str) ∉ N
  at_ : N[j]? = some x
  free : ∀ y ∈ scope.names, y.2 = .free → sc.names.lookup y.1 = some .cell ∨ sc.names.lookup y.1 = some .free
def gokC (N : List Str) (sc scope : Scope) (x : Str) (j : Nat) : Bool :=
  (scope.kind == .function) && !scope.isCoroutine && scope.names.all (fun y => y.2 != .cell) && (scope.names.lookup (".0" : Str) == some NameKind.local) && (scope.names.lookup x == some NameKind.local) &&
    scope.names.all (fun y => y.2 != .local || y.1 == x || y.1 == (".0" : Str)) && N.all (fun y => !(y == (".0" : Str))) && (N[j]? == some x) && scope.names.all (fun y => y.2 != .free || sc.names.lookup y.1 == some NameKind.cell || sc.names.lookup y.1 == some NameKind.free)
theorem nd_at {l : List Str} (nd : l.Nodup) {i j : Nat} {y : Str} (h1 : l[i]? = some y) (h2 : l[j]? = some y) : i = j := by
  obtain ⟨a, e1⟩ := List.getElem?_eq_some_iff.mp h1
  obtain ⟨b, e2⟩ := List.getElem?_eq_some_iff.mp h2
  exact (List.getElem_inj nd).mp (e1.trans e2.symm)
theorem cap_of {cells : List (Str × Addr)} {names : List (Str × NameKind)} {y : Str} {c : Addr} (h : (cloFrom cells names []).lookup y = some c) : (y, NameKind.free) ∈ names ∧ c = (cells.lookup y).getD 0 := by
  rcases cloFrom_mem (PySem.mem_of_lookup h) with z | z
  · cases z
  · exact z
theorem cap_has {cells : List (Str × Addr)} {names : List (Str × NameKind)} {y : Str} {c : Addr} (h : (y, NameKind.free) ∈ names) (hc : cells.lookup y = some c) : (cloFrom cells names []).lookup y = some c := by
  obtain ⟨c', e⟩ := mem_lookup (cloFrom_has (cells := cells) (acc := []) h)
  obtain ⟨_, e2⟩ := cap_of e
  rw [e, e2, hc]
  rfl
section
variable {X : Cx} {pins : List (Addr × Obj)} {σ : L2.St} {H4 : Hp} {s4 s5 : Shared} {scope : Scope} {x : Str} {j : Nat} {fp : List Addr} {it : Value} {code : Value} {a : Addr} {go : Obj}
theorem inv_gen (I : Inv X pins σ H4 s4) (nd : X.N.Nodup) (hd : X.A.handled = none) (S : GOk X.N X.env.scope scope x j) (hf : ∀ b ∈ fp, FpOk X pins H4 b) (hfo : ∀ b ∈ fp, ∃ o, s4.heap.get? b = some o)
    (k : ∀ b o, s4.heap.get? b = some o → s5.heap.get? b = some o) (os : s5.os = s4.os) (bare : AllBare s5.gens) (hn : s5.heap.Ns s4.heap.objs.size (fun y => if y = (".0" : Str) then some it else none)) (ha : s5.heap.get? a = some go) (hal : s4.heap.objs.size < a) (hgo : ∀ v, go.data ≠ .cell v) :
    Inv (gcx X s4 H4 (genEnv scope (cloFrom X.env.cells scope.names []) s4.heap.objs.size code builtinsNs X.env) (X.A.in1.in1.deeper (genEnv scope (cloFrom X.env.cells scope.names []) s4.heap.objs.size code builtinsNs X.env)) fp) [(a, go)] (σ.set j none) H4 s5 := by
  have cl : ∀ y c, (cloFrom X.env.cells scope.names []).lookup y = some c → X.env.cells.lookup y = some c := fun y c h => by
    obtain ⟨h1, h2⟩ := cap_of h
    obtain ⟨c0, h3⟩ := I.ok.has y (S.free _ h1 rfl)
    rw [h3] at h2
    rw [h3, h2]
    rfl
  have fpl : ∀ b ∈ fp, b < s4.heap.objs.size := fun b hb => by
    obtain ⟨o, e⟩ := hfo b hb
    exact Heap.lt_size e
  have frsN : ∀ b, b ∈ frs X.stack → b < s4.heap.objs.size := fun b hb => by
    obtain ⟨_, o, e, _⟩ := I.stack.mem hb
    exact Heap.lt_size e
  refine ⟨⟨I.ok.mod, S.kind, I.ok.glob, rfl, Nat.le_refl _, fun y z c h1 h2 => I.ok.inj y z c (cl y c h1) (cl z c h2), fun y hy => ?_, fun y c z => Bool.noConfusion z, fun _ => hd, ?_, .inr ⟨rfl, rfl⟩, fun b hb => ⟨Nat.ne_of_lt (fpl b hb), fun y c h => (hf b hb).2.2.2.2.1 y c (cl y c h)⟩, I.bs, Nat.le_trans I.ok.bsz I.sz, fun b o e hb => ?_, fun b hb z => ?_, I.stack, I.stkFree⟩,
    os, bare, Un.kept k, ⟨_, hn, fun i y v h1 h2 h3 => ?_⟩, fun y c h => ?_, I.hok.fresh (Nat.le_refl _), fun y c h => I.freeC y c (cl y c h), fun p hp => ?_, I.hok.kept k, ?_⟩
  · have hy' : scope.names.lookup y = some .cell ∨ scope.names.lookup y = some .free := hy
    rcases hy' with h | h
    · exact absurd rfl (S.cell _ (PySem.mem_of_lookup h))
    · have hm := PySem.mem_of_lookup h
      obtain ⟨c, hc⟩ := I.ok.has y (S.free _ hm rfl)
      exact ⟨c, cap_has hm hc⟩
  · show (X.A.in1.in1.deeper _).frames = some (_ :: X.stack)
    exact Around.frames_deeper I.ok.frames
  · rcases (hf b hb).2.2.2.1 with z | z
    · exact I.ok.noex b o e z
    · exact absurd (Heap.lt_size (I.ok.bs b o e).1) (Nat.not_lt.mpr z)
  · rcases List.mem_cons.mp (I.stkSub b z) with z | z
    · exact (hf b hb).2.1 z
    · exact (hf b hb).2.2.1 z
  · have hij : i ≠ j := fun z => by
      rw [z] at h2
      by_cases hl : j < σ.length
      · rw [List.getElem?_set_self hl] at h2; cases h2
      · rw [List.getElem?_eq_none (by rw [List.length_set]; omega)] at h2; cases h2
    rw [List.getElem?_set_ne (Ne.symm hij)] at h2
    have h1' : X.N[i]? = some y := h1
    have fr : (y, NameKind.free) ∈ scope.names := by
      rcases h3 with h | h | h
      · exfalso
        rcases S.only _ (PySem.mem_of_lookup h) rfl with z | z
        · have z' : y = x := z
          subst z'
          exact hij (nd_at nd h1' S.at_)
        · have z' : y = (".0" : Str) := z
          subst z'
          exact S.nodot (List.mem_of_getElem? h1')
      · exact absurd rfl (S.cell _ (PySem.mem_of_lookup h))
      · exact PySem.mem_of_lookup h
    have hv := S.free _ fr rfl
    obtain ⟨m, hm, hl⟩ := I.loc
    obtain ⟨u, ru, lk⟩ := hl i y v h1' h2 (.inr hv)
    refine ⟨u, ru, .inr ⟨.inr ?_, ?_⟩⟩
    · rcases h3 with h | h | h
      · exact absurd rfl (fun z : NameKind.free = NameKind.free => by
          rcases S.only _ (PySem.mem_of_lookup h) rfl with w | w
          · have w' : y = x := w
            subst w'
            exact hij (nd_at nd h1' S.at_)
          · have w' : y = (".0" : Str) := w
            subst w'
            exact S.nodot (List.mem_of_getElem? h1'))
      · exact absurd rfl (S.cell _ (PySem.mem_of_lookup h))
      · exact h
    · rcases lk with ⟨q, _⟩ | ⟨_, c, hc, hcell⟩
      · have q' : X.env.scope.names.lookup y = some .local := q
        rcases hv with w | w <;> · rw [w] at q'; cases q'
      · exact ⟨c, cap_has fr hc, hcell.keeps k⟩
  · obtain ⟨v, e⟩ := I.cell y c (cl y c h)
    exact ⟨v, e.keeps k⟩
  · obtain rfl : p = (a, go) := List.mem_singleton.mp (show p ∈ ([] : List (Addr × Obj)) ++ [(a, go)] from hp)
    refine ⟨ha, I.hok.fresh (Nat.le_of_lt hal), Nat.ne_of_gt hal, fun z => ?_, hgo⟩
    exact absurd (frsN _ z) (Nat.not_lt.mpr (Nat.le_of_lt hal))
  · rw [List.length_set]
    exact I.len
end
/-! ### its turns -/
/-- nothing but the generators' own states has moved -/
structure Stab (s s2 : Shared) : Prop where
  heap : ∀ b o, s.heap.get? b = some o → s2.heap.get? b = some o
  os : s2.os = s.os
  bare : AllBare s2.gens
  sz : s.gens.size ≤ s2.gens.size
theorem Stab.trans {s s1 s2 : Shared} (a : Stab s s1) (b : Stab s1 s2) : Stab s s2 := ⟨fun x o h => b.heap x o (a.heap x o h), b.os.trans a.os, b.bare, Nat.le_trans a.sz b.sz⟩
theorem Inv.stab {X : Cx} {pins : List (Addr × Obj)} {σ : L2.St} {H : Hp} {s s2 : Shared} (I : Inv X pins σ H s) (t : Stab s s2) : Inv X pins σ H s2 :=
  I.call' (ch := []) t.os (Un.kept t.heap) (I.hok.kept t.heap) t.bare fun _ z => nomatch z
/-- how a generator expression of n turns is walked: its frame Y, its own object at a, number g; Pv tells of the turns, b of the answers -/
structure Gw where
  Y : Cx
  pn : List (Addr × Obj)
  it : Addr
  fp : List Addr
  tn : Nat → Heap → Prop
  J : It
  n : Nat
  g : Nat
  b : Nat → Bool
  Pv : Nat → L2.St → Hp → Prop
def Gw.LI (W : Gw) (i : Nat) (s : Shared) : Prop := ∃ σ H, Inv W.Y W.pn σ H s ∧ W.tn i s.heap ∧ (∀ b ∈ W.fp, H b = none) ∧ W.Pv i σ H ∧ W.g < s.gens.size
/-- all turns are over -/
def Gw.LE (W : Gw) (s : Shared) : Prop := ∃ σ H, Inv W.Y W.pn σ H s ∧ W.Pv W.n σ H
def Gw.R (W : Gw) : GenEnd := fun n _ r s1 => r = .ok .next ∧ (n = 0 ∧ W.LE s1)
def Gw.P (W : Gw) : Protocol := fun m _ v s kap => (∃ i, i < W.n ∧ W.n = m + (i + 1) ∧ v = .bool (W.b i) ∧ W.LI (i + 1) s) ∧ ∀ s2, Stab s s2 → kap (.send .none) s2
structure Gw.Ok (W : Gw) (tg elt : Expr) (j : Nat) (te : TE) : Prop where
  turn : Turn W.Y.prog W.Y.w W.Y.K tg W.J W.fp W.it W.tn
  fpk : ∀ H, (∀ b ∈ W.fp, H b = none) → ∀ b ∈ W.fp, FpOk W.Y W.pn H b
  calm : W.Y.calm = true
  tg : PG W.Y tg (gName j)
  elt : PE W.Y elt te
  xe : ∀ e s, ¬ W.Y.xe e s
  go : ∀ i σ H, i < W.n → W.Pv i σ H → W.J.go i H
  stop : ∀ σ H, W.Pv W.n σ H → W.J.stop W.n H
  step : ∀ i σ H x H1, i < W.n → W.Pv i σ H → W.J.yld i H x H1 → gName j x σ H1 fun σ2 H2 => te σ2 H2 fun y H3 => y = .bl (W.b i) ∧ W.Pv (i + 1) σ2 H3
theorem Gw.LI.stab {W : Gw} {i : Nat} {s s2 : Shared} {tg elt : Expr} {j : Nat} {te : TE} (ok : W.Ok tg elt j te) (h : W.LI i s) (t : Stab s s2) : W.LI i s2 := by
  obtain ⟨σ, H, I, st, fr, p, g⟩ := h
  refine ⟨σ, H, Inv.stab I t, ok.turn.keep _ _ _ st fun b hb o e => t.heap b o e, fr, p, Nat.lt_of_lt_of_le g t.sz⟩
/-- a step within, the number of generators not less behind it -/
theorem wp_gs {α : Type} {M : Model} {A : Around} {s : Shared} {t : Sem α} {Q Q2 : α → Shared → Prop} {E E2 : Value → Shared → Prop} {n : Nat} (hn : n ≤ s.gens.size) (h : wpAny M A t Q E s) (k : ∀ a s2, Q a s2 → n ≤ s2.gens.size → Q2 a s2) (ke : ∀ e s2, E e s2 → E2 e s2) : wpAny M A t Q2 E2 s :=
  GenW.wpAny_gsz hn (wpAny_mono h (fun a s2 q z => k a s2 q z) fun e s2 q _ => ke e s2 q)
section
variable {W : Gw} {elt iter : Expr} {x : Str} {px : Pos} {scope : Scope} {pos : Pos} {j : Nat} {te : TE} {Ag : Around}
theorem seg_turns (ok : W.Ok (.Name x px) elt j te) (hA : W.Y.A = Ag.deeper W.Y.env) (hco : W.Y.env.scope.isCoroutine = false) :
    ∀ (k i : Nat) (s0 s : Shared), W.n - i = k → i ≤ W.n → W.LI i s → Seg (model W.Y.prog W.Y.w) Ag W.R W.P k s0 (.compLoop (.GeneratorExp elt [⟨.Name x px, iter, [], 0⟩] scope pos) 0 (.ref W.it) .none W.Y.env)
      ((model W.Y.prog W.Y.w).den (.compLoop (.GeneratorExp elt [⟨.Name x px, iter, [], 0⟩] scope pos) 0 (.ref W.it) .none W.Y.env)) [] s := by
  have eA : Ag.over (.compLoop (.GeneratorExp elt [⟨.Name x px, iter, [], 0⟩] scope pos) 0 (.ref W.it) .none W.Y.env) [] = W.Y.A := over_loopG.trans hA.symm
  intro k
  induction k with
  | zero =>
    intro i s0 s hk hi hL
    obtain rfl : i = W.n := by omega
    obtain ⟨σ, H, I, st, fr, p, hg⟩ := hL
    show Seg _ Ag W.R W.P 0 s0 _ ((compTurn (.GeneratorExp elt [⟨.Name x px, iter, [], 0⟩] scope pos) 0 (.ref W.it) .none W.Y.env).onRaise (leaving W.Y.env)) [] s
    rw [compTurn_gen, Sem.onRaise_eq_wrap]
    refine seg_bind_wrap (wpAny_standAt ?_)
    refine seg_bind_wrap ?_
    rw [eA]
    refine wp_gs hg (ok.turn.done W.Y rfl rfl rfl ok.calm W.n W.pn s σ H (fun _ _ => False) I (ok.fpk H fr) st (ok.stop σ H p)) (fun r s1 hr hg1 => ?_) fun _ _ z => z.elim
    obtain ⟨rfl, I1⟩ := hr
    exact seg_end (.ok .next) ⟨rfl, rfl, σ, H, I1, p⟩
  | succ k ih =>
    intro i s0 s hk hi hL
    have hlt : i < W.n := by omega
    obtain ⟨σ, H, I, st, fr, p, hg⟩ := hL
    show Seg _ Ag W.R W.P (k + 1) s0 _ ((compTurn (.GeneratorExp elt [⟨.Name x px, iter, [], 0⟩] scope pos) 0 (.ref W.it) .none W.Y.env).onRaise (leaving W.Y.env)) [] s
    rw [compTurn_gen, Sem.onRaise_eq_wrap]
    refine seg_bind_wrap (wpAny_standAt ?_)
    refine seg_bind_wrap ?_
    rw [eA]
    refine wp_gs hg (ok.turn.item W.Y rfl rfl rfl ok.calm i W.pn s σ H (fun _ _ => False) I (ok.fpk H fr) st (ok.go i σ H hlt p)) (fun r s1 hr hg1 => ?_) fun _ _ z => z.elim
    obtain ⟨u, rfl, h1⟩ := hr
    refine seg_bind_wrap ?_
    rw [eA]
    refine wp_gs hg1 h1 (fun _ s2 h2 hg2 => ?_) fun _ _ z => z.elim
    obtain ⟨v, H2, I2, rv, yl, st2, fr2⟩ := h2
    have I2' := I2.pinned (ok.fpk H2 fr2) (ok.turn.obj _ _ st2)
    refine seg_bind_wrap ?_
    rw [eA]
    refine wp_gs hg2 (ok.tg.run _ s2 σ H2 v u _ I2' rv (ok.step i σ H v H2 hlt p yl)) (fun _ s3 h3 hg3 => ?_) fun e s3 z => (ok.xe e s3 z).elim
    obtain ⟨σ3, H3, I3, q3⟩ := h3
    refine seg_bind_wrap ?_
    simp only [List.forIn_nil]
    refine wpAny_pure ?_
    simp only [if_true]
    have hy : ∀ v, yieldOut W.Y.env v = yieldValue v := fun v => by unfold yieldOut; rw [hco]; rfl
    simp only [hy]
    rw [Sem.bind_eq_wrap', Sem.bind_eq_wrap']
    rw [Sem.wrap_wrap, Sem.wrap_wrap]
    refine seg_wrap ?_
    rw [eA]
    refine wp_gs hg3 (ok.elt.run _ s3 σ3 H3 _ I3 q3) (fun y s4 h4 hg4 => ?_) fun e s4 z => (ok.xe e s4 z).elim
    obtain ⟨w, H4, I4, rw4, rfl, p4⟩ := h4
    have st4 : W.tn (i + 1) s4.heap := ok.turn.keep _ _ _ st2 fun b hb o e => (I4.pin (b, o) (List.mem_append_right _ (List.mem_append_right _ (mem_pinsAt hb e)))).1
    have fr4 : ∀ b ∈ W.fp, H4 b = none := fun b hb => by
      obtain ⟨o, e, d⟩ := ok.turn.obj _ _ st2 b hb
      exact (I4.pin (b, o) (List.mem_append_right _ (List.mem_append_right _ (mem_pinsAt hb e)))).2.1
    have L4 : W.LI (i + 1) s4 := ⟨σ3, H4, I4.unpinned, st4, fr4, p4, hg4⟩
    obtain rfl : y = Value.bool (W.b i) := rw4
    refine seg_at (seg_yield rfl rfl rfl ⟨⟨i, hlt, by omega, rfl, L4⟩, fun s5 t5 => ?_⟩)
    exact seg_again rfl (ih (i + 1) s5 s5 (by omega) hlt (L4.stab ok t5))
theorem seg_begin (ok : W.Ok (.Name x px) elt j te) (hA : W.Y.A = Ag.deeper W.Y.env) (hco : W.Y.env.scope.isCoroutine = false) (s0 s : Shared) (hL : W.LI 0 s) :
    Seg (model W.Y.prog W.Y.w) Ag W.R W.P W.n s0 (.compStart (.GeneratorExp elt [⟨.Name x px, iter, [], 0⟩] scope pos) 0 (.ref W.it) .none W.Y.env)
      ((model W.Y.prog W.Y.w).den (.compStart (.GeneratorExp elt [⟨.Name x px, iter, [], 0⟩] scope pos) 0 (.ref W.it) .none W.Y.env)) [] s := by
  have loop := seg_turns (iter := iter) (scope := scope) (pos := pos) ok hA hco W.n 0 s0 s (Nat.sub_zero _) (Nat.zero_le _) hL
  obtain ⟨σ, H, I, st, fr, p, hg⟩ := hL
  show Seg _ Ag W.R W.P W.n s0 _ ((compStart (.GeneratorExp elt [⟨.Name x px, iter, [], 0⟩] scope pos) 0 (.ref W.it) .none W.Y.env).onRaise (leaving W.Y.env)) [] s
  unfold compStart
  rw [Sem.onRaise_eq_wrap]
  show Seg _ Ag W.R W.P W.n s0 _ ((ask >>= _).wrap _ _ _ _) [] s
  refine seg_bind_wrap (wpAny_askSetting ?_)
  split
  · exact seg_again rfl loop
  · first
      | exact seg_bind_wrap (wpAny_rule (seg_bind_wrap (wpAny_standAt (seg_bind_wrap (ok.turn.self _ 0 s _ _ st (seg_again rfl loop))))))
      | (refine seg_bind_wrap (wpAny_rule ?_)
         show Seg _ Ag W.R W.P W.n s0 _ ((standAt iter.pos >>= _).wrap _ _ _ _) [] s
         exact seg_bind_wrap (wpAny_standAt (seg_bind_wrap (ok.turn.self _ 0 s _ _ st (seg_again rfl loop)))))
end
/-! ### what walks it -/
/-- the generator object at a between two turns -/
def Gw.St (W : Gw) (Ag : Around) (a : Addr) (i : Nat) (s : Shared) : Prop :=
  s.heap.IsGen a W.g ∧ W.LI i s ∧ ∃ gs, s.gens[W.g]? = some gs ∧ ∀ s2, Stab s s2 → gs.Goes (model W.Y.prog W.Y.w) Ag W.R W.P (W.n - i) (.send .none) s2
theorem bare_put {s : Shared} {g : Nat} {x : GenState} (h : AllBare s.gens) (hx : x.bare = true) : AllBare (s.setGen g x).gens := fun y hy => by
  obtain ⟨k, hk, rfl⟩ := Array.mem_iff_getElem.mp hy
  have e : (s.setGen g x).gens = s.gens.setIfInBounds g x := rfl
  simp only [e] at hk ⊢
  rw [Array.getElem_setIfInBounds (by simpa using hk)]
  split
  · exact hx
  · exact h _ (Array.getElem_mem _)
theorem stab_put {s : Shared} {g : Nat} {x : GenState} (h : AllBare s.gens) (hx : x.bare = true) : Stab s (s.setGen g x) := ⟨fun _ _ e => e, rfl, bare_put h hx, by simp [Shared.setGen]⟩
theorem put_at {s : Shared} {g : Nat} {x : GenState} (h : g < s.gens.size) : (s.setGen g x).gens[g]? = some x := by
  simp [Shared.setGen, h]
section
variable {W : Gw} {elt : Expr} {tg : Expr} {j : Nat} {te : TE} {A : Around} {a : Addr} {go : Obj} {E : Value → Shared → Prop}
theorem Gw.isGen (W : Gw) {i : Nat} {s : Shared} (hp : (a, go) ∈ W.pn) (hgo : ∀ h : Heap, h.get? a = some go → h.IsGen a W.g) (h : W.LI i s) : s.heap.IsGen a W.g := by
  obtain ⟨σ, H, I, _⟩ := h
  exact hgo _ (I.pin (a, go) (List.mem_append_right _ hp)).1
theorem Gw.item (ok : W.Ok tg elt j te) (hp : (a, go) ∈ W.pn) (hgo : ∀ h : Heap, h.get? a = some go → h.IsGen a W.g) (hh : A.handled = none) (hr : A.depth < recursionLimit) {i : Nat} {s : Shared} {Q : Option Value → Shared → Prop} (hlt : i < W.n) (h : W.St A.in1 a i s)
    (q : ∀ s2, W.St A.in1 a (i + 1) s2 → Q (some (.bool (W.b i))) s2) : wpAny (model W.Y.prog W.Y.w) A (pyNext (.ref a)) Q E s := by
  obtain ⟨hg, hL, gs, hgs, hgo2⟩ := h
  obtain ⟨m, hm⟩ : ∃ m, W.n - i = m + 1 := ⟨W.n - i - 1, by omega⟩
  rw [hm] at hgo2
  have lim : s.heap.NoLimit := by
    obtain ⟨σ, H, I, _⟩ := hL
    exact I.nolimit
  have bare : AllBare s.gens := by
    obtain ⟨σ, H, I, _⟩ := hL
    exact I.bare
  refine wpAny_pyNext_genexpQ (P := fun n _ s1 => n = 0 ∧ W.LE s1) hh lim hr hg hgs (hgo2 _ (stab_put bare rfl)) (fun v s1 gs' hb hv => ?_) (fun s1 hp1 h' hk => ?_)
  · obtain ⟨⟨i', hi', e, rfl, L1⟩, kap⟩ := hv
    obtain rfl : i' = i := by omega
    have L1' := L1
    obtain ⟨σ, H, I, _, _, _, hsz⟩ := L1'
    have t := stab_put (g := W.g) I.bare hb
    have L2 := L1.stab ok t
    refine q _ ⟨W.isGen hp hgo L2, L2, gs', put_at hsz, fun s2 t2 => ?_⟩
    have k2 := kap s2 (t.trans t2)
    rw [show W.n - (i' + 1) = m by omega]
    exact k2
  · exact absurd hp1.1 (Nat.succ_ne_zero m)
theorem Gw.done (ok : W.Ok tg elt j te) (hh : A.handled = none) (hr : A.depth < recursionLimit) {s : Shared} {Q : Option Value → Shared → Prop} (h : W.St A.in1 a W.n s) (q : ∀ s2, W.LE s2 → Q none s2) : wpAny (model W.Y.prog W.Y.w) A (pyNext (.ref a)) Q E s := by
  obtain ⟨hg, hL, gs, hgs, hgo2⟩ := h
  rw [Nat.sub_self] at hgo2
  have lim : s.heap.NoLimit := by
    obtain ⟨σ, H, I, _⟩ := hL
    exact I.nolimit
  have bare : AllBare s.gens := by
    obtain ⟨σ, H, I, _⟩ := hL
    exact I.bare
  refine wpAny_pyNext_genexpQ (P := fun n _ s1 => n = 0 ∧ W.LE s1) hh lim hr hg hgs (hgo2 _ (stab_put bare rfl)) (fun v s1 gs' hb hv => ?_) (fun s1 hp1 h' hk => ?_)
  · obtain ⟨⟨i', hi', e, rfl, L1⟩, kap⟩ := hv
    exact (kap s1 ⟨fun _ _ z => z, rfl, by obtain ⟨σ, H, I, _⟩ := L1; exact I.bare, Nat.le_refl _⟩).elim
  · obtain ⟨_, σ, H, I, p⟩ := hp1
    refine q _ ⟨σ, H, Inv.stab I ⟨hk, rfl, bare_put I.bare rfl, by simp [Shared.setGen]⟩, p⟩
/-- all(g), any(g): the loop -/
theorem all_turns (ok : W.Ok tg elt j te) (hp : (a, go) ∈ W.pn) (hgo : ∀ h : Heap, h.get? a = some go → h.IsGen a W.g) (hh : A.handled = none) (hr : A.depth < recursionLimit) {R : Result → Shared → Prop}
    (q : ∀ s2, (W.LE s2 ∨ ∃ i, W.LI i s2) → R (.ok (.ret (.bool ((List.range W.n).all W.b)))) s2) : ∀ (k i : Nat) (s : Shared), W.n - i = k → i ≤ W.n → (∀ l, l < i → W.b l = true) → W.St A.in1.in1 a i s →
      codeAny (model W.Y.prog W.Y.w) A (.builtin "all.loop" ⟨[.ref a], []⟩) R s := by
  intro k
  induction k with
  | zero =>
    intro i s hk hi hb h
    obtain rfl : i = W.n := by omega
    refine codeAny_builtin F.entry_all_loop ?_
    rw [Around.under_plainId F.plain_all_loop]
    show wpAny _ A.in1 (pyNext (.ref a) >>= _) _ _ s
    refine wpAny_bind (Gw.done (A := A.in1) ok hh hr h fun s2 e => ?_)
    refine wpAny_bind (wpAny_rule (wpAny_pure ?_))
    have e2 : (List.range W.n).all W.b = true := List.all_eq_true.mpr fun l hl => hb l (List.mem_range.mp hl)
    have := q s2 (.inl e)
    rw [e2] at this
    exact this
  | succ k ih =>
    intro i s hk hi hb h
    have hlt : i < W.n := by omega
    refine codeAny_builtin F.entry_all_loop ?_
    rw [Around.under_plainId F.plain_all_loop]
    show wpAny _ A.in1 (pyNext (.ref a) >>= _) _ _ s
    refine wpAny_bind (Gw.item (A := A.in1) ok hp hgo hh hr hlt h fun s2 h2 => ?_)
    refine wpAny_bind (wpAny_holding (wpAny_truthy_bool ?_))
    refine wpAny_bind (wpAny_letGo ?_)
    cases e : W.b i with
    | true =>
      simp only [if_true]
      refine wpAny_pure ⟨plainId_quiet F.plain_all_loop _, ih (i + 1) s2 (by omega) hlt (fun l hl => ?_) h2⟩
      rcases Nat.lt_or_eq_of_le (Nat.le_of_lt_succ hl) with z | z
      · exact hb l z
      · rw [z]; exact e
    | false =>
      simp only [Bool.false_eq_true, if_false]
      have e2 : (List.range W.n).all W.b = false := List.all_eq_false.mpr ⟨i, List.mem_range.mpr hlt, by rw [e]; decide⟩
      have := q s2 (.inr ⟨_, h2.2.1⟩)
      rw [e2] at this
      exact wpAny_bind (wpAny_rule (wpAny_pure this))
theorem any_turns (ok : W.Ok tg elt j te) (hp : (a, go) ∈ W.pn) (hgo : ∀ h : Heap, h.get? a = some go → h.IsGen a W.g) (hh : A.handled = none) (hr : A.depth < recursionLimit) {R : Result → Shared → Prop}
    (q : ∀ s2, (W.LE s2 ∨ ∃ i, W.LI i s2) → R (.ok (.ret (.bool ((List.range W.n).any W.b)))) s2) : ∀ (k i : Nat) (s : Shared), W.n - i = k → i ≤ W.n → (∀ l, l < i → W.b l = false) → W.St A.in1.in1 a i s →
      codeAny (model W.Y.prog W.Y.w) A (.builtin "any.loop" ⟨[.ref a], []⟩) R s := by
  intro k
  induction k with
  | zero =>
    intro i s hk hi hb h
    obtain rfl : i = W.n := by omega
    refine codeAny_builtin F.entry_any_loop ?_
    rw [Around.under_plainId F.plain_any_loop]
    show wpAny _ A.in1 (pyNext (.ref a) >>= _) _ _ s
    refine wpAny_bind (Gw.done (A := A.in1) ok hh hr h fun s2 e => ?_)
    refine wpAny_bind (wpAny_rule (wpAny_pure ?_))
    have e2 : (List.range W.n).any W.b = false := List.any_eq_false.mpr fun l hl => by rw [hb l (List.mem_range.mp hl)]; decide
    have := q s2 (.inl e)
    rw [e2] at this
    exact this
  | succ k ih =>
    intro i s hk hi hb h
    have hlt : i < W.n := by omega
    refine codeAny_builtin F.entry_any_loop ?_
    rw [Around.under_plainId F.plain_any_loop]
    show wpAny _ A.in1 (pyNext (.ref a) >>= _) _ _ s
    refine wpAny_bind (Gw.item (A := A.in1) ok hp hgo hh hr hlt h fun s2 h2 => ?_)
    refine wpAny_bind (wpAny_holding (wpAny_truthy_bool ?_))
    refine wpAny_bind (wpAny_letGo ?_)
    cases e : W.b i with
    | false =>
      simp only [Bool.false_eq_true, if_false]
      refine wpAny_pure ⟨plainId_quiet F.plain_any_loop _, ih (i + 1) s2 (by omega) hlt (fun l hl => ?_) h2⟩
      rcases Nat.lt_or_eq_of_le (Nat.le_of_lt_succ hl) with z | z
      · exact hb l z
      · rw [z]; exact e
    | true =>
      simp only [if_true]
      have e2 : (List.range W.n).any W.b = true := List.any_eq_true.mpr ⟨i, List.mem_range.mpr hlt, e⟩
      have := q s2 (.inr ⟨_, h2.2.1⟩)
      rw [e2] at this
      exact wpAny_bind (wpAny_rule (wpAny_pure this))
theorem call_allG (ok : W.Ok tg elt j te) (hp : (a, go) ∈ W.pn) (hgo : ∀ h : Heap, h.get? a = some go → h.IsGen a W.g) (hh : A.handled = none) (hr : A.depth < recursionLimit) {s : Shared} {Q : Value → Shared → Prop} (h : W.St A.in1.in1 a 0 s)
    (q : ∀ s2, (W.LE s2 ∨ ∃ i, W.LI i s2) → Q (.bool ((List.range W.n).all W.b)) s2) : wpAny (model W.Y.prog W.Y.w) A (call (.builtin "all") [.ref a]) Q E s := by
  refine call_function_tree F.kind_all F.plain_all F.entry_all (F.args_all1 _) ?_
  unfold Builtin.«all»
  refine wpAny_bind (m := oneArg "all" _) (wpAny_pure ?_)
  refine wpAny_bind (wpAny_pyIter_gen h.1 ?_)
  exact wpAny_pure ⟨plainId_quiet F.plain_all_loop _, all_turns ok hp hgo hh hr (fun s2 z => q s2 z) W.n 0 s rfl (Nat.zero_le _) (fun l hl => absurd hl (Nat.not_lt_zero l)) h⟩
theorem call_anyG (ok : W.Ok tg elt j te) (hp : (a, go) ∈ W.pn) (hgo : ∀ h : Heap, h.get? a = some go → h.IsGen a W.g) (hh : A.handled = none) (hr : A.depth < recursionLimit) {s : Shared} {Q : Value → Shared → Prop} (h : W.St A.in1.in1 a 0 s)
    (q : ∀ s2, (W.LE s2 ∨ ∃ i, W.LI i s2) → Q (.bool ((List.range W.n).any W.b)) s2) : wpAny (model W.Y.prog W.Y.w) A (call (.builtin "any") [.ref a]) Q E s := by
  refine call_function_tree F.kind_any F.plain_any F.entry_any (F.args_any1 _) ?_
  unfold Builtin.«any»
  refine wpAny_bind (m := oneArg "any" _) (wpAny_pure ?_)
  refine wpAny_bind (wpAny_pyIter_gen h.1 ?_)
  exact wpAny_pure ⟨plainId_quiet F.plain_any_loop _, any_turns ok hp hgo hh hr (fun s2 z => q s2 z) W.n 0 s rfl (Nat.zero_le _) (fun l hl => absurd hl (Nat.not_lt_zero l)) h⟩
end
/-! ### the whole call -/
/-- the table at P has grown, or not -/
def Tbd (P : Addr) (H H2 : Hp) : Prop := ∃ ps more, H P = some (.tbl ps) ∧ H2 = upd H P (.tbl (ps ++ more)) ∧ TriplesOk (ps ++ more).toList
def tWalkG (f : List Nat → (Nat → Bool) → Bool) (P : Addr) (wi : TI) (j : Nat) (te : TE) : TE := fun σ H Q => wi σ H fun J H1 => (∃ ps, H1 P = some (.tbl ps) ∧ TriplesOk ps.toList) ∧ ∀ H2, Tbd P H1 H2 →
  ∃ (n : Nat) (b : Nat → Bool) (Pv : Nat → L2.St → Hp → Prop), Pv 0 (σ.set j none) H2 ∧ (∀ i σ H, i < n → Pv i σ H → J.go i H) ∧ (∀ σ H, Pv n σ H → J.stop n H) ∧
    (∀ i σ H x H1, i < n → Pv i σ H → J.yld i H x H1 → gName j x σ H1 fun σ2 H2 => te σ2 H2 fun y H3 => y = .bl (b i) ∧ Pv (i + 1) σ2 H3) ∧ ∀ i σ3 H3, Pv i σ3 H3 → Q (.bl (f (List.range n) b)) H3
/-- the frame of scope's generator expression over X -/
abbrev genY (X : Cx) (scope : Scope) (s4 : Shared) (H4 : Hp) (code : Value) (fp : List Addr) : Cx :=
  gcx X s4 H4 (genEnv scope (cloFrom X.env.cells scope.names []) s4.heap.objs.size code builtinsNs X.env) (X.A.in1.in1.deeper (genEnv scope (cloFrom X.env.cells scope.names []) s4.heap.objs.size code builtinsNs X.env)) fp
section
variable {X : Cx} {elt iter : Expr} {x : Str} {px gpos : Pos} {scope : Scope} {j : Nat} {c P : Addr} {wi : TI} {te : TE}
theorem gen_made {f : List Nat → (Nat → Bool) → Bool} (hd : X.A.handled = none) (hr : X.A.depth + 2 < recursionLimit) (nd : X.N.Nodup) (TB : GxR.TabB X.base X.mg c P) (hcode : X.env.code = .ref c) (S : GOk X.N X.env.scope scope x j) (hi : PI X (.Name x px) iter wi)
    (hel : ∀ s4 H4 code fp, PE (genY X scope s4 H4 code fp) elt te) (hs : ∀ v, genFold iter X.env v = pure v) {pins : List (Addr × Obj)} {σ : L2.St} {H : Hp} {s : Shared} {Q : VK} {Q2 : Value → Shared → Prop} (I : Inv X pins σ H s) (h : tWalkG f P wi j te σ H Q)
    (hQ : ∀ (W : Gw) (a : Addr) (go : Obj) (s5 : Shared), W.Y.prog = X.prog → W.Y.w = X.w → W.Ok (.Name x px) elt j te → (a, go) ∈ W.pn → (∀ h : Heap, h.get? a = some go → h.IsGen a W.g) → W.St X.A.in1.in1 a 0 s5 →
      (∀ s2, (W.LE s2 ∨ ∃ i, W.LI i s2) → EP X pins σ Q (.bool (f (List.range W.n) W.b)) s2) → Q2 (.ref a) s5) :
    wpAny (model X.prog X.w) X.A (eval (.GeneratorExp elt [⟨.Name x px, iter, [], 0⟩] scope gpos) X.env) Q2 X.xe s := by
  have fr : ∀ y ∈ scope.names, y.2 = .free → ∃ c, X.env.cells.lookup y.1 = some c := fun y hy e => I.ok.has y.1 (S.free y hy e)
  refine wpAny_GeneratorExp_make S.co (closure_ok fr) S.cell S.dot S.kind (by omega) (wpAny_mono (hi.run pins s σ H _ I h) (fun xv s1 h1 => wpAny_mono h1 (fun itv s2 h2 => ?_) fun _ _ z => z) fun _ _ z => z) hs
  obtain ⟨it, fp, tn, J, H1, rfl, I1, T, st1, f1, ⟨ps, hP, ht⟩, go⟩ := h2
  have lim := I1.nolimit
  have hPs : s2.heap.get? P = some { cls := .none, data := .fields ps } := I1.hok P _ hP
  have cd : PySem.W.CodeHd s2.heap c P := TB.code.keeps fun b u e => I1.bk b u e
  have fpP : ∀ b ∈ fp, b ≠ P := fun b hb z => by
    have := (f1 b hb).1
    rw [z, hP] at this
    cases this
  refine ⟨lim, ?_⟩
  -- behind the code's making
  have cont : ∀ (code : Value) (h3 : Heap) (tk : Nat) (more : Array Value), (∀ b o, b ≠ P → s2.heap.get? b = some o → h3.get? b = some o) → h3.get? P = some { cls := .none, data := .fields (ps ++ more) } → TriplesOk (ps ++ more).toList →
      wpAny (model X.prog X.w) X.A (builtinsFor X.env.globals X.env.builtins) (fun bi s4 => ∀ h', h'.Ns s4.heap.objs.size (fun y => if y = ".0" then some (.ref it) else none) → Heap.SameBut s4.heap.objs.size (s4.heap.push { cls := .type "frame", data := .dict #[] }) h' →
        Q2 (.ref h'.objs.size) { s4 with
            gens := s4.gens.push (.fresh (.compStart (.GeneratorExp elt [⟨.Name x px, iter, [], 0⟩] scope gpos) 0 (.ref it) .none (genEnv scope (cloFrom X.env.cells scope.names []) s4.heap.objs.size code bi X.env)))
            toks := s4.toks + 1 + 1 + 1
            heap := h'.push { cls := .type "generator", data := .fields #[.int s4.gens.size 0, .str "<genexpr>" (s4.toks + 1), .str (X.env.qual ++ "<genexpr>") (s4.toks + 1 + 1)] } }) X.xe { s2 with heap := h3, toks := tk } := by
    intro code h3 tk more k3 h3P ht3
    have I3 : Inv X pins σ (upd H1 P (.tbl (ps ++ more))) { s2 with heap := h3, toks := tk } := GxR.inv_tab (more := more) (g' := s2.gens) (d' := s2.drawn) I1 hP k3 h3P I1.bare
    obtain ⟨bm, ob, e1, e2, e3, e4, e5, e6, e7, e8⟩ := TB.bm
    refine wpAny_builtinsFor (m := X.mg) ?_ e1 e2 (k3 _ _ e4 (I1.bk _ _ e5)) e6 e7 e8 ?_
    · rw [I1.ok.glob]
      obtain ⟨o, es, ep, q1, q2⟩ := I1.mod.glob.keeps I1.bk
      exact ⟨o, es, ep, k3 _ _ TB.gP q1, q2⟩
    intro h' hn' hs'
    obtain ⟨n, b, Pv, p0, pgo, pstop, pstep, pq⟩ := go _ ⟨ps, more, hP, rfl, ht3⟩
    have sz : h'.objs.size = h3.objs.size + 1 := by rw [hs'.1, Heap.size_push]
    have k' : ∀ b o, h3.get? b = some o → h'.get? b = some o := fun b o e => hs'.extBut b o (Nat.ne_of_lt (Heap.lt_size e)) (Heap.get?_push_of_some _ e)
    have H2n : ∀ b ∈ fp, upd H1 P (.tbl (ps ++ more)) b = none := fun b hb => by rw [upd_ne (fpP b hb)]; exact (f1 b hb).1
    have f2 : ∀ b ∈ fp, FpOk X pins (upd H1 P (.tbl (ps ++ more))) b := fun b hb => ⟨H2n b hb, (f1 b hb).2⟩
    have o3 : ∀ b ∈ fp, ∃ o, h3.get? b = some o := fun b hb => by
      obtain ⟨o, e, _⟩ := T.obj _ _ st1 b hb
      exact ⟨o, k3 b o (fpP b hb) e⟩
    have fpl : ∀ b ∈ fp, b < h3.objs.size := fun b hb => by
      obtain ⟨o, e⟩ := o3 b hb
      exact Heap.lt_size e
    have cl : ∀ y c, (cloFrom X.env.cells scope.names []).lookup y = some c → X.env.cells.lookup y = some c := fun y c h => by
      obtain ⟨h1, h2⟩ := cap_of h
      obtain ⟨c0, h3⟩ := fr _ h1 rfl
      rw [h3] at h2
      rw [h3, h2]
      rfl
    -- the state behind
    let go5 : Obj := { cls := .type "generator", data := .fields #[.int s2.gens.size 0, .str "<genexpr>" (tk + 1), .str (X.env.qual ++ "<genexpr>") (tk + 1 + 1)] }
    have I5 := inv_gen (s5 := { s2 with
            gens := s2.gens.push (.fresh (.compStart (.GeneratorExp elt [⟨.Name x px, iter, [], 0⟩] scope gpos) 0 (.ref it) .none (genEnv scope (cloFrom X.env.cells scope.names []) h3.objs.size code builtinsNs X.env)))
            toks := tk + 1 + 1 + 1
            heap := h'.push go5 }) (code := code) (a := h'.objs.size) (go := go5) (it := .ref it) I3 nd hd S f2 o3 (fun b o e => Heap.get?_push_of_some _ (k' b o e)) rfl (I1.bare.push rfl) (hn'.push _) (Heap.get?_push_size _ rfl) (by show h3.objs.size < h'.objs.size; omega) (fun v z => by cases z)
    let W : Gw := { Y := genY X scope { s2 with heap := h3, toks := tk } (upd H1 P (.tbl (ps ++ more))) code fp, pn := [(h'.objs.size, go5)], it := it, fp := fp, tn := tn, J := J, n := n, g := s2.gens.size, b := b, Pv := Pv }
    have ok : W.Ok (.Name x px) elt j te :=
      { turn := T
        fpk := fun H hH b hb => ⟨hH b hb, Nat.ne_of_lt (fpl b hb), fun z => (List.mem_cons.mp (I3.stkSub b z)).elim (f2 b hb).2.1 (f2 b hb).2.2.1, .inl hb, fun y c h => (f2 b hb).2.2.2.2.1 y c (cl y c h), fun p hp => by
          obtain rfl : p = (h'.objs.size, go5) := List.mem_singleton.mp (show p ∈ ([] : List (Addr × Obj)) ++ [(h'.objs.size, go5)] from hp)
          have := fpl b hb
          exact Nat.ne_of_gt (Nat.lt_of_lt_of_le this (by rw [sz]; exact Nat.le_succ _))⟩
        calm := rfl
        tg := pg_name (i := j) nd S.at_ (.inl S.loc) (.inr S.loc)
        elt := hel _ _ _ _
        xe := fun _ _ z => z
        go := pgo
        stop := pstop
        step := pstep }
    have L5 : W.LI 0 _ := ⟨_, _, I5, T.keep _ _ _ st1 fun b hb o e => Heap.get?_push_of_some _ (k' b o (k3 b o (fpP b hb) e)), H2n, p0, by simp [W]⟩
    have isg : ∀ h : Heap, h.get? h'.objs.size = some go5 → h.IsGen h'.objs.size W.g := fun h e => ⟨go5, _, _, e, rfl, rfl, rfl⟩
    refine hQ W h'.objs.size go5 _ rfl rfl ok List.mem_cons_self isg ⟨isg _ (Heap.get?_push_size _ rfl), L5, _, Array.getElem?_push_size .., fun s6 t6 => ⟨rfl, seg_begin ok rfl S.co s6 s6 (L5.stab ok t6)⟩⟩ fun s6 h6 => ?_
    obtain ⟨i, σ6, H6, I6, p6⟩ : ∃ i σ6 H6, Inv W.Y W.pn σ6 H6 s6 ∧ W.Pv i σ6 H6 := by
      rcases h6 with ⟨σ6, H6, I6, p6⟩ | ⟨i, σ6, H6, I6, _, _, p6, _⟩
      · exact ⟨_, σ6, H6, I6, p6⟩
      · exact ⟨i, σ6, H6, I6, p6⟩
    exact ⟨.bl _, H6, I3.call' (ch := fp) I6.os I6.base I6.hok I6.bare fun b hb => ⟨(f2 b hb).2.2.2.1, (f2 b hb).2.1, (f2 b hb).2.2.2.2.1, (f2 b hb).2.2.2.2.2⟩, rfl, pq i σ6 H6 p6⟩
  cases hf : codeAmong gpos ps.toList with
  | none =>
    refine wpAny_genexprCodeX hcode (cd.code hPs ht) (cd.tab hPs) hf fun c' h' tk hx hge hlt hco' _ htab' _ => ?_
    obtain ⟨o1, vs, f1', tf, fl, tg, inF, tx, tt, op, _, _, _, _, _, _, _, _, _, htr, _⟩ := hco'
    exact cont _ h' tk _ (fun b o hb e => hx b o hb e) htab'.2 htr
  | some cv =>
    refine wpAny_genexprCode_hit hcode (cd.code hPs ht) hf ?_
    have e0 : ps ++ #[] = ps := Array.append_empty
    exact cont cv s2.heap s2.toks #[] (fun b o _ e => e) (by rw [e0]; exact hPs) (by rw [e0]; exact ht)
/-- all(elt for x in iter), any(..) -/
theorem pe_allG {p pos : Pos} {k : Nat} (hr : Room k X.A) (nd : X.N.Nodup) (hg : Gl X "all") (hm : X.mg "all" = none) (TB : GxR.TabB X.base X.mg c P) (hcode : X.env.code = .ref c) (S : GOk X.N X.env.scope scope x j) (hi : PI X (.Name x px) iter wi)
    (hel : ∀ s4 H4 code fp, PE (genY X scope s4 H4 code fp) elt te) (hs : ∀ v, genFold iter X.env v = pure v)
    (he : starEach [.GeneratorExp elt [⟨.Name x px, iter, [], 0⟩] scope gpos] X.env = (false, eval (.GeneratorExp elt [⟨.Name x px, iter, [], 0⟩] scope gpos) X.env) :: starEach [] X.env := by rfl) :
    PE X (.Call (.Name "all" p) [.GeneratorExp elt [⟨.Name x px, iter, [], 0⟩] scope gpos] [] pos) (tWalkG List.all P wi j te) := by
  refine ⟨fun pins s σ H Q I h => wpAny_Call_Name_kw (ld_blt I hg hm boot_all (PyProof.Rows.callWith_builtin1 ?_ he (by rfl)))⟩
  rw [he]
  show wpAny _ _ (spliced ((false, eval (.GeneratorExp elt [⟨.Name x px, iter, [], 0⟩] scope gpos) X.env) :: backTo pos (starEach [] X.env))) _ _ s
  have hdp := hr.dp
  refine Calls.spliced_cons (gen_made hr.hd (by omega) nd TB hcode S hi hel hs I h fun W a go s5 eP ew ok hp isg st fin => Calls.spliced_nil ?_)
  have := call_allG (A := X.A) (E := X.xe) ok hp isg hr.hd (by omega) st fin
  rw [eP, ew] at this
  exact this
theorem pe_anyG {p pos : Pos} {k : Nat} (hr : Room k X.A) (nd : X.N.Nodup) (hg : Gl X "any") (hm : X.mg "any" = none) (TB : GxR.TabB X.base X.mg c P) (hcode : X.env.code = .ref c) (S : GOk X.N X.env.scope scope x j) (hi : PI X (.Name x px) iter wi)
    (hel : ∀ s4 H4 code fp, PE (genY X scope s4 H4 code fp) elt te) (hs : ∀ v, genFold iter X.env v = pure v)
    (he : starEach [.GeneratorExp elt [⟨.Name x px, iter, [], 0⟩] scope gpos] X.env = (false, eval (.GeneratorExp elt [⟨.Name x px, iter, [], 0⟩] scope gpos) X.env) :: starEach [] X.env := by rfl) :
    PE X (.Call (.Name "any" p) [.GeneratorExp elt [⟨.Name x px, iter, [], 0⟩] scope gpos] [] pos) (tWalkG List.any P wi j te) := by
  refine ⟨fun pins s σ H Q I h => wpAny_Call_Name_kw (ld_blt I hg hm boot_any (PyProof.Rows.callWith_builtin1 ?_ he (by rfl)))⟩
  rw [he]
  show wpAny _ _ (spliced ((false, eval (.GeneratorExp elt [⟨.Name x px, iter, [], 0⟩] scope gpos) X.env) :: backTo pos (starEach [] X.env))) _ _ s
  have hdp := hr.dp
  refine Calls.spliced_cons (gen_made hr.hd (by omega) nd TB hcode S hi hel hs I h fun W a go s5 eP ew ok hp isg st fin => Calls.spliced_nil ?_)
  have := call_anyG (A := X.A) (E := X.xe) ok hp isg hr.hd (by omega) st fin
  rw [eP, ew] at this
  exact this
end
end Qp

/-! Q13: all, any of a generator expression, over data. -/
namespace Qp
open PySem PySem.Spec PyProof.Rows L2
theorem room_gen {k : Nat} {A : Around} {env : Env} (r : Room k A) (h : 1 ≤ k) : Room (k - 1) (A.in1.in1.deeper env) := by
  obtain ⟨m, rfl⟩ : ∃ m, k = m + 1 := ⟨k - 1, by omega⟩
  refine ⟨r.hd, ?_, ?_⟩
  · have := r.dp
    show A.depth + 1 + 3 * (m + 1 - 1) + 5 < _
    omega
  · have := r.un
    show A.units + 1 + 1 + 3 + 16 * (m + 1 - 1) + 200 < _
    omega
/-- the context of a generator expression's element -/
def Cs.gen (C : Cs) (scope : Scope) [hc : Cold C] (hk : 1 ≤ C.k) : Cs where
  ι := C.ι × Shared × Hp × Value × List Addr
  X := fun q => genY (C.X q.1) scope q.2.1 q.2.2.1 q.2.2.2.1 q.2.2.2.2
  P := C.P
  w := C.w
  K := C.K
  mg := C.mg
  base := C.base
  N := C.N
  k := C.k - 1
  hP := fun q => C.hP q.1
  hw := fun q => C.hw q.1
  hK := fun q => C.hK q.1
  hmg := fun q => C.hmg q.1
  hbase := fun q => C.hbase q.1
  hN := fun q => C.hN q.1
  nd := C.nd
  calm := fun _ _ => rfl
  cold := fun q _ => room_gen (C.cold q.1 hc.h) hk
  hotc := fun _ z => Bool.noConfusion z
  E := noX C.E.T
  takes := fun _ => takesN
instance {C : Cs} {scope : Scope} [Cold C] {hk : 1 ≤ C.k} : Cold (C.gen scope hk) := ⟨rfl⟩
theorem ex_tbd {P : Addr} {H H2 : Hp} (t : Tbd P H H2) : Ex H H2 := by
  obtain ⟨ps, more, h1, rfl, h3⟩ := t
  intro a o h
  by_cases e : a = P
  · subst e
    rw [h1] at h
    cases h
    exact ⟨more, upd_same, fun _ => h3⟩
  · rw [upd_ne e]
    exact .of h
section
variable {K : Fg} {E : Xw} {ls : List Loc}
theorem ev_gen {f : List Nat → (Nat → Bool) → Bool} {wi : TI} {te : TE} {P : Addr} (j n : Nat) (xs : Nat → D) (b : Nat → Bool) (J : Hp → It → Prop) (hj : ∀ l, ls[j]? = some l → l.keeps = true) (hT : E.T P)
    (hw : ∀ F G H σ, Sat K F G H σ ls → Xok K E F G H σ ls → ∀ R : It → Hp → Prop, (∀ Jt G' H', Ex G G' → Ex H H' → Sat K F G' H' σ ls → J G' Jt → R Jt H') → wi σ H R)
    (hstop : ∀ G Jt H, J G Jt → Ex G H → Jt.stop n H) (hgo : ∀ G Jt H i, J G Jt → Ex G H → i < n → Jt.go i H) (hy : ∀ G Jt H i x H1, J G Jt → Ex G H → i < n → Jt.yld i H x H1 → H1 = H ∧ Dq K G x (xs i))
    (he : ∀ i, i < n → Ev K (noX E.T) te (ls.set j (.val (xs i))) (.bl (b i))) : Ev K E (tWalkG f P wi j te) ls (.bl (f (List.range n) b)) := fun F G H σ S xx Q q => hw F G H σ S xx _ fun Jt G1 H1 eg1 eh1 S1 hJ => by
  have tb1 := fun P h => ((xx.tb P h).mono eg1)
  refine ⟨(tb1 P hT).mono S1.ex, fun H2 ht => ?_⟩
  have e2 := ex_tbd ht
  have S2 : Sat K F G1 H2 σ ls := S1.grow (Ex.refl G1) e2 (S1.ex.trans e2) fun a h => Or.inl h
  refine ⟨n, b, fun i σ' H' => σ'.set j none = σ.set j none ∧ ∃ G', Ex G1 G' ∧ Ex H2 H' ∧ Sat K F G' H' σ ls, ⟨by rw [List.set_set], G1, Ex.refl _, Ex.refl _, S2⟩, fun i σ' H' hlt h => ?_, fun σ' H' h => ?_, fun i σ' H' x H3 hlt h y => ?_, fun i σ' H' h => ?_⟩
  · obtain ⟨_, G', eg', eh', S'⟩ := h
    exact hgo G1 Jt H' i hJ (eg'.trans S'.ex) hlt
  · obtain ⟨_, G', eg', eh', S'⟩ := h
    exact hstop G1 Jt H' hJ (eg'.trans S'.ex)
  · obtain ⟨e0, G', eg', eh', S'⟩ := h
    obtain ⟨rfl, hx⟩ := hy G1 Jt H' i x H3 hJ (eg'.trans S'.ex) hlt y
    have e1 : σ'.set j (some x) = σ.set j (some x) := by
      have := congrArg (fun l => l.set j (some x)) e0
      simp only [List.set_set] at this
      exact this
    show te (σ'.set j (some x)) H3 _
    rw [e1]
    have Sx : Sat K F G' H3 (σ.set j (some x)) (ls.set j (.val (xs i))) := S'.setV (dq_mono eg' hx)
    refine he i hlt F G' H3 _ Sx (xok_no fun P h => (tb1 P h).mono eg') _ fun v G4 H4 eg4 eh4 S4 hv => ⟨dq_bl hv, by rw [List.set_set], G4, eg'.trans eg4, eh'.trans eh4, ?_⟩
    exact Sat.restore S' S4 eg4 eh4 hj
  · obtain ⟨_, G', eg', eh', S'⟩ := h
    exact q _ G' H' (eg1.trans eg') (eh1.trans (e2.trans eh')) S' (.bl _)
end
section
variable {C : Cs} {ls : List Loc} {e elt : Expr} {P : Addr} {pos p1 p2 p3 px gpos : Pos} {x : Str} {scope : Scope}
theorem pe_gen' (f : List Nat → (Nat → Bool) → Bool) (nm : Str) {wi : TI} {te : TE} {iter : Expr} {p : Pos} (j : Nat) (h : ∀ i, PE (C.X i) (.Call (.Name nm p) [.GeneratorExp elt [⟨.Name x px, iter, [], 0⟩] scope gpos] [] pos) (tWalkG f P wi j te)) (n : Nat) (b : Nat → Bool) (ev : Ev C.K C.E (tWalkG f P wi j te) ls (.bl (f (List.range n) b))) :
    JE C ls (.Call (.Name nm p) [.GeneratorExp elt [⟨.Name x px, iter, [], 0⟩] scope gpos] [] pos) (.bl (f (List.range n) b)) := je_of h ev
theorem je_allT [Cold C] {α : Type} {xs : List α} (g : α → D) (z : α) (j : Nat) (b : Nat → Bool) (hk : 1 ≤ C.k) (he : JE C ls e (.tup (xs.map g)))
    (hb : ∀ i, i < xs.length → JE (C.gen scope hk) (ls.set j (.val (g (xs.getD i z)))) elt (.bl (b i))) (TB : ∀ i, ∃ c, GxR.TabB (C.X i).base (C.X i).mg c P ∧ (C.X i).env.code = .ref c) (hT : C.E.T P) (S : ∀ i, GOk C.N (C.X i).env.scope scope x j) (hj : ∀ l, ls[j]? = some l → l.keeps = true := by intro _ h; cases h; rfl)
    (hm : NoG C "all" := by assumption) (hg : ∀ j, Gl (C.X j) "all" := by intro _; rfl) (hfs : ∀ i v, genFold e (C.X i).env v = pure v := by intro _ _; rfl)
    (hst : ∀ i, starEach [.GeneratorExp elt [⟨.Name x px, e, [], 0⟩] scope gpos] (C.X i).env = (false, eval (.GeneratorExp elt [⟨.Name x px, e, [], 0⟩] scope gpos) (C.X i).env) :: starEach [] (C.X i).env := by intro _; rfl) :
    JE C ls (.Call (.Name "all" p1) [.GeneratorExp elt [⟨.Name x px, e, [], 0⟩] scope gpos] [] pos) (.bl ((List.range xs.length).all b)) :=
  je_of (t := tWalkG List.all P (iTup C.K (eAny C e)) j (eAny (C.gen scope hk) elt))
    (fun i => by
      obtain ⟨c, tb, hc⟩ := TB i
      exact pe_allG (C.cold i Cold.h) (by rw [C.hN]; exact C.nd) (hg i) (noG hm i) tb hc (by rw [C.hN]; exact S i) (kx (p := fun K => PI (C.X i) _ e (iTup K (eAny C e))) i (pi_tup (pe_any C e i))) (fun s4 H4 code fp => pe_any (C.gen scope hk) elt (i, s4, H4, code, fp)) (hfs i) (hst i))
    (ev_gen j xs.length (fun i => g (xs.getD i z)) b (fun G Jt => ∃ a vs, Jt = Itt C.K a ∧ SqT C.K G a vs ∧ DqAll C.K G vs (xs.map g)) hj hT
      (fun F G H σ S xx R q => he F G H σ S xx _ fun v G' H' eg eh S' hv => by
        obtain ⟨a, vs, rfl, ha, hd⟩ := dq_tup hv
        exact ⟨a, rfl, ⟨vs, ex_t S'.ex ha⟩, q _ G' H' eg eh S' ⟨a, vs, rfl, ha, hd⟩⟩)
      (fun G Jt H hJ e => by
        obtain ⟨a, vs, rfl, ha, hd⟩ := hJ
        exact ⟨vs, ex_t e ha, by rw [hd.length, List.length_map]; exact Nat.le_refl _⟩)
      (fun G Jt H i hJ e hi => by
        obtain ⟨a, vs, rfl, ha, hd⟩ := hJ
        exact ⟨vs, vs[i]'(by rw [hd.length, List.length_map]; exact hi), ex_t e ha, List.getElem?_eq_getElem _⟩)
      (fun G Jt H i x H1 hJ e hi y => by
        obtain ⟨a, vs, rfl, ha, hd⟩ := hJ
        obtain ⟨rfl, y⟩ := y
        have hx := y vs (ex_t e ha)
        obtain ⟨d, e1, e2⟩ := hd.get' hx
        refine ⟨rfl, ?_⟩
        rw [List.getElem?_map, List.getElem?_eq_getElem hi] at e1
        cases e1
        rw [List.getD_eq_getElem?_getD, List.getElem?_eq_getElem hi]
        exact e2) hb)
theorem je_allL [Cold C] {α : Type} {xs : List α} (g : α → D) (z : α) (j : Nat) (b : Nat → Bool) (hk : 1 ≤ C.k) (he : JE C ls e (.lst (xs.map g)))
    (hb : ∀ i, i < xs.length → JE (C.gen scope hk) (ls.set j (.val (g (xs.getD i z)))) elt (.bl (b i))) (TB : ∀ i, ∃ c, GxR.TabB (C.X i).base (C.X i).mg c P ∧ (C.X i).env.code = .ref c) (hT : C.E.T P) (S : ∀ i, GOk C.N (C.X i).env.scope scope x j) (hj : ∀ l, ls[j]? = some l → l.keeps = true := by intro _ h; cases h; rfl)
    (hm : NoG C "all" := by assumption) (hg : ∀ j, Gl (C.X j) "all" := by intro _; rfl) (hfs : ∀ i v, genFold e (C.X i).env v = pure v := by intro _ _; rfl)
    (hst : ∀ i, starEach [.GeneratorExp elt [⟨.Name x px, e, [], 0⟩] scope gpos] (C.X i).env = (false, eval (.GeneratorExp elt [⟨.Name x px, e, [], 0⟩] scope gpos) (C.X i).env) :: starEach [] (C.X i).env := by intro _; rfl) :
    JE C ls (.Call (.Name "all" p1) [.GeneratorExp elt [⟨.Name x px, e, [], 0⟩] scope gpos] [] pos) (.bl ((List.range xs.length).all b)) :=
  je_of (t := tWalkG List.all P (iList C.K (eAny C e)) j (eAny (C.gen scope hk) elt))
    (fun i => by
      obtain ⟨c, tb, hc⟩ := TB i
      exact pe_allG (C.cold i Cold.h) (by rw [C.hN]; exact C.nd) (hg i) (noG hm i) tb hc (by rw [C.hN]; exact S i) (kx (p := fun K => PI (C.X i) _ e (iList K (eAny C e))) i (pi_list (pe_any C e i))) (fun s4 H4 code fp => pe_any (C.gen scope hk) elt (i, s4, H4, code, fp)) (hfs i) (hst i))
    (ev_gen j xs.length (fun i => g (xs.getD i z)) b (fun G Jt => ∃ a vs, Jt = Itl C.K a ∧ G a = some (.lst vs) ∧ DqAll C.K G vs (xs.map g)) hj hT
      (fun F G H σ S xx R q => he F G H σ S xx _ fun v G' H' eg eh S' hv => by
        obtain ⟨a, vs, rfl, ha, hd⟩ := dq_lst hv
        exact ⟨a, rfl, ⟨vs, SqL.of (S'.ex _ _ ha)⟩, q _ G' H' eg eh S' ⟨a, vs, rfl, ha, hd⟩⟩)
      (fun G Jt H hJ e => by
        obtain ⟨a, vs, rfl, ha, hd⟩ := hJ
        exact ⟨vs, SqL.of (e _ _ ha), by rw [hd.length, List.length_map]; exact Nat.le_refl _⟩)
      (fun G Jt H i hJ e hi => by
        obtain ⟨a, vs, rfl, ha, hd⟩ := hJ
        exact ⟨vs, vs[i]'(by rw [hd.length, List.length_map]; exact hi), SqL.of (e _ _ ha), List.getElem?_eq_getElem _⟩)
      (fun G Jt H i x H1 hJ e hi y => by
        obtain ⟨a, vs, rfl, ha, hd⟩ := hJ
        obtain ⟨rfl, y⟩ := y
        have hx := y vs (SqL.of (e _ _ ha))
        obtain ⟨d, e1, e2⟩ := hd.get' hx
        refine ⟨rfl, ?_⟩
        rw [List.getElem?_map, List.getElem?_eq_getElem hi] at e1
        cases e1
        rw [List.getD_eq_getElem?_getD, List.getElem?_eq_getElem hi]
        exact e2) hb)
theorem je_allR [Cold C] {n : Int} (j : Nat) (b : Nat → Bool) (hk : 1 ≤ C.k) (he : JE C ls e (.int n)) (hn : n < 2 ^ 61)
    (hb : ∀ i, i < n.toNat → JE (C.gen scope hk) (ls.set j (.val (.int i))) elt (.bl (b i))) (TB : ∀ i, ∃ c, GxR.TabB (C.X i).base (C.X i).mg c P ∧ (C.X i).env.code = .ref c) (hT : C.E.T P) (S : ∀ i, GOk C.N (C.X i).env.scope scope x j) (hj : ∀ l, ls[j]? = some l → l.keeps = true := by intro _ h; cases h; rfl)
    (hm : NoG C "all" := by assumption) (hg : ∀ j, Gl (C.X j) "all" := by intro _; rfl) (hmr : NoG C "range" := by assumption) (hgr : ∀ j, Gl (C.X j) "range" := by intro _; rfl) (hs : NS e := by intro _ _; rfl) (hfs : ∀ i v, genFold (.Call (.Name "range" p2) [e] [] p3) (C.X i).env v = pure v := by intro _ _; rfl)
    (hst : ∀ i, starEach [.GeneratorExp elt [⟨.Name x px, .Call (.Name "range" p2) [e] [] p3, [], 0⟩] scope gpos] (C.X i).env = (false, eval (.GeneratorExp elt [⟨.Name x px, .Call (.Name "range" p2) [e] [] p3, [], 0⟩] scope gpos) (C.X i).env) :: starEach [] (C.X i).env := by intro _; rfl) (h62 : -(2 ^ 62) ≤ n := by omega) :
    JE C ls (.Call (.Name "all" p1) [.GeneratorExp elt [⟨.Name x px, .Call (.Name "range" p2) [e] [] p3, [], 0⟩] scope gpos] [] pos) (.bl ((List.range n.toNat).all b)) :=
  je_of (t := tWalkG List.all P (iRng1 (tCons (eAny C e) tNil)) j (eAny (C.gen scope hk) elt))
    (fun i => by
      obtain ⟨c, tb, hc⟩ := TB i
      exact pe_allG (C.cold i Cold.h) (by rw [C.hN]; exact C.nd) (hg i) (noG hm i) tb hc (by rw [C.hN]; exact S i) (range' i (hgr i) hmr hs) (fun s4 H4 code fp => pe_any (C.gen scope hk) elt (i, s4, H4, code, fp)) (hfs i) (hst i))
    (ev_gen j n.toNat (fun i => .int i) b (fun _ Jt => Jt = Itr 0 n.toNat) hj hT
      (fun F G H σ S xx R q => he F G H σ S xx _ fun v G' H' eg eh S' hv => ⟨n, by rw [dq_int hv], h62, by omega, q _ G' H' eg eh S' rfl⟩)
      (fun G Jt H hJ e => by subst hJ; exact Nat.le_refl _) (fun G Jt H i hJ e hi => by subst hJ; exact hi)
      (fun G Jt H i x H1 hJ e hi y => by
        subst hJ
        obtain ⟨rfl, rfl⟩ := y
        have e0 : (0 : Int) + (i : Int) = (i : Int) := Int.zero_add _
        exact ⟨rfl, by rw [e0]; exact .int _⟩) hb)
theorem je_anyT [Cold C] {α : Type} {xs : List α} (g : α → D) (z : α) (j : Nat) (b : Nat → Bool) (hk : 1 ≤ C.k) (he : JE C ls e (.tup (xs.map g)))
    (hb : ∀ i, i < xs.length → JE (C.gen scope hk) (ls.set j (.val (g (xs.getD i z)))) elt (.bl (b i))) (TB : ∀ i, ∃ c, GxR.TabB (C.X i).base (C.X i).mg c P ∧ (C.X i).env.code = .ref c) (hT : C.E.T P) (S : ∀ i, GOk C.N (C.X i).env.scope scope x j) (hj : ∀ l, ls[j]? = some l → l.keeps = true := by intro _ h; cases h; rfl)
    (hm : NoG C "any" := by assumption) (hg : ∀ j, Gl (C.X j) "any" := by intro _; rfl) (hfs : ∀ i v, genFold e (C.X i).env v = pure v := by intro _ _; rfl)
    (hst : ∀ i, starEach [.GeneratorExp elt [⟨.Name x px, e, [], 0⟩] scope gpos] (C.X i).env = (false, eval (.GeneratorExp elt [⟨.Name x px, e, [], 0⟩] scope gpos) (C.X i).env) :: starEach [] (C.X i).env := by intro _; rfl) :
    JE C ls (.Call (.Name "any" p1) [.GeneratorExp elt [⟨.Name x px, e, [], 0⟩] scope gpos] [] pos) (.bl ((List.range xs.length).any b)) :=
  je_of (t := tWalkG List.any P (iTup C.K (eAny C e)) j (eAny (C.gen scope hk) elt))
    (fun i => by
      obtain ⟨c, tb, hc⟩ := TB i
      exact pe_anyG (C.cold i Cold.h) (by rw [C.hN]; exact C.nd) (hg i) (noG hm i) tb hc (by rw [C.hN]; exact S i) (kx (p := fun K => PI (C.X i) _ e (iTup K (eAny C e))) i (pi_tup (pe_any C e i))) (fun s4 H4 code fp => pe_any (C.gen scope hk) elt (i, s4, H4, code, fp)) (hfs i) (hst i))
    (ev_gen j xs.length (fun i => g (xs.getD i z)) b (fun G Jt => ∃ a vs, Jt = Itt C.K a ∧ SqT C.K G a vs ∧ DqAll C.K G vs (xs.map g)) hj hT
      (fun F G H σ S xx R q => he F G H σ S xx _ fun v G' H' eg eh S' hv => by
        obtain ⟨a, vs, rfl, ha, hd⟩ := dq_tup hv
        exact ⟨a, rfl, ⟨vs, ex_t S'.ex ha⟩, q _ G' H' eg eh S' ⟨a, vs, rfl, ha, hd⟩⟩)
      (fun G Jt H hJ e => by
        obtain ⟨a, vs, rfl, ha, hd⟩ := hJ
        exact ⟨vs, ex_t e ha, by rw [hd.length, List.length_map]; exact Nat.le_refl _⟩)
      (fun G Jt H i hJ e hi => by
        obtain ⟨a, vs, rfl, ha, hd⟩ := hJ
        exact ⟨vs, vs[i]'(by rw [hd.length, List.length_map]; exact hi), ex_t e ha, List.getElem?_eq_getElem _⟩)
      (fun G Jt H i x H1 hJ e hi y => by
        obtain ⟨a, vs, rfl, ha, hd⟩ := hJ
        obtain ⟨rfl, y⟩ := y
        have hx := y vs (ex_t e ha)
        obtain ⟨d, e1, e2⟩ := hd.get' hx
        refine ⟨rfl, ?_⟩
        rw [List.getElem?_map, List.getElem?_eq_getElem hi] at e1
        cases e1
        rw [List.getD_eq_getElem?_getD, List.getElem?_eq_getElem hi]
        exact e2) hb)
theorem je_anyL [Cold C] {α : Type} {xs : List α} (g : α → D) (z : α) (j : Nat) (b : Nat → Bool) (hk : 1 ≤ C.k) (he : JE C ls e (.lst (xs.map g)))
    (hb : ∀ i, i < xs.length → JE (C.gen scope hk) (ls.set j (.val (g (xs.getD i z)))) elt (.bl (b i))) (TB : ∀ i, ∃ c, GxR.TabB (C.X i).base (C.X i).mg c P ∧ (C.X i).env.code = .ref c) (hT : C.E.T P) (S : ∀ i, GOk C.N (C.X i).env.scope scope x j) (hj : ∀ l, ls[j]? = some l → l.keeps = true := by intro _ h; cases h; rfl)
    (hm : NoG C "any" := by assumption) (hg : ∀ j, Gl (C.X j) "any" := by intro _; rfl) (hfs : ∀ i v, genFold e (C.X i).env v = pure v := by intro _ _; rfl)
    (hst : ∀ i, starEach [.GeneratorExp elt [⟨.Name x px, e, [], 0⟩] scope gpos] (C.X i).env = (false, eval (.GeneratorExp elt [⟨.Name x px, e, [], 0⟩] scope gpos) (C.X i).env) :: starEach [] (C.X i).env := by intro _; rfl) :
    JE C ls (.Call (.Name "any" p1) [.GeneratorExp elt [⟨.Name x px, e, [], 0⟩] scope gpos] [] pos) (.bl ((List.range xs.length).any b)) :=
  je_of (t := tWalkG List.any P (iList C.K (eAny C e)) j (eAny (C.gen scope hk) elt))
    (fun i => by
      obtain ⟨c, tb, hc⟩ := TB i
      exact pe_anyG (C.cold i Cold.h) (by rw [C.hN]; exact C.nd) (hg i) (noG hm i) tb hc (by rw [C.hN]; exact S i) (kx (p := fun K => PI (C.X i) _ e (iList K (eAny C e))) i (pi_list (pe_any C e i))) (fun s4 H4 code fp => pe_any (C.gen scope hk) elt (i, s4, H4, code, fp)) (hfs i) (hst i))
    (ev_gen j xs.length (fun i => g (xs.getD i z)) b (fun G Jt => ∃ a vs, Jt = Itl C.K a ∧ G a = some (.lst vs) ∧ DqAll C.K G vs (xs.map g)) hj hT
      (fun F G H σ S xx R q => he F G H σ S xx _ fun v G' H' eg eh S' hv => by
        obtain ⟨a, vs, rfl, ha, hd⟩ := dq_lst hv
        exact ⟨a, rfl, ⟨vs, SqL.of (S'.ex _ _ ha)⟩, q _ G' H' eg eh S' ⟨a, vs, rfl, ha, hd⟩⟩)
      (fun G Jt H hJ e => by
        obtain ⟨a, vs, rfl, ha, hd⟩ := hJ
        exact ⟨vs, SqL.of (e _ _ ha), by rw [hd.length, List.length_map]; exact Nat.le_refl _⟩)
      (fun G Jt H i hJ e hi => by
        obtain ⟨a, vs, rfl, ha, hd⟩ := hJ
        exact ⟨vs, vs[i]'(by rw [hd.length, List.length_map]; exact hi), SqL.of (e _ _ ha), List.getElem?_eq_getElem _⟩)
      (fun G Jt H i x H1 hJ e hi y => by
        obtain ⟨a, vs, rfl, ha, hd⟩ := hJ
        obtain ⟨rfl, y⟩ := y
        have hx := y vs (SqL.of (e _ _ ha))
        obtain ⟨d, e1, e2⟩ := hd.get' hx
        refine ⟨rfl, ?_⟩
        rw [List.getElem?_map, List.getElem?_eq_getElem hi] at e1
        cases e1
        rw [List.getD_eq_getElem?_getD, List.getElem?_eq_getElem hi]
        exact e2) hb)
theorem je_anyR [Cold C] {n : Int} (j : Nat) (b : Nat → Bool) (hk : 1 ≤ C.k) (he : JE C ls e (.int n)) (hn : n < 2 ^ 61)
    (hb : ∀ i, i < n.toNat → JE (C.gen scope hk) (ls.set j (.val (.int i))) elt (.bl (b i))) (TB : ∀ i, ∃ c, GxR.TabB (C.X i).base (C.X i).mg c P ∧ (C.X i).env.code = .ref c) (hT : C.E.T P) (S : ∀ i, GOk C.N (C.X i).env.scope scope x j) (hj : ∀ l, ls[j]? = some l → l.keeps = true := by intro _ h; cases h; rfl)
    (hm : NoG C "any" := by assumption) (hg : ∀ j, Gl (C.X j) "any" := by intro _; rfl) (hmr : NoG C "range" := by assumption) (hgr : ∀ j, Gl (C.X j) "range" := by intro _; rfl) (hs : NS e := by intro _ _; rfl) (hfs : ∀ i v, genFold (.Call (.Name "range" p2) [e] [] p3) (C.X i).env v = pure v := by intro _ _; rfl)
    (hst : ∀ i, starEach [.GeneratorExp elt [⟨.Name x px, .Call (.Name "range" p2) [e] [] p3, [], 0⟩] scope gpos] (C.X i).env = (false, eval (.GeneratorExp elt [⟨.Name x px, .Call (.Name "range" p2) [e] [] p3, [], 0⟩] scope gpos) (C.X i).env) :: starEach [] (C.X i).env := by intro _; rfl) (h62 : -(2 ^ 62) ≤ n := by omega) :
    JE C ls (.Call (.Name "any" p1) [.GeneratorExp elt [⟨.Name x px, .Call (.Name "range" p2) [e] [] p3, [], 0⟩] scope gpos] [] pos) (.bl ((List.range n.toNat).any b)) :=
  je_of (t := tWalkG List.any P (iRng1 (tCons (eAny C e) tNil)) j (eAny (C.gen scope hk) elt))
    (fun i => by
      obtain ⟨c, tb, hc⟩ := TB i
      exact pe_anyG (C.cold i Cold.h) (by rw [C.hN]; exact C.nd) (hg i) (noG hm i) tb hc (by rw [C.hN]; exact S i) (range' i (hgr i) hmr hs) (fun s4 H4 code fp => pe_any (C.gen scope hk) elt (i, s4, H4, code, fp)) (hfs i) (hst i))
    (ev_gen j n.toNat (fun i => .int i) b (fun _ Jt => Jt = Itr 0 n.toNat) hj hT
      (fun F G H σ S xx R q => he F G H σ S xx _ fun v G' H' eg eh S' hv => ⟨n, by rw [dq_int hv], h62, by omega, q _ G' H' eg eh S' rfl⟩)
      (fun G Jt H hJ e => by subst hJ; exact Nat.le_refl _) (fun G Jt H i hJ e hi => by subst hJ; exact hi)
      (fun G Jt H i x H1 hJ e hi y => by
        subst hJ
        obtain ⟨rfl, rfl⟩ := y
        have e0 : (0 : Int) + (i : Int) = (i : Int) := Int.zero_add _
        exact ⟨rfl, by rw [e0]; exact .int _⟩) hb)
end
end Qp

/-! Q14: defs that hold generator expressions; the end with their tables. -/
namespace Qp
open PySem PySem.Spec PyProof.Rows L2
/-- a def, its code object at c -/
structure FunC (K : Fg) (x qual : Str) (st : Stmt) (f c : Addr) (fd : FuncData) : Prop where
  ex : ∃ (oc : Value) (od : Option Addr) (kV doc pm : Value) (an : Option Addr) (ct : Value) (osl : Array (Option Value)),
    fd = PySem.W.fnOf x qual (defArgs st) (defBody st) (defScope st) .none kV doc pm an (.ref c) ct ∧ K.lookup f = some ⟨oc, od, .func fd, osl⟩ ∧ PySem.W.codeIn K (.ref c) qual = true
  kp : PySem.W.keepIn K (.ref f) = true
theorem FunC.fun {K : Fg} {x qual : Str} {st : Stmt} {f c : Addr} {fd : FuncData} (F : FunC K x qual st f c fd) : Fun K x qual st f fd := by
  obtain ⟨oc, od, kV, doc, pm, an, ct, osl, h1, h2, h3⟩ := F.ex
  exact ⟨⟨oc, od, kV, doc, pm, an, .ref c, ct, osl, h1, h2, h3⟩, F.kp⟩
section
variable {P : Program} {w : World} {K : Fg} {mg : Str → Option Value} {base : Heap}
theorem fn_okC {x qual : Str} {st : Stmt} {f c : Addr} {fd : FuncData} {N ps : List Str} {k : Nat} {R : Rel} {T : Addr → Prop} (F : FunC K x qual st f c fd) (S : FnScope N ps (defScope st)) (len : ∀ ds d, R ds d → ds.length = ps.length)
    (body : ∀ (A : Around) (outer : List Env) (s : Shared) (H : Hp) (E : XK) (hr : Room k (A.deeper (envOfC qual (defScope st) s.heap.objs.size f (.ref c)))) (ds : List D) (Po : D → Prop), R ds Po →
      JB (Cs.of P w K mg base S.nd qual (defScope st) f (.ref c) A outer s H E hr T) (locs N.length ds) (defBody st) (RetX Po)) : FnOk P w K mg base CX0 (k + 1) f fd ps (spD K R T) := by
  obtain ⟨oc, od, kV, doc, pm, an, ct, osl, rfl, lk, hcd⟩ := F.ex
  have len' : ∀ vs H Q E, spD K R T vs H Q E → vs.length = ps.length := fun vs H Q E h => by
    obtain ⟨G, ds, d, _, _, hv, hR, _⟩ := h
    rw [hv.length]
    exact len ds d hR
  refine fn_of lk hcd S len' fun A outer s H vs Q E hr h => ?_
  have key : ∃ t, PSs (cxOf CX0 P w K mg base N qual (defScope st) f (.ref c) A outer s H E).nox (defBody st) t ∧ t { nx := fun _ H' => Q .non H', rt := Q } (L2.start N vs) H := by
    obtain ⟨G, ds, Po, eg, tb, hv, hR, q⟩ := h
    refine ⟨_, pb_any (Cs.of P w K mg base S.nd qual (defScope st) f (.ref c) A outer s H E hr T) (defBody st) (), ?_⟩
    have fin : ∀ G' H' v d', Ex G G' → Kp (fun a => NT H a ∧ G a = none) H H' → (∀ a, (NT H a ∧ G a = none) → G' a = none) → Ex G' H' → Dq K G' v d' → Po d' → Q v H' := by
      intro G' H' v d' eg' kp fg e hv' hd
      refine q d' hd G' H' v eg' e (fun a o ha => ?_) (fun a h1 h2 => fg a ⟨h1, h2⟩) hv'
      by_cases nt : NoTb o
      · refine .of ?_
        cases hg : G a with
        | none => rw [kp.1 a ⟨⟨o, ha, nt⟩, hg⟩]; exact ha
        | some u =>
          have h2 := eg a u hg
          rw [ha] at h2
          have nu : NoTb u := fun ps z => by
            subst z
            obtain ⟨m, z, _⟩ := h2
            exact nt _ (Option.some.inj z)
          obtain rfl : o = u := Option.some.inj (h2.at nu)
          exact (e a _ ((eg' a _ hg).at nt)).at nt
      · cases o <;> first | exact kp.2 a _ ha | exact absurd (fun _ z => nomatch z) nt
    refine body A outer s H E hr ds Po hR (fun a => NT H a ∧ G a = none) G H (L2.start N vs) _ (sat_start eg hv) ⟨fun G' H' σ' ls' eg' kp S' r => ?_, fun G' H' v d' eg' kp fg e hv' r => fin G' H' v d' eg' kp fg e hv' r, fun _ _ _ _ _ _ _ z => False.elim z, fun _ _ _ _ _ _ _ z => False.elim z, tb, fun _ z => (List.not_mem_nil z).elim, fun _ _ _ _ _ _ _ _ _ _ _ _ _ z => False.elim z⟩
    exact fin G' H' .non .non eg' kp (fun a fa => (S'.fo a fa).1) S'.ex .non r
  obtain ⟨t, h1, q⟩ := key
  exact ⟨t, h1.nox, q⟩
theorem fn_okCd {x qual : Str} {st : Stmt} {f c : Addr} {fd : FuncData} {N ps : List Str} {k : Nat} {r : List D → D → Prop} {T : Addr → Prop} (F : FunC K x qual st f c fd) (S : FnScope N ps (defScope st)) (len : ∀ ds d, r ds d → ds.length = ps.length)
    (body : ∀ (A : Around) (outer : List Env) (s : Shared) (H : Hp) (E : XK) (hr : Room k (A.deeper (envOfC qual (defScope st) s.heap.objs.size f (.ref c)))) (ds : List D) (d : D), r ds d →
      JB (Cs.of P w K mg base S.nd qual (defScope st) f (.ref c) A outer s H E hr T) (locs N.length ds) (defBody st) (Ret d)) : FnOk P w K mg base CX0 (k + 1) f fd ps (spD K (det r) T) :=
  fn_okC F S (fun ds Po ⟨d, h, _⟩ => len ds d h) fun A outer s H E hr ds Po ⟨d, h, e⟩ => by
    subst e
    exact jb_post (body A outer s H E hr ds d h) (fun _ z => Eq.symm z) (fun _ z => z) (fun _ z => z) (fun _ z => z)
end
/-- a generator expression's scope, by the kernel's look -/
theorem gok_by {N : List Str} {sc scope : Scope} {x : Str} {j : Nat} (h : gokC N sc scope x j = true) : GOk N sc scope x j := by
  unfold gokC at h
  simp only [Bool.and_eq_true, beq_iff_eq, Bool.not_eq_true', List.all_eq_true, bne_iff_ne, ne_eq, Bool.or_eq_true] at h
  obtain ⟨⟨⟨⟨⟨⟨⟨⟨h1, h2⟩, h3⟩, h4⟩, h5⟩, h6⟩, h7⟩, h8⟩, h9⟩ := h
  refine ⟨h1, h2, h3, h4, h5, fun y hy e => ?_, fun z => ?_, h8, fun y hy e => ?_⟩
  · rcases h6 y hy with (q | q) | q
    · exact absurd e q
    · exact .inl q
    · exact .inr q
  · have := h7 _ z
    simp at this
  · rcases h9 y hy with (q | q) | q
    · exact absurd e q
    · exact .inl q
    · exact .inr q
section
variable {C : Cs} {ls : List Loc} {a b c e : Expr} {d d1 d2 d3 : D} {pos : Pos} {x : Str}
theorem ev_chain {K : Fg} {E : Xw} {r r' : R2} {ta tb tc : TE} {k l : Bool} (ha : Ev K E ta ls d1) (hb : Ev K E tb ls d2) (hc : k = true → Ev K E tc ls d3) (h1 : ∀ G H x y (Q : VK), Dq K G x d1 → Dq K G y d2 → Q (.bl k) H → r x y H Q) (h2 : ∀ G H x y (Q : VK), Dq K G x d2 → Dq K G y d3 → Q (.bl l) H → r' x y H Q) :
    Ev K E (tChain r r' ta tb tc) ls (.bl (k && l)) := fun F G H σ S xx Q q => ha F G H σ S xx _ fun v G1 H1 eg1 eh1 S1 hv => hb F G1 H1 σ S1 (xx.step eg1 eh1) _ fun u G2 H2 eg2 eh2 S2 hu => h1 G2 H2 v u _ (dq_mono eg2 hv) hu ⟨k, rfl, by
  cases k with
  | false => exact q _ G2 H2 (eg1.trans eg2) (eh1.trans eh2) S2 (.bl _)
  | true => exact hc rfl F G2 H2 σ S2 ((xx.step eg1 eh1).step eg2 eh2) _ fun z G3 H3 eg3 eh3 S3 hz => h2 G3 H3 u z _ (dq_mono eg3 hu) hz (q _ G3 H3 ((eg1.trans eg2).trans eg3) ((eh1.trans eh2).trans eh3) S3 (.bl _))⟩
theorem je_leLt {i j k : Int} (ha : JE C ls a (.int i)) (hb : JE C ls b (.int j)) (hc : JE C ls c (.int k)) (hmk : lastMarks [.LtE, .Lt] [b, c] = false := by rfl) : JE C ls (.Compare a [.LtE, .Lt] [b, c] pos) (.bl (decide (i ≤ j) && decide (j < k))) :=
  je_of (fun m => pe_chain op_le op_lt (pe_any C a m) (pe_any C b m) (pe_any C c m) hmk) (ev_chain ha hb (fun _ => hc) (fun G H x y Q hx hy q => ⟨_, _, dq_int hx, dq_int hy, q⟩) (fun G H x y Q hx hy q => ⟨_, _, dq_int hx, dq_int hy, q⟩))
theorem je_leLe {i j k : Int} (ha : JE C ls a (.int i)) (hb : JE C ls b (.int j)) (hc : JE C ls c (.int k)) (hmk : lastMarks [.LtE, .LtE] [b, c] = false := by rfl) : JE C ls (.Compare a [.LtE, .LtE] [b, c] pos) (.bl (decide (i ≤ j) && decide (j ≤ k))) :=
  je_of (fun m => pe_chain op_le op_le (pe_any C a m) (pe_any C b m) (pe_any C c m) hmk) (ev_chain ha hb (fun _ => hc) (fun G H x y Q hx hy q => ⟨_, _, dq_int hx, dq_int hy, q⟩) (fun G H x y Q hx hy q => ⟨_, _, dq_int hx, dq_int hy, q⟩))
/-- a module's constant -/
theorem je_globI {i : Int} {t : Tok} (hm : C.mg x = some (.int i t)) (hg : ∀ j, Gl (C.X j) x := by intro _; rfl) (hd : (x == ("__debug__" : Str)) = false := by decide) : JE C ls (.Name x pos) (.int i) :=
  je_of (fun j => pe_glob (v := .int i) (u := .int i t) (hg j) (by rw [C.hmg]; exact hm) ⟨_, rfl⟩ hd) (ev_c fun _ => .int i)
theorem je_globT {ad : Addr} {ds : List D} {vs : List V} (hm : C.mg x = some (.ref ad)) (hK : ∀ G, SqT C.K G ad vs) (hv : ∀ G, DqAll C.K G vs ds) (hg : ∀ j, Gl (C.X j) x := by intro _; rfl) (hd : (x == ("__debug__" : Str)) = false := by decide) : JE C ls (.Name x pos) (.tup ds) :=
  je_of (fun j => pe_glob (v := .ref ad) (hg j) (by rw [C.hmg]; exact hm) rfl hd) (ev_c fun G => .tup (hK G) (hv G))
theorem inV_ints (i : Int) : ∀ ns : List Int, inV (.int i) (ns.map V.int) = decide (i ∈ ns)
  | [] => by simp [inV]
  | n :: r => by
    have ih := inV_ints i r
    unfold inV at ih ⊢
    rw [List.map_cons, List.any_cons, ih]
    by_cases h : n = i
    · subst h
      simp [eqV]
    · have h' : ¬ i = n := fun z => h z.symm
      simp [eqV, h, h']
theorem flat_ints (ns : List Int) : (ns.map V.int).all flatV = true := by
  rw [List.all_map]
  exact List.all_eq_true.mpr fun _ _ => rfl
theorem je_inT {i : Int} {ns : List Int} (ha : JE C ls a (.int i)) (hb : JE C ls b (.tup (iL ns))) (hmk : behindInMarks .In b = false := by rfl) : JE C ls (.Compare a [.In] [b] pos) (.bl (decide (i ∈ ns))) :=
  je_of (fun j => pe_cmpR (kx (p := fun K => OpR (C.X j) (compareOp .In) (rIn K false)) j op_in_seq) (pe_any C a j) (pe_any C b j) hmk) (ev_op ha hb fun G H x y Q eg hx hy q => by
    obtain ⟨p, vs, rfl, hs, hv⟩ := dq_tup hy
    rw [dqAll_ints' hv] at hs
    rw [dq_int hx]
    refine ⟨p, _, rfl, .inr (ex_t eg hs), rfl, flat_ints ns, ?_⟩
    rw [if_neg Bool.false_ne_true, inV_ints]
    exact q _ (.bl _))
theorem je_notinT {i : Int} {ns : List Int} (ha : JE C ls a (.int i)) (hb : JE C ls b (.tup (iL ns))) (hmk : behindInMarks .NotIn b = false := by rfl) : JE C ls (.Compare a [.NotIn] [b] pos) (.bl (!decide (i ∈ ns))) :=
  je_of (fun j => pe_cmpR (kx (p := fun K => OpR (C.X j) (compareOp .NotIn) (rIn K true)) j op_notIn_seq) (pe_any C a j) (pe_any C b j) hmk) (ev_op ha hb fun G H x y Q eg hx hy q => by
    obtain ⟨p, vs, rfl, hs, hv⟩ := dq_tup hy
    rw [dqAll_ints' hv] at hs
    rw [dq_int hx]
    refine ⟨p, _, rfl, .inr (ex_t eg hs), rfl, flat_ints ns, ?_⟩
    rw [if_pos rfl, inV_ints]
    exact q _ (.bl _))
theorem jt_notinT {i : Int} {ns : List Int} (ha : JE C ls a (.int i)) (hb : JE C ls b (.tup (iL ns))) (hmk : behindInMarks .NotIn b = false := by rfl) : JT C ls (.Compare a [.NotIn] [b] pos) (!decide (i ∈ ns)) :=
  jt_of (fun j => pt_cmpR (kx (p := fun K => OpR (C.X j) (compareOp .NotIn) (rIn K true)) j op_notIn_seq) (pe_any C a j) (pe_any C b j) hmk) (evT_test (ev_op ha hb fun G H x y Q eg hx hy q => by
    obtain ⟨p, vs, rfl, hs, hv⟩ := dq_tup hy
    rw [dqAll_ints' hv] at hs
    rw [dq_int hx]
    refine ⟨p, _, rfl, .inr (ex_t eg hs), rfl, flat_ints ns, ?_⟩
    rw [if_pos rfl, inV_ints]
    exact q _ (.bl _)))
end
end Qp

/-! Q15: defs that may raise, their calls, raise. -/
namespace Qp
open PySem PySem.Spec PyProof.Rows L2
abbrev RelX := List D → (D → Prop) → (Addr → List (Str × D) → Prop) → Prop
/-- to an answer for which Po holds, or an exception of a class with fields for which Px holds -/
def spX (K : Fg) (R : RelX) (T : Addr → Prop := fun _ => False) : Sp := fun vs H Q E => ∃ G ds Po Px, Ex G H ∧ (∀ P, T P → TabAt G P) ∧ DqAll K G vs ds ∧ R ds Po Px ∧
  (∀ d, Po d → ∀ G' H' v, Ex G G' → Ex G' H' → Ex H H' → (∀ a, NT H a → G a = none → G' a = none) → Dq K G' v d → Q v H') ∧
  ∀ C gs, Px C gs → ∀ G' H' dd fs, Ex G G' → Ex G' H' → Ex H H' → (∀ a, NT H a → G a = none → G' a = none) → G' dd = some (.xd fs) → FsOk K G' fs gs → E (.ref C) (some dd) H'
/-- one answer, or one exception -/
def detX (r : List D → Except (Addr × List (Str × D)) D → Prop) : RelX := fun ds Po Px => ∃ o, r ds o ∧ (Po = fun d => o = .ok d) ∧ Px = fun C gs => o = .error (C, gs)
def Cs.ofX (P : Program) (w : World) (K : Fg) (mg : Str → Option Value) (base : Heap) {N : List Str} (nd : N.Nodup) (qual : Str) (scope : Scope) (f : Addr) (cdv : Value) (A : Around) (outer : List Env) (s : Shared) (H : Hp) (E : XK) {k : Nat}
    (hr : Room k (A.deeper (envOfC qual scope s.heap.objs.size f cdv))) (Px : Addr → List (Str × D) → Prop) (T : Addr → Prop := fun _ => False) : Cs where
  ι := Unit
  X := fun _ => cxOf (L2N.CX P w) P w K mg base N qual scope f cdv A outer s H E
  P := P
  w := w
  K := K
  mg := mg
  base := base
  N := N
  k := k
  hP := fun _ => rfl
  hw := fun _ => rfl
  hK := fun _ => rfl
  hmg := fun _ => rfl
  hbase := fun _ => rfl
  hN := fun _ => rfl
  nd := nd
  calm := fun _ _ => rfl
  cold := fun _ _ => hr
  hotc := fun _ z => Bool.noConfusion z
  E := ⟨fun cls d _ H' => E cls d H', fun _ C gs => Px C gs, T, []⟩
  takes := fun _ => L2N.takes_of rfl rfl rfl rfl
instance {P : Program} {w : World} {K : Fg} {mg : Str → Option Value} {base : Heap} {N : List Str} {nd : N.Nodup} {qual : Str} {scope : Scope} {f : Addr} {cdv : Value} {A : Around} {outer : List Env} {s : Shared} {H : Hp} {E : XK} {k : Nat} {hr : Room k (A.deeper (envOfC qual scope s.heap.objs.size f cdv))} {Px : Addr → List (Str × D) → Prop} {T : Addr → Prop} :
    Cold (Cs.ofX P w K mg base nd qual scope f cdv A outer s H E hr Px T) := ⟨rfl⟩
theorem ex_of_kp {G H G' H' : Hp} (eg : Ex G H) (eg' : Ex G G') (kp : Kp (fun a => NT H a ∧ G a = none) H H') (e : Ex G' H') : Ex H H' := fun a o ha => by
  by_cases nt : NoTb o
  · refine .of ?_
    cases hg : G a with
    | none => exact (kp.1 a ⟨⟨o, ha, nt⟩, hg⟩).trans ha
    | some u =>
      have h2 := eg a u hg
      rw [ha] at h2
      have nu : NoTb u := fun ps z => by
        subst z
        obtain ⟨m, z, _⟩ := h2
        exact nt _ (Option.some.inj z)
      obtain rfl : o = u := Option.some.inj (h2.at nu)
      exact (e a _ ((eg' a _ hg).at nt)).at nt
  · cases o <;> first | exact kp.2 a _ ha | exact absurd (fun _ z => nomatch z) nt
section
variable {P : Program} {w : World} {K : Fg} {mg : Str → Option Value} {base : Heap}
theorem fn_okX {x qual : Str} {st : Stmt} {f : Addr} {fd : FuncData} {N ps : List Str} {k : Nat} {R : RelX} {T : Addr → Prop} (F : Fun K x qual st f fd) (S : FnScope N ps (defScope st)) (len : ∀ ds d p, R ds d p → ds.length = ps.length)
    (body : ∀ (cdv : Value) (A : Around) (outer : List Env) (s : Shared) (H : Hp) (E : XK) (hr : Room k (A.deeper (envOfC qual (defScope st) s.heap.objs.size f cdv))) (ds : List D) (Po : D → Prop) (Px : Addr → List (Str × D) → Prop), R ds Po Px →
      JB (Cs.ofX P w K mg base S.nd qual (defScope st) f cdv A outer s H E hr Px T) (locs N.length ds) (defBody st) (RetX Po)) : FnOk P w K mg base (L2N.CX P w) (k + 1) f fd ps (spX K R T) := by
  obtain ⟨oc, od, kV, doc, pm, an, cdv, ct, osl, rfl, lk, hcd⟩ := F.ex
  have len' : ∀ vs H Q E, spX K R T vs H Q E → vs.length = ps.length := fun vs H Q E h => by
    obtain ⟨G, ds, d, p, _, _, hv, hR, _⟩ := h
    rw [hv.length]
    exact len ds d p hR
  refine fn_of lk hcd S len' fun A outer s H vs Q E hr h => ?_
  obtain ⟨G, ds, Po, Px, eg, tb, hv, hR, q, qx⟩ := h
  refine ⟨_, pb_any (Cs.ofX P w K mg base S.nd qual (defScope st) f cdv A outer s H E hr Px T) (defBody st) (), ?_⟩
  have fin : ∀ G' H' v d', Ex G G' → Kp (fun a => NT H a ∧ G a = none) H H' → (∀ a, (NT H a ∧ G a = none) → G' a = none) → Ex G' H' → Dq K G' v d' → Po d' → Q v H' := fun G' H' v d' eg' kp fg e hv' hd =>
    q d' hd G' H' v eg' e (ex_of_kp eg eg' kp e) (fun a h1 h2 => fg a ⟨h1, h2⟩) hv'
  refine body cdv A outer s H E hr ds Po Px hR (fun a => NT H a ∧ G a = none) G H (L2.start N vs) _ (sat_start eg hv) ⟨fun G' H' σ' ls' eg' kp S' r => ?_, fun G' H' v d' eg' kp fg e hv' r => fin G' H' v d' eg' kp fg e hv' r, fun _ _ _ _ _ _ _ z => False.elim z, fun _ _ _ _ _ _ _ z => False.elim z, tb, fun _ z => (List.not_mem_nil z).elim, fun G' H' σ' ls' C dd fs gs eg' kp S' hd hf hp => ?_⟩
  · exact fin G' H' .non .non eg' kp (fun a fa => (S'.fo a fa).1) S'.ex .non r
  · exact qx C gs hp G' H' dd fs eg' S'.ex (ex_of_kp eg eg' kp S'.ex) (fun a h1 h2 => (S'.fo a ⟨h1, h2⟩).1) hd hf
end
/-- a def that may raise, as callers see it -/
structure FnX (P : Program) (w : World) (K : Fg) (mg : Str → Option Value) (base : Heap) (k : Nat) (x : Str) (R : RelX) (T : Addr → Prop := fun _ => False) : Prop where
  ex : ∃ f fd ps, FnOk P w K mg base (L2N.CX P w) k f fd ps (spX K R T) ∧ mg x = some (.ref f) ∧ PySem.W.keepIn K (.ref f) = true ∧ Binds K fd ps []
section
variable {C : Cs} {ls : List Loc} {e a : Expr} {d : D} {ds : List D} {p p2 pos pos2 : Pos} {x : Str} {k : Nat} {R : RelX} {Po : D → Prop} {Px : Addr → List (Str × D) → Prop} {P : Post} {rest : List Stmt}
theorem fnAtX {f : Addr} {fd : FuncData} {ps : List Str} {sp : Sp} (F : FnOk C.P C.w C.K C.mg C.base (L2N.CX C.P C.w) k f fd ps sp) (hk : k ≤ C.k) (j : C.ι) : FnOk (C.X j).prog (C.X j).w (C.X j).K (C.X j).mg (C.X j).base (L2N.CX (C.X j).prog (C.X j).w) C.k f fd ps sp := by
  rw [C.hP, C.hw, C.hK, C.hmg, C.hbase]
  exact F.mono hk
/-- a call that may raise: what it raises is let on -/
theorem jxr_call [Cold C] (F : FnX C.P C.w C.K C.mg C.base k x R C.E.T) {es : List Expr} (ha : JA C ls (e :: es) ds) (hR : R ds Po Px) (hX : ∀ Cl gs, Px Cl gs → C.E.xp ls Cl gs) (hk : k ≤ C.k := by exact Nat.le_of_ble_eq_true rfl) (hg : ∀ j, Gl (C.X j) x := by intro _; rfl) (hdb : (x == ("__debug__" : Str)) = false := by decide) :
    JX C ls (.Call (.Name x p) (e :: es) [] pos) Po := by
  obtain ⟨f, fd, ps, G, hm, kp, hb⟩ := F.ex
  refine fun F' G1 H1 σ S xx Q q => ⟨tCallS (spX C.K R C.E.T) (WE C.E.W) (aAny C (e :: es)), fun j => ?_, ha.ev F' G1 H1 σ S xx _ fun vs G2 H2 eg2 eh2 S2 hv => ?_⟩
  · exact pe_callS (fnAtX G hk j) (C.cold j Cold.h) (hg j) (by rw [C.hmg]; exact hm) (by rw [C.hK]; exact kp) (by rw [C.hK]; exact hb) (fun σ => L2N.passAt (C.takes j) σ) (pa_any C (e :: es) j) hdb (ha.ns e List.mem_cons_self _ _) (ns_any (fun y hy => ha.ns y (List.mem_cons_of_mem _ hy)) _ _)
  · have gr : ∀ G3 H3, Ex G2 G3 → Ex G3 H3 → Ex H2 H3 → (∀ a, NT H2 a → G2 a = none → G3 a = none) → Sat C.K F' G3 H3 σ ls := fun G3 H3 eg3 e3 eh3 n3 => S2.grow eg3 eh3 e3 fun a ha => by
      by_cases h2 : NT H2 a
      · exact Or.inl fun g => ha (n3 a h2 g)
      · exact Or.inr h2
    refine ⟨G2, ds, Po, Px, S2.ex, (xx.step eg2 eh2).tb, hv, hR, fun d hd G3 H3 v eg3 e3 eh3 n3 hv3 => q d v G3 H3 hd (eg2.trans eg3) (eh2.trans eh3) (gr G3 H3 eg3 e3 eh3 n3) hv3, fun Cl gs hp G3 H3 dd fs eg3 e3 eh3 n3 hd hf => ?_⟩
    exact xx.ex G3 H3 Cl dd fs gs (eg2.trans eg3) (eh2.trans eh3) (gr G3 H3 eg3 e3 eh3 n3) hd hf (hX Cl gs hp)
end
/-! ### raise -/
/-- what an own __init__ with the fields fl does: it keeps its arguments -/
def spI (Cl : Addr) (fl : List Str) : Sp := fun vs H Q _ => ∃ ob ys, vs = .ref ob :: ys ∧ ys.length = fl.length ∧ H ob = some (exo ob Cl none) ∧ ∀ dx, H dx = none → dx ≠ ob → Q .non (upd (upd H dx (exd dx (fl.zip ys).reverse)) ob (exo ob Cl (some dx)))
/-- what is known of an own exception class: its class object at Cl, its fields -/
structure ExcT (P : Program) (w : World) (K : Fg) (mg : Str → Option Value) (base : Heap) (x : Str) (Cl : Addr) (fl : List Str) : Prop where
  o : OexC K Cl
  g : mg x = some (.ref Cl)
  ini : ∃ fI fd ps, PySem.W.findIn K (.ref Cl) "__init__" = some (some (.ref fI)) ∧ PySem.W.typeIn K (.ref fI) = some (.type "function") ∧ Binds K fd ps [] ∧ FnOk P w K mg base CX0 1 fI fd ps (spI Cl fl)
section
variable {X : Cx} {x : Str} {Cl fI : Addr} {k : Nat} {fd : FuncData} {ps : List Str} {sp : Sp} {e : Expr} {es : List Expr} {ta : TA} {p pos : Pos}
theorem pmkN (o : OexC X.K Cl) (hi : PySem.W.findIn X.K (.ref Cl) "__init__" = some (some (.ref fI))) (ht : PySem.W.typeIn X.K (.ref fI) = some (.type "function")) (G : FnOk X.prog X.w X.K X.mg X.base CX0 k fI fd ps sp) (rm : Room (k + 1) X.A) (bd : Binds X.K fd ps []) (gl : Gl X x) (hm : X.mg x = some (.ref Cl))
    (pa : PA X (e :: es) ta) (hdb : (x == ("__debug__" : Str)) = false) (st1 : starEach (e :: es) X.env = (false, eval e X.env) :: starEach es X.env) (st2 : (backTo pos (starEach es X.env)).any (·.1) = false) : L2N.PMk X (.Call (.Name x p) (e :: es) [] pos) (tMkO Cl sp [] ta) := fun pins s σ H Q I h => by
  obtain ⟨z1, z2, z3, z4, z5, z6, z7, z8, z9, y1, y2, y3, y4, y5, y6, lk, rv⟩ := o.cls
  refine wpAny_Call_Name_kw (ld_glob I gl hm (PySem.W.callWith_K (h₀ := X.base) I.ok.mod.kin o.kC (thn (pa.run pos pins s σ H _ I h) fun us s1 ⟨vs, H1, I1, r1, len, q1⟩ => ⟨I1.kIn, ?_⟩) st1 st2) hdb)
  show wpAny _ _ (call (.ref Cl) us) _ _ _
  obtain ⟨hp, g, dr, tk, os⟩ := s1
  let ob : Addr := hp.objs.size + 1
  let hp2 : Heap := (hp.push (PySem.W.kdv_tup us)).push (PySem.HandSPX.excO Cl hp.objs.size)
  have lt : hp.objs.size ≤ ob := Nat.le_succ _
  have fresh : H1 ob = none := I1.hok.fresh lt
  have q2 := q1 ob fresh
  have kp : ∀ b o, hp.get? b = some o → hp2.get? b = some o := fun b o e => Heap.get?_push_of_some _ (Heap.get?_push_of_some _ e)
  have at2 : hp2.get? ob = some (PySem.HandSPX.excO Cl hp.objs.size) := by
    show ((hp.push (PySem.W.kdv_tup us)).push (PySem.HandSPX.excO Cl hp.objs.size)).get? (hp.objs.size + 1) = _
    heap_get
  have I2 : Inv X pins σ (upd H1 ob (exo ob Cl none)) ⟨hp2, g, dr, tk, os⟩ := I1.laid (t' := tk) kp lt (exo_ok at2)
  have r2 : Vals (V.ref ob :: (vs ++ [])) (Value.ref ob :: (us ++ [])) := .cons rfl (r1.append .nil)
  have n2 : (Value.ref ob :: us ++ []).length = ps.length := r2.length.symm.trans (G.len _ _ _ _ q2)
  have n3 : us.length ≤ sizeLine := by
    have := Paired.length r1
    rw [sizeLine_eq]
    omega
  have b2 := bd ⟨hp2, g, dr, tk, os⟩ (Value.ref ob :: us) I2.kIn n2
  rw [List.cons_append] at b2
  have run := G.run _ X.stack _ _ ⟨Value.ref ob :: us, []⟩ (Value.ref ob :: (us ++ [])) _ _ (fun _ _ _ => False) (rm.make Cl us []) (I2.env0.make Cl us []) b2 r2 q2
  refine wpAny_call (PySem.HandSPX.call_own F.excBase_ValueError (fun Y => PySem.HandSPX.refsVE_contains Y z5 rv) (I1.kIn _ _ lk) (PySem.W.looks_findIn I1.kIn hi) (fun self => PySem.W.bind_fn I1.kIn self ht) n3 (codeAny_mono run fun r s' hr => ?_))
  cases r with
  | error er => exact hr.elim
  | ok fl =>
    cases fl with
    | next => exact hr.elim
    | brk => exact hr.elim
    | cont => exact hr.elim
    | ret u =>
      obtain ⟨v, H2, os2, bare2, un2, hok2, rv2, rfl, d, fs, ea, ed, hd1, q3⟩ := hr
      obtain ⟨h2, g2, d2, t2, os'⟩ := s'
      obtain ⟨t0, G', J, kG, ge, hoe, na⟩ := mk_end0 (d2 := d2) (t2 := t2) I1 lt kp un2 hok2 os2 bare2 ea ed hd1
      exact ⟨rv2, ob, _, _, ⟨G', g2, d2, t2, os'⟩, _, .ref Cl, some d, rfl, J, kG, ge, hoe, ⟨rfl, rfl, fun vs e => by cases e; rfl⟩, rfl, rfl, na, rfl, bare2, raises_own o.exC o.tyC, q3⟩
end
theorem fs_app {K : Fg} {G : Hp} : ∀ {fs fs2 : List (Str × V)} {gs gs2 : List (Str × D)}, FsOk K G fs gs → FsOk K G fs2 gs2 → FsOk K G (fs ++ fs2) (gs ++ gs2)
  | _, _, _, _, .nil, b => b
  | _, _, _, _, .cons h r, b => .cons h (fs_app r b)
theorem fs_zip {K : Fg} {G : Hp} : ∀ {fl : List Str} {vs : List V} {ds : List D}, DqAll K G vs ds → FsOk K G (fl.zip vs).reverse (fl.zip ds).reverse
  | [], _, _, _ => .nil
  | f :: fl, _, _, .nil => by
    simp only [List.zip_nil_right, List.reverse_nil]
    exact .nil
  | f :: fl, _, _, .cons h r => by
    simp only [List.zip_cons_cons, List.reverse_cons]
    exact fs_app (fs_zip r) (.cons h .nil)
section
variable {C : Cs} {ls : List Loc} {e a : Expr} {es : List Expr} {d : D} {ds : List D} {p p2 pos pos2 : Pos} {x : Str} {Cl : Addr} {fl : List Str} {P : Post} {rest : List Stmt}
theorem js_raise [Cold C] (X : ExcT C.P C.w C.K C.mg C.base x Cl fl) (ha : JA C ls (e :: es) ds) (hX : C.E.xp ls Cl (fl.zip ds).reverse) (hn : ds.length = fl.length := by rfl) (hk : 2 ≤ C.k := by exact Nat.le_of_ble_eq_true rfl) (hg : ∀ j, Gl (C.X j) x := by intro _; rfl) (hdb : (x == ("__debug__" : Str)) = false := by decide)
    (hsm : fl.length ≤ 1000 := by exact Nat.le_of_ble_eq_true rfl) : JS C ls (.Raise (some (.Call (.Name x p) (e :: es) [] pos)) none pos2) P := by
  obtain ⟨fI, fd, ps, h1, h2, h3, h4⟩ := X.ini
  refine js_of (t := fun _ σ H => tMkO Cl (spI Cl fl) [] (aAny C (e :: es)) σ H fun cls d H' => C.E.W cls d σ H') (fun j => ?_) fun F G H σ D' S f => ha.ev F G H σ S (f.xok S) _ fun vs G1 H1 eg1 eh1 S1 hv => ?_
  · have hm := X.g
    have ho := X.o
    have e1 := C.hK j
    have e2 := C.hmg j
    rw [← e2] at hm
    rw [← e1] at ho h1 h2 h3
    have h4' : FnOk (C.X j).prog (C.X j).w (C.X j).K (C.X j).mg (C.X j).base CX0 1 fI fd ps (spI Cl fl) := by
      rw [C.hP, C.hw, C.hK, C.hmg, C.hbase]
      exact h4
    exact L2N.ps_raise (C.calm j Cold.h) (C.takes j) (pmkN ho h1 h2 h4' ((C.cold j Cold.h).mono hk) h3 (hg j) hm (pa_any C (e :: es) j) hdb (ha.ns e List.mem_cons_self _ _) (ns_any (fun y hy => ha.ns y (List.mem_cons_of_mem _ hy)) _ _))
  · have hl := hv.length
    refine ⟨by omega, fun ob hob => ⟨ob, vs, by rw [List.append_nil], by omega, upd_same, fun dx hdx hne => ?_⟩⟩
    rw [upd_ne hne] at hdx
    refine ⟨rfl, dx, (fl.zip vs).reverse, upd_same, by rw [upd_ne hne, upd_same], hdx, ?_⟩
    have eH : upd (del (upd (upd (upd H1 ob (exo ob Cl none)) dx (exd dx (fl.zip vs).reverse)) ob (exo ob Cl (some dx))) ob) dx (.xd (fl.zip vs).reverse) = upd H1 dx (.xd (fl.zip vs).reverse) := funext fun b => by
      by_cases e1 : b = dx
      · rw [e1, upd_same, upd_same]
      · rw [upd_ne e1, upd_ne e1]
        by_cases e2 : b = ob
        · rw [e2, del_same, hob]
        · rw [del_ne e2, upd_ne e2, upd_ne e1, upd_ne e2]
    rw [eH]
    have g := S1.ex.fresh hdx
    exact f.ex (upd G1 dx (.xd (fl.zip vs).reverse)) _ σ ls Cl dx _ _ (eg1.trans (Ex.new g)) (S.kp (eh1.trans (Ex.new hdx))) (S1.made hdx) upd_same (fs_zip (dqAll_mono (Ex.new g) hv)) hX
theorem jb_raise [Cold C] (X : ExcT C.P C.w C.K C.mg C.base x Cl fl) (ha : JA C ls (e :: es) ds) (hX : C.E.xp ls Cl (fl.zip ds).reverse) (hn : ds.length = fl.length := by rfl) (hk : 2 ≤ C.k := by exact Nat.le_of_ble_eq_true rfl) (hg : ∀ j, Gl (C.X j) x := by intro _; rfl) (hdb : (x == ("__debug__" : Str)) = false := by decide)
    (hsm : fl.length ≤ 1000 := by exact Nat.le_of_ble_eq_true rfl) : JB C ls (.Raise (some (.Call (.Name x p) (e :: es) [] pos)) none pos2 :: rest) P :=
  jb_cons (fun _ => False) (js_raise X ha hX hn hk hg hdb hsm) fun _ h => h.elim
end
end Qp

/-! Q16: try, except C as e. -/
namespace Qp
open PySem PySem.Spec PyProof.Rows L2
/-- a try's body over C, its wish E -/
structure TrIx (C : Cs) (E : Xw) where
  i : C.ι
  pn : List (Addr × Obj)
  xe : Value → Shared → Prop
  tk : L2N.Takes ((C.X i).tr pn xe) E.W
  owns : PassesOwn (model (C.X i).prog (C.X i).w) (C.X i).A (C.X i).env xe
def Cs.tr (C : Cs) [hc : Cold C] (E : Xw) : Cs where
  ι := TrIx C E
  X := fun q => (C.X q.i).tr q.pn q.xe
  P := C.P
  w := C.w
  K := C.K
  mg := C.mg
  base := C.base
  N := C.N
  k := C.k
  hP := fun q => C.hP q.i
  hw := fun q => C.hw q.i
  hK := fun q => C.hK q.i
  hmg := fun q => C.hmg q.i
  hbase := fun q => C.hbase q.i
  hN := fun q => C.hN q.i
  nd := C.nd
  calm := fun q _ => C.calm q.i hc.h
  cold := fun q _ => C.cold q.i hc.h
  hotc := fun _ z => Bool.noConfusion z
  E := E
  takes := fun q => q.tk
instance {C : Cs} [Cold C] {E : Xw} : Cold (C.tr E) := ⟨rfl⟩
/-- the suite, the exception at a of the class at Cl, its dict at dd -/
structure SuIx (C : Cs) (a Cl dd : Addr) where
  i : C.ι
  oe : Obj
  pn : List (Addr × Obj)
  zn : L2N.Zn (.ref Cl) (some dd) oe
  fd : ∃ vs, oe.data = .fields vs
def Cs.su (C : Cs) [hc : Cold C] (a Cl dd : Addr) (gs : List (Str × D)) : Cs where
  ι := SuIx C a Cl dd
  X := fun q => (C.X q.i).suite a ((a, q.oe) :: q.pn)
  P := C.P
  w := C.w
  K := C.K
  mg := C.mg
  base := C.base
  N := C.N
  k := C.k
  hP := fun q => C.hP q.i
  hw := fun q => C.hw q.i
  hK := fun q => C.hK q.i
  hmg := fun q => C.hmg q.i
  hbase := fun q => C.hbase q.i
  hN := fun q => C.hN q.i
  nd := C.nd
  hot := true
  calm := fun _ z => Bool.noConfusion z
  cold := fun _ z => Bool.noConfusion z
  hotc := fun q _ => ⟨⟨(a, q.oe), ⟨rfl, by obtain ⟨vs, e⟩ := q.fd; exact ⟨vs, e, q.zn.2.2 vs e⟩⟩, List.mem_cons_self⟩, ⟨(C.cold q.i hc.h).dp, (C.cold q.i hc.h).un⟩⟩
  E := ⟨fun _ _ _ _ => False, fun _ _ _ => False, C.E.T, [(dd, gs)]⟩
  takes := fun _ => takesN
/-- what the suite leaves, the name forgotten -/
def Post.gone (P : Post) (i : Nat) : Post := { nx := fun l => P.nx (l.set i .any), rt := P.rt, bk := fun l => P.bk (l.set i .any), ct := fun l => P.ct (l.set i .any) }
section
variable {C : Cs} {ls : List Loc} {body suite : List Stmt} {b₀ : Stmt} {x n : Str} {np pos pos' : Pos} {P : Post} {Cp : Addr}
theorem js_tryAs [hc : Cold C] (i : Nat) (Xp : List Loc → Addr → List (Str × D) → Prop) (hb : ∀ W : WX, JB (C.tr ⟨W, Xp, C.E.T, []⟩) ls body P) (hm : C.mg x = some (.ref Cp))
    (hs : ∀ ls' Cl gs, Xp ls' Cl gs → (PySem.W.exmOne C.K (.ref Cl) (.ref Cp) = some true ∧ ∀ a dd, JB (C.su a Cl dd gs) (ls'.set i (.val (.ref a))) (b₀ :: suite) (P.gone i)) ∨ (PySem.W.exmOne C.K (.ref Cl) (.ref Cp) = some false ∧ C.E.xp ls' Cl gs))
    (hi : C.N[i]? = some n := by rfl) (hln : ∀ j, (C.X j).env.kindOf n = some .local := by intro _; rfl) (hst : ∀ j, (C.X j).stack = (C.X j).env :: (C.X j).outer := by intro _; rfl) (hfr : ∀ j, (C.X j).env.frame = some (C.X j).env.locals := by intro _; rfl)
    (hg : ∀ j, Gl (C.X j) x := by intro _; rfl) (hdb : (x == ("__debug__" : Str)) = false := by decide) :
    JS C ls (.Try body [.ExceptHandler (some (.Name x np)) (some n) (b₀ :: suite) pos'] [] [] pos) P := by
  -- the suite's reading by the exception's address, class, dict
  let ts : Addr → Value → Option Addr → TS := fun a cls d D σ H => ∃ Cl dd, cls = .ref Cl ∧ d = some dd ∧ bAny (C.su a Cl dd []) (b₀ :: suite) D σ H
  refine js_of (t := fun D σ H => bAny (C.tr ⟨wAs C.K (.ref Cp) i ts C.E.W D, Xp, C.E.T, []⟩) body D σ H) (fun j => ?_) fun F G H σ D S f => ?_
  · have e1 := C.hK j
    have e2 := C.hmg j
    have key := L2N.ps_try_as (X := C.X j) (x := x) (n := n) (c := .ref Cp) (i := i) (body := body) (suite := suite) (b₀ := b₀) (np := np) (pos := pos) (pos' := pos') (tb := fun W => bAny (C.tr ⟨W, Xp, C.E.T, []⟩) body) (ts := ts) (Wout := C.E.W) (hst j) (hfr j) (by rw [C.hN]; exact C.nd) (by rw [C.hN]; exact hi) (hln j)
      ⟨hg j, hdb, .inl (by rw [e2]; exact hm)⟩ (C.takes j) (fun W pn xe tk ow => pb_any (C.tr ⟨W, Xp, C.E.T, []⟩) body ⟨j, pn, xe, tk, ow⟩) (fun a oe cls d pn hz hf => ⟨fun pins s σ H D' I h => ?_⟩)
    · rw [e1] at key
      exact key
    · obtain ⟨Cl, dd, rfl, rfl, q⟩ := h
      exact (pb_any (C.su a Cl dd []) (b₀ :: suite) ⟨j, oe, pn, hz, hf⟩).run pins s σ H D' I q
  · refine hb (wAs C.K (.ref Cp) i ts C.E.W D) F G H σ D S ⟨f.nx, f.rt, f.bk, f.ct, f.tb, fun _ z => (List.not_mem_nil z).elim, fun G' H' σ' ls' Cl dd fs gs eg kp S' hd hf hp => ?_⟩
    have f1 := f.step eg kp
    rcases hs ls' Cl gs hp with ⟨hx, hsu⟩ | ⟨hx, hout⟩
    · refine ⟨true, hx, fun _ a ha => ⟨Cl, dd, rfl, rfl, ?_⟩, fun z => Bool.noConfusion z⟩
      refine hsu a dd F G' H' _ _ (S'.setV (.ref a)) ⟨fun G2 H2 σ2 ls2 eg2 kp2 S2 r => ?_, f1.rt, fun G2 H2 σ2 ls2 eg2 kp2 S2 r => ?_, fun G2 H2 σ2 ls2 eg2 kp2 S2 r => ?_, f1.tb, fun p hpm => ?_, fun _ _ _ _ _ _ _ _ _ _ _ _ _ z => False.elim z⟩
      · exact f1.nx G2 H2 _ _ eg2 kp2 (S2.forget none) r
      · exact f1.bk G2 H2 _ _ eg2 kp2 (S2.forget none) r
      · exact f1.ct G2 H2 _ _ eg2 kp2 (S2.forget none) r
      · obtain rfl : p = (dd, gs) := List.mem_singleton.mp hpm
        exact ⟨fs, hd, hf⟩
    · exact ⟨false, hx, fun z => Bool.noConfusion z, fun _ => f.ex G' H' σ' ls' Cl dd fs gs eg kp S' hd hf hout⟩
end
end Qp

/-! Q17: defs that may raise and hold generator expressions; fields of a caught exception. -/
namespace Qp
open PySem PySem.Spec PyProof.Rows L2
section
variable {P : Program} {w : World} {K : Fg} {mg : Str → Option Value} {base : Heap}
theorem fn_okXC {x qual : Str} {st : Stmt} {f c : Addr} {fd : FuncData} {N ps : List Str} {k : Nat} {R : RelX} {T : Addr → Prop} (F : FunC K x qual st f c fd) (S : FnScope N ps (defScope st)) (len : ∀ ds d p, R ds d p → ds.length = ps.length)
    (body : ∀ (A : Around) (outer : List Env) (s : Shared) (H : Hp) (E : XK) (hr : Room k (A.deeper (envOfC qual (defScope st) s.heap.objs.size f (.ref c)))) (ds : List D) (Po : D → Prop) (Px : Addr → List (Str × D) → Prop), R ds Po Px →
      JB (Cs.ofX P w K mg base S.nd qual (defScope st) f (.ref c) A outer s H E hr Px T) (locs N.length ds) (defBody st) (RetX Po)) : FnOk P w K mg base (L2N.CX P w) (k + 1) f fd ps (spX K R T) := by
  obtain ⟨oc, od, kV, doc, pm, an, ct, osl, rfl, lk, hcd⟩ := F.ex
  have len' : ∀ vs H Q E, spX K R T vs H Q E → vs.length = ps.length := fun vs H Q E h => by
    obtain ⟨G, ds, d, p, _, _, hv, hR, _⟩ := h
    rw [hv.length]
    exact len ds d p hR
  refine fn_of lk hcd S len' fun A outer s H vs Q E hr h => ?_
  obtain ⟨G, ds, Po, Px, eg, tb, hv, hR, q, qx⟩ := h
  refine ⟨_, pb_any (Cs.ofX P w K mg base S.nd qual (defScope st) f (.ref c) A outer s H E hr Px T) (defBody st) (), ?_⟩
  have fin : ∀ G' H' v d', Ex G G' → Kp (fun a => NT H a ∧ G a = none) H H' → (∀ a, (NT H a ∧ G a = none) → G' a = none) → Ex G' H' → Dq K G' v d' → Po d' → Q v H' := fun G' H' v d' eg' kp fg e hv' hd =>
    q d' hd G' H' v eg' e (ex_of_kp eg eg' kp e) (fun a h1 h2 => fg a ⟨h1, h2⟩) hv'
  refine body A outer s H E hr ds Po Px hR (fun a => NT H a ∧ G a = none) G H (L2.start N vs) _ (sat_start eg hv) ⟨fun G' H' σ' ls' eg' kp S' r => ?_, fun G' H' v d' eg' kp fg e hv' r => fin G' H' v d' eg' kp fg e hv' r, fun _ _ _ _ _ _ _ z => False.elim z, fun _ _ _ _ _ _ _ z => False.elim z, tb, fun _ z => (List.not_mem_nil z).elim, fun G' H' σ' ls' C dd fs gs eg' kp S' hd hf hp => ?_⟩
  · exact fin G' H' .non .non eg' kp (fun a fa => (S'.fo a fa).1) S'.ex .non r
  · exact qx C gs hp G' H' dd fs eg' S'.ex (ex_of_kp eg eg' kp S'.ex) (fun a h1 h2 => (S'.fo a ⟨h1, h2⟩).1) hd hf
end
theorem fs_lookup {K : Fg} {G : Hp} {n : Str} {d : D} : ∀ {fs : List (Str × V)} {gs : List (Str × D)}, FsOk K G fs gs → gs.lookup n = some d → ∃ v, fs.lookup n = some v ∧ Dq K G v d
  | _, _, .nil, z => nomatch z
  | (f, v) :: fs, (_, d') :: gs, .cons h r, z => by
    simp only [List.lookup_cons] at z ⊢
    cases e : (n == f) with
    | true =>
      rw [e] at z
      exact ⟨v, rfl, Option.some.inj z ▸ h⟩
    | false =>
      rw [e] at z
      exact fs_lookup r z
section
variable {C : Cs} {ls : List Loc} {e : Expr} {d : D} {pos : Pos} {n : Str} {a Cl dd : Addr} {gs : List (Str × D)}
/-- a field of the caught exception -/
theorem je_xf [hc : Cold C] (he : JE (C.su a Cl dd gs) ls e (.ref a)) (T : XfC C.K Cl) (hno : PySem.W.findIn C.K (.ref Cl) n = some none) (hl : gs.lookup n = some d)
    (hb : ∀ env : Env, attributeBase e n env (eval e env) = eval e env := by intro _; rfl) : JE (C.su a Cl dd gs) ls (.Attribute e n pos) d := by
  refine je_of (t := tXf a (.ref Cl) (some dd) Cl n (eAny (C.su a Cl dd gs) e)) (fun q => ?_) fun F G H σ S xx Q k => he F G H σ S xx _ fun v G1 H1 eg1 eh1 S1 hv => ?_
  · have e1 := C.hK q.i
    rw [← e1] at T hno
    exact pe_xf T hno q.zn.zc q.fd (pe_any (C.su a Cl dd gs) e q) (hb _)
  · obtain ⟨fs, h1, h2⟩ := xx.dx (dd, gs) (List.mem_singleton.mpr rfl)
    obtain ⟨w, h3, h4⟩ := fs_lookup h2 hl
    exact ⟨dq_ref hv, rfl, dd, fs, w, rfl, S1.ex _ _ (eg1 _ _ h1) |> fun z => z, h3, k w G1 H1 eg1 eh1 S1 (dq_mono eg1 h4)⟩
end
end Qp

set_option maxHeartbeats 2000000
/-! Q18: the end of a law whose text has generator expressions. -/
namespace Qp
open PySem PySem.Spec PyProof.Rows L2
/-- what the head says of the tables of the text's defs -/
abbrev TabFacts (q : Program) (K : Fg) (h : Heap) : Prop := ∀ (x : Str) (c P : Addr), ((recsOf q).find? fun e => e.name == x).isSome = true → PySem.W.tabIn K x = some (c, P) → PySem.W.CodeHd h c P ∧ h.get? P = some { cls := .none, data := .fields #[] }
structure Tab0 (K : Fg) (h : Heap) (p : Addr × Addr) : Prop where
  t : h.get? p.2 = some { cls := .none, data := .fields #[] }
  n : K.lookup p.2 = none
  c : PySem.W.CodeHd h p.1 p.2
theorem tabIn_of {K : Fg} {x : Str} {f c P : Addr} {oc o2 : Value} {od d2 : Option Addr} {fd : FuncData} {vs : Array Value} {sl sl2 : Array (Option Value)} (a : PySem.W.nsIn K mainGlobals x = some (some (.ref f))) (l : K.lookup f = some ⟨oc, od, .func fd, sl⟩) (hc : fd.code = .ref c)
    (m : K.lookup c = some ⟨o2, d2, .fields vs, sl2⟩) (hv : vs[11]? = some (.ref P)) : PySem.W.tabIn K x = some (c, P) := by
  simp only [PySem.W.tabIn, a, l, hc, m, hv]
theorem TabFacts.tab {q : Program} {K : Fg} {h : Heap} (F : TabFacts q K h) (x : Str) {f c P : Addr} {oc o2 : Value} {od d2 : Option Addr} {fd : FuncData} {vs : Array Value} {sl sl2 : Array (Option Value)} (h1 : ((recsOf q).find? fun e => e.name == x).isSome = true)
    (a : PySem.W.nsIn K mainGlobals x = some (some (.ref f))) (l : K.lookup f = some ⟨oc, od, .func fd, sl⟩) (hc : fd.code = .ref c) (m : K.lookup c = some ⟨o2, d2, .fields vs, sl2⟩) (hv : vs[11]? = some (.ref P)) (h3 : K.lookup P = none) : Tab0 K h (c, P) :=
  ⟨(F x c P h1 (tabIn_of a l hc m hv)).2, h3, (F x c P h1 (tabIn_of a l hc m hv)).1⟩
/-- the tables of cs, as a context's -/
abbrev tabT (cs : List (Addr × Addr)) : Addr → Prop := fun P => ∃ p ∈ cs, p.2 = P
theorem law_endT {l : PySem.W.OpenLaw} {k : Nat} {q : Program} {loose : List Str} {XP : (Str → Option Value) → Heap → Prop} {YP : World → Heap → Prop} {d : DefRec} {K : Params → PySem.W.Frag} {x : Str}
    (hn : l.most = some 63) (hdf : d.params.defaults = []) (hr : Room k callerA) (hY : ∀ (w : World) (h : Heap), YP w h → (K w.params).In h)
    (F : ∀ (w : World) (mg : Str → Option Value) (fa : Addr) (h : Heap), (K w.params).In h → h.Ns mainGlobals mg → mg d.name = some (.ref fa) → TabFacts q (K w.params) h →
      ∃ (fd : FuncData) (cs : List (Addr × Addr)), (∀ p ∈ cs, Tab0 (K w.params) h p) ∧ (∀ (s : Shared) (u : Value), BindsTo s fd ⟨[u], []⟩ [(x, u)]) ∧
        ∀ base : Heap, (K w.params).In base → base.Ns mainGlobals mg → (∀ p ∈ cs, GxR.TabB base mg p.1 p.2) → FnOk l.prog w (K w.params) mg base CX0 k fa fd [x] (spD (K w.params) rLaw (tabT cs))) :
    PySem.W.WalkO q loose XP YP l.row.toRowW d [] (fun f vs => PySem.call f vs) := by
  refine Att.attach_callB hn hdf fun w s₀ s₁ mg mb fa o pm cd doc a vs ns G Y ho hd hcd hmg hobj hints hlen hbits hg => ?_
  have KX := hY w _ Y
  obtain ⟨fd, cs, hC, hb, hF⟩ := F w mg fa _ KX G.T.g hmg fun x c P h1 h2 => by
    obtain ⟨e, he⟩ := Option.isSome_iff_exists.mp h1
    exact PySem.W.tab_of G.T KX he h2
  exact LamX.law_callTs (CX := CX0) (sp := spD (K w.params) rLaw (tabT cs)) KX G.T.g G.T.b G.T.builtins G.T.nolimit hg (fun p hp => (hC p hp).t) (fun p hp => (hC p hp).n) (fun p hp => (hC p hp).c) G.T.bmain hobj hints (Nat.le_trans hlen (by decide)) hr
    (fun base h1 h2 h3 => hF base h1 h2 fun p hp => ⟨(h3 p hp).code, (h3 p hp).bm, (h3 p hp).gP⟩) hb
    (fun H hH hS => ⟨H, [.scr ns], _, Ex.refl H, fun P hP => by
      obtain ⟨p, hp, rfl⟩ := hP
      exact ⟨_, hH p hp, trivial⟩, .cons (.scr hS) .nil, ⟨ns, hlen, rfl, rfl⟩, fun d hd G' H' v _ _ _ _ hv => by subst hd; exact dq_bl hv⟩) fun _ _ _ z => z
/-- a def that holds generator expressions, as it stands behind the top -/
structure FTC (K : Fg) (mg : Str → Option Value) (x : Str) (st : Stmt) (c : Addr) : Prop where
  ex : ∃ f fd, FunC K x x st f c fd ∧ mg x = some (.ref f)
theorem ftc_mk {K : Fg} {h : Heap} {mg : Str → Option Value} {x : Str} {st : Stmt} {f c : Addr} (X : K.In h) (G : h.Ns mainGlobals mg) {od an : Option Addr} {sl : Array (Option Value)} {oc kV dc pm ct : Value}
    (a : PySem.W.nsIn K mainGlobals x = some (some (.ref f))) (l : K.lookup f = some ⟨oc, od, .func (PySem.W.fnOf x x (defArgs st) (defBody st) (defScope st) .none kV dc pm an (.ref c) ct), sl⟩) (cd : PySem.W.codeIn K (.ref c) x = true) (k : PySem.W.keepIn K (.ref f) = true) : FTC K mg x st c :=
  ⟨f, _, ⟨⟨oc, od, kV, dc, pm, an, ct, sl, rfl, l, cd⟩, k⟩, PySem.W.mg_of X G a⟩
section
variable {P : Program} {w : World} {K : Fg} {mg : Str → Option Value} {base : Heap} {k : Nat} {x : Str} {st : Stmt} {ps ks : List Str} {R : Rel} {T : Addr → Prop} {n : Nat} {perm : List Nat} {c : Addr}
theorem FTC.ft (Y : FTC K mg x st c) : FT K mg x st := by
  obtain ⟨f, fd, F, hm⟩ := Y.ex
  exact ⟨f, fd, F.fun, hm⟩
theorem FTC.fn (Y : FTC K mg x st c) (G : ∀ {f fd}, FunC K x x st f c fd → FnOk P w K mg base CX0 k f fd ps (spD K R T)) (h : ∀ (kV doc pm : Value) (an : Option Addr) (cdv ct : Value) (us : List Value), us.length = ps.length → bindArgs (PySem.W.fnOf x x (defArgs st) (defBody st) (defScope st) .none kV doc pm an cdv ct) ⟨us, []⟩ = pure (ps.zip us)) : Fn P w K mg base k x R T := by
  obtain ⟨f, fd, F, hm⟩ := Y.ex
  exact fn_mk F.fun (G F) hm (F.fun.binds h)
theorem FTC.fk (Y : FTC K mg x st c) (G : ∀ {f fd}, FunC K x x st f c fd → FnOk P w K mg base CX0 k f fd ps (spD K R T)) (hp : ps ≠ [])
    (h : ∀ (kV doc pm : Value) (an : Option Addr) (cdv ct : Value) (us ws : List Value), us.length = n → ws.length = ks.length → bindArgs (PySem.W.fnOf x x (defArgs st) (defBody st) (defScope st) .none kV doc pm an cdv ct) ⟨us, ks.zip ws⟩ = pure (ps.zip (perm.filterMap fun i => (us ++ ws)[i]?))) : Fk P w K mg base k x n ks perm R T := by
  obtain ⟨f, fd, F, hm⟩ := Y.ex
  exact fk_mk F.fun (G F) hm hp h
theorem FT.fnX {R : RelX} (Y : FT K mg x st) (G : ∀ {f fd}, Fun K x x st f fd → FnOk P w K mg base (L2N.CX P w) k f fd ps (spX K R T)) (h : ∀ (kV doc pm : Value) (an : Option Addr) (cdv ct : Value) (us : List Value), us.length = ps.length → bindArgs (PySem.W.fnOf x x (defArgs st) (defBody st) (defScope st) .none kV doc pm an cdv ct) ⟨us, []⟩ = pure (ps.zip us)) : FnX P w K mg base k x R T := by
  obtain ⟨f, fd, F, hm⟩ := Y.ex
  exact ⟨f, fd, ps, G F, hm, F.kp, F.binds h⟩
theorem FTC.fnX {R : RelX} (Y : FTC K mg x st c) (G : ∀ {f fd}, FunC K x x st f c fd → FnOk P w K mg base (L2N.CX P w) k f fd ps (spX K R T)) (h : ∀ (kV doc pm : Value) (an : Option Addr) (cdv ct : Value) (us : List Value), us.length = ps.length → bindArgs (PySem.W.fnOf x x (defArgs st) (defBody st) (defScope st) .none kV doc pm an cdv ct) ⟨us, []⟩ = pure (ps.zip us)) : FnX P w K mg base k x R T := by
  obtain ⟨f, fd, F, hm⟩ := Y.ex
  exact ⟨f, fd, ps, G F, hm, F.kp, F.fun.binds h⟩
end
end Qp

set_option maxHeartbeats 2000000
/-! Q19: the classes of exceptions with their __init__; constants of the text. -/
namespace Qp
open PySem PySem.Spec PyProof.Rows L2
section
variable {P : Program} {w : World} {K : Fg} {mg : Str → Option Value} {base : Heap} {T : Addr → Prop}
theorem vis_par {N ps : List Str} {sc : Scope} (S : FnScope N ps sc) {x : Str} (h : x ∈ ps) : Vis sc x := (S.par x h).elim .inl fun z => .inr (.inl z)
/-- __init__(self, x): self.x = x -/
theorem ini1 {Cl f : Addr} {fd : FuncData} {qual x : Str} {st : Stmt} {p1 p2 p3 p4 : Pos} (F : Fun K "__init__" qual st f fd) (S : FnScope ["self", x] ["self", x] (defScope st)) (o : OexC K Cl) (hno : PySem.W.findIn K (.ref Cl) x = some none)
    (hb : defBody st = [.Assign [.Attribute (.Name "self" p1) x p2] (.Name x p3) p4] := by rfl) (hs : ∀ env : Env, swapsWith (.Name x p3) (some (.Attribute (.Name "self" p1) x p2)) p4.line env = pure false := by intro _; rfl)
    (hd : (x == ("__debug__" : Str)) = false := by decide) (hcd : (x == ("__classdict__" : Str)) = false := by decide) : FnOk P w K mg base CX0 1 f fd ["self", x] (spI Cl [x]) := by
  obtain ⟨oc, od, kV, doc, pm, an, cdv, ct, osl, rfl, lk, hcd'⟩ := F.ex
  refine fn_of lk hcd' S (fun vs H Q E h => ?_) fun A outer s H vs Q E hr h => ?_
  · obtain ⟨ob, ys, rfl, h1, _⟩ := h
    exact congrArg (· + 1) h1
  · obtain ⟨ob, ys, rfl, h1, h2, q⟩ := h
    obtain ⟨y, rfl⟩ := List.length_eq_one_iff.mp (show ys.length = 1 from h1)
    rw [hb]
    exact ⟨_, pss_one (ps_ost (pe_var (i := 0) rfl (vis_par S List.mem_cons_self)) (pe_var (i := 1) rfl (vis_par S (List.mem_cons_of_mem _ List.mem_cons_self)) hd hcd) (hs _)), y, rfl, .ref ob, rfl, ob, Cl, rfl, o, hno, .inl ⟨h2, fun dx n1 n2 => q dx n1 n2⟩⟩
/-- __init__(self, x, y): self.x = x; self.y = y -/
theorem ini2 {Cl f : Addr} {fd : FuncData} {qual x x2 : Str} {st : Stmt} {p1 p2 p3 p4 q1 q2 q3 q4 : Pos} (F : Fun K "__init__" qual st f fd) (S : FnScope ["self", x, x2] ["self", x, x2] (defScope st)) (o : OexC K Cl) (hno : PySem.W.findIn K (.ref Cl) x = some none) (hno2 : PySem.W.findIn K (.ref Cl) x2 = some none)
    (hb : defBody st = [.Assign [.Attribute (.Name "self" p1) x p2] (.Name x p3) p4, .Assign [.Attribute (.Name "self" q1) x2 q2] (.Name x2 q3) q4] := by rfl)
    (hs : ∀ env : Env, swapsWith (.Name x p3) (some (.Attribute (.Name "self" p1) x p2)) p4.line env = pure false := by intro _; rfl) (hs2 : ∀ env : Env, swapsWith (.Name x2 q3) (some (.Attribute (.Name "self" q1) x2 q2)) q4.line env = pure false := by intro _; rfl)
    (hd : (x == ("__debug__" : Str)) = false := by decide) (hcd : (x == ("__classdict__" : Str)) = false := by decide) (hd2 : (x2 == ("__debug__" : Str)) = false := by decide) (hcd2 : (x2 == ("__classdict__" : Str)) = false := by decide) : FnOk P w K mg base CX0 1 f fd ["self", x, x2] (spI Cl [x, x2]) := by
  obtain ⟨oc, od, kV, doc, pm, an, cdv, ct, osl, rfl, lk, hcd'⟩ := F.ex
  refine fn_of lk hcd' S (fun vs H Q E h => ?_) fun A outer s H vs Q E hr h => ?_
  · obtain ⟨ob, ys, rfl, h1, _⟩ := h
    exact congrArg (· + 1) h1
  · obtain ⟨ob, ys, rfl, h1, h2, q⟩ := h
    obtain ⟨y, z, rfl⟩ : ∃ y z, ys = [y, z] := match ys, h1 with | [y, z], _ => ⟨y, z, rfl⟩
    rw [hb]
    refine ⟨_, pss_cons (ps_ost (pe_var (i := 0) rfl (vis_par S List.mem_cons_self)) (pe_var (i := 1) rfl (vis_par S (List.mem_cons_of_mem _ List.mem_cons_self)) hd hcd) (hs _))
      (pss_one (ps_ost (pe_var (i := 0) rfl (vis_par S List.mem_cons_self)) (pe_var (i := 2) rfl (vis_par S (List.mem_cons_of_mem _ (List.mem_cons_of_mem _ List.mem_cons_self))) hd2 hcd2) (hs2 _))), y, rfl, .ref ob, rfl, ob, Cl, rfl, o, hno, .inl ⟨h2, fun dx n1 n2 => ?_⟩⟩
    refine ⟨z, rfl, .ref ob, rfl, ob, Cl, rfl, o, hno2, .inr ⟨dx, [(x, y)], upd_same, (upd_ne n2).trans upd_same, Nat.le_of_ble_eq_true rfl, ?_⟩⟩
    have e : upd (upd (upd H dx (exd dx [(x, y)])) ob (exo ob Cl (some dx))) dx (exd dx [(x2, z), (x, y)]) = upd (upd H dx (exd dx [(x2, z), (x, y)])) ob (exo ob Cl (some dx)) := by
      funext b
      by_cases e1 : b = dx
      · subst e1
        rw [upd_same, upd_ne n2, upd_same]
      · by_cases e2 : b = ob
        · subst e2
          rw [upd_ne e1, upd_same, upd_same]
        · rw [upd_ne e1, upd_ne e2, upd_ne e1, upd_ne e2, upd_ne e1]
    show Q .non (upd (upd (upd H dx (exd dx [(x, y)])) ob (exo ob Cl (some dx))) dx (exd dx [(x2, z), (x, y)]))
    rw [e]
    exact q dx n1 n2
end
/-! ### what the head says of an own class of exceptions -/
/-- an own class, as the clauses name it -/
structure ClsT (K : Fg) (mg : Str → Option Value) (x : Str) (Cl : Addr) : Prop where
  g : mg x = some (.ref Cl)
  exC : PySem.W.subIn K (.ref Cl) (.type "BaseException") = some true
  tyC : PySem.W.typeIn K (.ref Cl) = some (.type "type")
  hdC : PySem.W.hasDictIn K Cl = true
theorem ClsT.exm {K : Fg} {mg : Str → Option Value} {x : Str} {Cl : Addr} {c : Value} {b : Bool} (T : ClsT K mg x Cl) (h : PySem.W.subIn K c (.ref Cl) = some b) : PySem.W.exmOne K c (.ref Cl) = some b := PySem.W.exm_ref T.exC T.hdC T.tyC h
/-- one with an own __init__ -/
structure ExcC (K : Fg) (mg : Str → Option Value) (x qual : Str) (st : Stmt) (Cl : Addr) : Prop where
  c : ClsT K mg x Cl
  o : OexC K Cl
  xf : XfC K Cl
  ini : ∃ f fd, PySem.W.findIn K (.ref Cl) "__init__" = some (some (.ref f)) ∧ PySem.W.typeIn K (.ref f) = some (.type "function") ∧ Fun K "__init__" qual st f fd
theorem exc_mk {K : Fg} {h : Heap} {mg : Str → Option Value} {x qual : Str} {st : Stmt} {Cl f : Addr} (X : K.In h) (G : h.Ns mainGlobals mg) {nm q : Str} {N : Addr} {bs bm : List Value} {sn : List Str} {sub : List Value} {ab : Bool} {col : Option Bool} {dd : Option Addr} {m0 m1 m2 m3 m5 : Option Value}
    {od an : Option Addr} {sl : Array (Option Value)} {oc kV dc pm cd ct : Value} (aC : PySem.W.nsIn K mainGlobals x = some (some (.ref Cl))) (xL : K.lookup Cl = some (excClassObj nm q Cl N bs bm true sn sub ab col dd m0 m1 m2 m3 m5 "ValueError.__new__")) (hbm : PySem.HandSPX.refsVE bm = true)
    (sa : PySem.W.findIn K (.ref Cl) "__setattr__" = some (some (.builtin "object.__setattr__"))) (ga : PySem.W.findIn K (.ref Cl) "__getattribute__" = some (some (.builtin "BaseException.__getattribute__"))) (gg : PySem.W.findIn K (.ref Cl) "__getattr__" = some none)
    (a1 : PySem.W.findIn K (.ref Cl) "__init__" = some (some (.ref f))) (t1 : PySem.W.typeIn K (.ref f) = some (.type "function"))
    (l1 : K.lookup f = some ⟨oc, od, .func (PySem.W.fnOf "__init__" qual (defArgs st) (defBody st) (defScope st) .none kV dc pm an cd ct), sl⟩) (c1 : PySem.W.codeIn K cd qual = true) (kF : PySem.W.keepIn K (.ref f) = true)
    (kC : PySem.W.keepIn K (.ref Cl) = true) (eC : PySem.W.subIn K (.ref Cl) (.type "BaseException") = some true) (tC : PySem.W.typeIn K (.ref Cl) = some (.type "type")) (hC : PySem.W.hasDictIn K Cl = true) : ExcC K mg x qual st Cl :=
  ⟨⟨PySem.W.mg_of X G aC, eC, tC, hC⟩, ⟨⟨nm, q, N, bs, bm, sn, sub, ab, col, dd, m0, m1, m2, m3, m5, xL, hbm⟩, sa, eC, tC, kC⟩, ⟨ga, gg, eC, hC⟩, f, _, a1, t1, fun_mk (st := st) l1 c1 kF⟩
section
variable {P : Program} {w : World} {K : Fg} {mg : Str → Option Value} {base : Heap} {x qual a b : Str} {st : Stmt} {Cl : Addr}
theorem ExcC.t1 (Y : ExcC K mg x qual st Cl) (G : ∀ {f fd}, Fun K "__init__" qual st f fd → FnOk P w K mg base CX0 1 f fd ["self", a] (spI Cl [a]))
    (h : ∀ (kV doc pm : Value) (an : Option Addr) (cdv ct : Value) (us : List Value), us.length = 2 → bindArgs (PySem.W.fnOf "__init__" qual (defArgs st) (defBody st) (defScope st) .none kV doc pm an cdv ct) ⟨us, []⟩ = pure ((["self", a] : List Str).zip us)) : ExcT P w K mg base x Cl [a] := by
  obtain ⟨f, fd, h1, h2, F⟩ := Y.ini
  exact ⟨Y.o, Y.c.g, f, fd, ["self", a], h1, h2, F.binds (ps := ["self", a]) h, G F⟩
theorem ExcC.t2 (Y : ExcC K mg x qual st Cl) (G : ∀ {f fd}, Fun K "__init__" qual st f fd → FnOk P w K mg base CX0 1 f fd ["self", a, b] (spI Cl [a, b]))
    (h : ∀ (kV doc pm : Value) (an : Option Addr) (cdv ct : Value) (us : List Value), us.length = 3 → bindArgs (PySem.W.fnOf "__init__" qual (defArgs st) (defBody st) (defScope st) .none kV doc pm an cdv ct) ⟨us, []⟩ = pure ((["self", a, b] : List Str).zip us)) : ExcT P w K mg base x Cl [a, b] := by
  obtain ⟨f, fd, h1, h2, F⟩ := Y.ini
  exact ⟨Y.o, Y.c.g, f, fd, ["self", a, b], h1, h2, F.binds (ps := ["self", a, b]) h, G F⟩
end
/-- a class statement's k-th statement -/
def inCls : Stmt → Nat → Stmt
  | .ClassDef _ _ _ body _ _ _ _ _ _ _, k => body.getD k (.Pass ⟨0, 0, 0, 0⟩)
  | s, _ => s
end Qp

/-! Q20: an expression as a statement. -/
namespace Qp
open PySem PySem.Spec PyProof.Rows L2
section
variable {C : Cs} {ls : List Loc} {e : Expr} {Po : D → Prop} {pos : Pos} {P : Post} {rest : List Stmt}
theorem js_do (he : JX C ls e Po) (h : ∀ d, Po d → P.nx ls) (hs : ∀ j, swapsWith e none pos.line (C.X j).env = pure false := by intro _; rfl) : JS C ls (.Expr e pos) P :=
  js_of (fun j => ps_expr (pe_any C e j) (hs j)) fun F G H σ D' S f => he F G H σ S (f.xok S) _ fun d v G' H' hd eg eh S' hv => f.nx G' H' _ _ eg (S.kp eh) S' (h d hd)
theorem jb_do (he : JX C ls e Po) (k : ∀ d, Po d → JB C ls rest P) (hs : ∀ j, swapsWith e none pos.line (C.X j).env = pure false := by intro _; rfl) : JB C ls (.Expr e pos :: rest) P :=
  jb_cons (fun l => (∃ d, Po d) ∧ l = ls) (js_do he (fun d hd => ⟨⟨d, hd⟩, rfl⟩) hs) fun _ ⟨⟨d, hd⟩, h⟩ => h ▸ k d hd
end
/-! ### tuples over again -/
theorem dqAll_app {K : Fg} {G : Hp} : ∀ {vs vs2 : List V} {ds ds2 : List D}, DqAll K G vs ds → DqAll K G vs2 ds2 → DqAll K G (vs ++ vs2) (ds ++ ds2)
  | _, _, _, _, .nil, b => b
  | _, _, _, _, .cons h r, b => .cons h (dqAll_app r b)
theorem dqAll_rep {K : Fg} {G : Hp} {vs : List V} {ds : List D} (h : DqAll K G vs ds) : ∀ n, DqAll K G (List.replicate n vs).flatten (List.replicate n ds).flatten
  | 0 => .nil
  | n + 1 => by
    rw [List.replicate_succ, List.replicate_succ, List.flatten_cons, List.flatten_cons]
    exact dqAll_app h (dqAll_rep h n)
theorem op_repT' (C : Cs) (j : C.ι) : OpR (C.X j) (binaryOp .Mult) (rRepT C.K) := kx (p := fun K => OpR (C.X j) (binaryOp .Mult) (rRepT K)) j op_repT
section
variable {C : Cs} {ls : List Loc} {a b : Expr} {ds : List D} {pos : Pos}
theorem je_mulT {k : Int} (ha : JE C ls a (.tup ds)) (hb : JE C ls b (.int k)) (hne : ds ≠ []) (h1 : 2 ≤ k) (h2 : k ≤ 1000) (h3 : ds.length ≤ 1000) : JE C ls (.BinOp a .Mult b pos) (.tup (List.replicate k.toNat ds).flatten) :=
  je_of (fun j => pe_op (op_repT' C j) (pe_any C a j) (pe_any C b j)) fun F G H σ S xx Q q => ha F G H σ S xx _ fun x G1 H1 eg1 eh1 S1 hx => hb F G1 H1 σ S1 (xx.step eg1 eh1) _ fun y G2 H2 eg2 eh2 S2 hy => by
    obtain ⟨p, vs, rfl, ht, hv⟩ := dq_tup (dq_mono eg2 hx)
    obtain rfl := dq_int hy
    have hl := hv.length
    refine ⟨p, k, vs, rfl, rfl, ex_t S2.ex ht, fun z => hne (by rw [z] at hl; exact List.eq_nil_of_length_eq_zero hl.symm), h1, h2, by omega, ?_⟩
    exact ev_lay S2 (dqAll_rep hv k.toNat) fun v G3 H3 eg3 eh3 S3 hv3 => q v G3 H3 ((eg1.trans eg2).trans eg3) ((eh1.trans eh2).trans eh3) S3 hv3
theorem op_catA' (C : Cs) (j : C.ι) : OpR (C.X j) (binaryOp .Add) (rCatA C.K) := kx (p := fun K => OpR (C.X j) (binaryOp .Add) (rCatA K)) j op_catA
theorem sl_tupA' (C : Cs) (j : C.ι) : SlR (C.X j) (rSlA C.K) := kx (p := fun K => SlR (C.X j) (rSlA K)) j sl_tupA
theorem je_addT {es : List D} (ha : JE C ls a (.tup ds)) (hb : JE C ls b (.tup es)) (hl : ds.length + es.length ≤ 1000000) : JE C ls (.BinOp a .Add b pos) (.tup (ds ++ es)) :=
  je_of (fun j => pe_op (op_catA' C j) (pe_any C a j) (pe_any C b j)) fun F G H σ S xx Q q => ha F G H σ S xx _ fun x G1 H1 eg1 eh1 S1 hx => hb F G1 H1 σ S1 (xx.step eg1 eh1) _ fun y G2 H2 eg2 eh2 S2 hy => by
    have hx2 := dq_mono eg2 hx
    obtain ⟨p, vs, rfl, ht, hv⟩ := dq_tup hx2
    obtain ⟨r, us, rfl, hu, hw⟩ := dq_tup hy
    have l1 := hv.length
    have l2 := hw.length
    refine ⟨p, r, vs, us, rfl, rfl, ex_t S2.ex ht, ex_t S2.ex hu, by rw [l1, l2]; exact Nat.le_trans hl (by decide), fun z => ?_, fun _ z => ?_, fun _ _ => ?_⟩
    · have e : ds = [] := by rw [z] at l1; exact List.eq_nil_of_length_eq_zero l1.symm
      rw [e] at q
      exact q _ G2 H2 (eg1.trans eg2) (eh1.trans eh2) S2 hy
    · have e : es = [] := by rw [z] at l2; exact List.eq_nil_of_length_eq_zero l2.symm
      rw [e, List.append_nil] at q
      exact q _ G2 H2 (eg1.trans eg2) (eh1.trans eh2) S2 hx2
    · exact ev_lay S2 (dqAll_app hv hw) fun v G3 H3 eg3 eh3 S3 hv3 => q v G3 H3 ((eg1.trans eg2).trans eg3) ((eh1.trans eh2).trans eh3) S3 hv3
theorem je_sliceA {lo hi : Option Expr} {l u : Option Int} {p2 : Pos} (ha : JE C ls a (.tup ds)) (h1 : JO C ls lo l) (h2 : JO C ls hi u) : JE C ls (.Subscript a (.Slice lo hi none p2) pos) (.tup (cutD ds l u)) :=
  je_of (fun j => pe_slice (sl_tupA' C j) (pe_any C a j) (po_any C lo j) (po_any C hi j)) fun F G H σ S xx Q q => ha F G H σ S xx _ fun x G1 H1 eg1 eh1 S1 hx => h1 F G1 H1 σ S1 (xx.step eg1 eh1) _ fun G2 H2 eg2 eh2 S2 => h2 F G2 H2 σ S2 (xx.step (eg1.trans eg2) (eh1.trans eh2)) _ fun G3 H3 eg3 eh3 S3 => by
    have hx3 := dq_mono (eg2.trans eg3) hx
    obtain ⟨p, vs, rfl, ht, hv⟩ := dq_tup hx3
    have e3 := (eg1.trans eg2).trans eg3
    have f3 := (eh1.trans eh2).trans eh3
    refine ⟨p, vs, rfl, ex_t S3.ex ht, fun z => ?_, fun _ => ev_lay S3 (dqAll_cut hv) fun v G4 H4 eg4 eh4 S4 hv2 => q v G4 H4 (e3.trans eg4) (f3.trans eh4) S4 hv2⟩
    have e : cutD ds l u = ds := by
      unfold cutD
      rw [hv.length] at z
      rw [z.1, z.2, List.drop_zero, Nat.sub_zero, List.take_length]
    rw [e] at q
    exact q _ G3 H3 e3 f3 S3 hx3
end
end Qp

/-! Q21: loops over zip of two tuples. -/
namespace Qp
open PySem PySem.Spec PyProof.Rows L2
section
variable {C : Cs} {ls : List Loc} {a b : Expr} {ds es : List D} {P : Post} {body : List Stmt} {pos : Pos}
theorem js_forZ [Cold C] {x y : Str} {p1 p2 q1 q2 tpos : Pos} {kk : Nat} (j1 j2 : Nat) (Pv : Nat → List Loc → Prop) (ha : JA C ls [a, b] [.tup ds, .tup es]) (hl : ds.length = es.length) (h0 : Pv 0 ls)
    (hb : ∀ (i : Nat) d e ls', ds[i]? = some d → es[i]? = some e → Pv i ls' → JB C ((ls'.set j1 (.val d)).set j2 (.val e)) body { nx := Pv (i + 1), rt := P.rt, bk := P.nx, ct := Pv (i + 1) })
    (hd : ∀ ls', Pv ds.length ls' → P.nx ls') (hm : NoG C "zip" := by assumption) (hg : ∀ j, Gl (C.X j) "zip" := by intro _; rfl) (hi : C.N[j1]? = some x := by rfl) (hi2 : C.N[j2]? = some y := by rfl)
    (hx : ∀ i, L2.Loc (C.X i).env.scope x := by intro _; first | exact .inl rfl | exact .inr rfl) (hy : ∀ i, L2.Loc (C.X i).env.scope y := by intro _; first | exact .inl rfl | exact .inr rfl)
    (hf : ∀ i, (C.X i).fn x = true ∨ (C.X i).env.scope.names.lookup x = some .local := by intro _; first | exact .inl rfl | exact .inr rfl) (hf2 : ∀ i, (C.X i).fn y = true ∨ (C.X i).env.scope.names.lookup y = some .local := by intro _; first | exact .inl rfl | exact .inr rfl)
    (hp : ∀ i, PassesOwn (model (C.X i).prog (C.X i).w) (C.X i).A (C.X i).env (C.X i).xe := by intro q; first | exact PassesOwn.never | exact passes_of rfl | exact q.owns)
    (hfs : ∀ i v, foldedSetIterable (.Call (.Name "zip" p1) [a, b] [] p2) (C.X i).env v = pure v := by intro _ _; rfl) :
    JS C ls (.For (.Tuple [.Name x q1, .Name y q2] kk tpos) (.Call (.Name "zip" p1) [a, b] [] p2) body [] pos) P :=
  js_of (t := tFor (RZ.iZipA C.K (aAny C [a, b])) (gTup C.K 2 (gCons (gName j1) (gCons (gName j2) gNil))) (bAny C body))
    (fun i => ps_for (hp i) (C.calm i Cold.h)
      (kx (p := fun K => PI (C.X i) _ (.Call (.Name "zip" p1) [a, b] [] p2) (RZ.iZipA K (aAny C [a, b]))) i (RZ.pi_zipA (hg i) (noG hm i) (pa_any C [a, b] i) (ha.ns a List.mem_cons_self _ _) (ns_any (fun z hz => ha.ns z (List.mem_cons_of_mem _ hz)) _ _)))
      (kx (p := fun K => PG (C.X i) _ (gTup K 2 (gCons (gName j1) (gCons (gName j2) gNil)))) i (pg_tup (C.calm i Cold.h) (pgs_cons (pg_name (i := j1) (by rw [C.hN]; exact C.nd) (by rw [C.hN]; exact hi) (hx i) (hf i)) (pgs_cons (pg_name (i := j2) (by rw [C.hN]; exact C.nd) (by rw [C.hN]; exact hi2) (hy i) (hf2 i)) pgs_nil))))
      (pb_any C body i) (hfs i))
    (hs_for Pv ds.length (fun G Jt => ∃ a vs b us, Jt = RZ.ItzT C.K a b ∧ SqT C.K G a vs ∧ DqAll C.K G vs ds ∧ SqT C.K G b us ∧ DqAll C.K G us es)
      (fun F G H σ S xx R q => ha.ev F G H σ S xx _ fun vs G' H' eg eh S' hv => by
        cases hv with
        | cons h1 r =>
          cases r with
          | cons h2 r =>
            cases r
            obtain ⟨a, vs, rfl, ta, da⟩ := dq_tup h1
            obtain ⟨b, us, rfl, tb, db⟩ := dq_tup h2
            exact ⟨a, b, vs, us, rfl, .inr ⟨ex_t S'.ex ta, ex_t S'.ex tb, q _ G' H' eg eh S' ⟨a, vs, b, us, rfl, ta, da, tb, db⟩⟩⟩) h0
      (fun G Jt H hJ e => by
        obtain ⟨a, vs, b, us, rfl, ta, da, tb, db⟩ := hJ
        exact ⟨vs, us, ex_t e ta, ex_t e tb, .inl (by rw [da.length]; exact Nat.le_refl _)⟩)
      (fun G Jt H i hJ e hi => by
        obtain ⟨a, vs, b, us, rfl, ta, da, tb, db⟩ := hJ
        exact ⟨vs, us, vs[i]'(by rw [da.length]; exact hi), us[i]'(by rw [db.length, ← hl]; exact hi), ex_t e ta, ex_t e tb, List.getElem?_eq_getElem _, List.getElem?_eq_getElem _⟩)
      (fun F G G0 H σ ls' i v Jt H1 hJ eg hi S p yl D' f => by
        obtain ⟨a, vs, b, us, rfl, ta, da, tb, db⟩ := hJ
        obtain ⟨T, u1, u2, rfl, hT, rfl, f1, f2⟩ := yl
        have e1 := f1 vs (ex_t (eg.trans S.ex) ta)
        have e2 := f2 us (ex_t (eg.trans S.ex) tb)
        obtain ⟨d, m1, k1⟩ := da.get' e1
        obtain ⟨e, m2, k2⟩ := db.get' e2
        have g := S.ex.fresh hT
        have en := Ex.new (o := HO.tup [u1, u2]) g
        refine ⟨T, [u1, u2], rfl, SqT.of upd_same, rfl, u1, [u2], rfl, u2, [], rfl, rfl, ?_⟩
        exact hb i d e ls' m1 m2 p F (upd G T (.tup [u1, u2])) _ _ D' (((S.made hT).setV (dq_mono (eg.trans en) k1)).setV (dq_mono (eg.trans en) k2)) (f.step en (S.kp (Ex.new hT)))) hd)
end
end Qp

/-! Q22: range with a step; zip of two frozen lists. -/
namespace Qp
open PySem PySem.Spec PyProof.Rows L2
theorem rgC_up {hi c : Int} (h0 : 0 ≤ hi) (h1 : hi < 2 ^ 60) (c0 : 1 ≤ c) (c1 : c < 1000000) : RgC 0 hi c ((hi + c - 1) / c).toNat := by
  have e := PyProof.Rows.rangeSize_pos c0 h0
  have g0 : 0 ≤ (hi + c - 1) / c := Int.ediv_nonneg (by omega) (by omega)
  have g1 : (hi + c - 1) / c ≤ hi + c - 1 := Int.ediv_le_self _ (by omega)
  have g2 : (hi + c - 1) / c * c ≤ hi + c - 1 := Int.ediv_mul_le _ (by omega)
  refine ⟨by omega, by omega, ?_, by rw [e]; omega⟩
  unfold Builtin.Range.small
  rw [e]
  have c2 : c > 0 := by omega
  simp only [Builtin.Range.rangeFitsLong, c2, if_true, Bool.and_eq_true, Bool.or_eq_true, decide_eq_true_eq, beq_iff_eq]
  refine ⟨⟨⟨⟨⟨by omega, by omega⟩, by omega, by omega⟩, by omega, by omega⟩, by omega, by omega⟩, .inr ⟨by omega, by omega⟩⟩
theorem range3' {C : Cs} (j : C.ι) {tg a b c : Expr} {p pos : Pos} (hg : Gl (C.X j) "range") (hm : NoG C "range") (hs : NS a) (hs2 : NS b) (hs3 : NS c) : PI (C.X j) tg (.Call (.Name "range" p) [a, b, c] [] pos) (iRng3 (tCons (eAny C a) (tCons (eAny C b) (tCons (eAny C c) tNil)))) :=
  pi_range3 hg (noG hm j) (pa_cons (pe_any C a j) (pa_cons (pe_any C b j) (pa_cons (pe_any C c j) pa_nil (hs3 _ _)) (hs2 _ _)) (hs _ _)) (hs _ _) (ns_any (es := [b, c]) (fun z hz => by
    rcases List.mem_cons.mp hz with rfl | hz
    · exact hs2
    · rw [List.mem_singleton.mp hz]; exact hs3) _ _)
section
variable {C : Cs} {ls : List Loc} {e e2 e3 a b : Expr} {ds es : List D} {P : Post} {body : List Stmt} {pos p1 p2 p3 : Pos}
/-- for x in range(lo, hi, c): n turns -/
theorem js_forR3 [Cold C] {lo hi c : Int} {n : Nat} {x : Str} (j : Nat) (Pv : Nat → List Loc → Prop) (ha : JE C ls e (.int lo)) (hb2 : JE C ls e2 (.int hi)) (hc2 : JE C ls e3 (.int c)) (hr : RgC lo hi c n) (h0 : Pv 0 ls)
    (hb : ∀ (i : Nat) ls', i < n → Pv i ls' → JB C (ls'.set j (.val (.int (lo + i * c)))) body { nx := Pv (i + 1), rt := P.rt, bk := P.nx, ct := Pv (i + 1) })
    (hd : ∀ ls', Pv n ls' → P.nx ls') (hm : NoG C "range" := by assumption) (hg : ∀ j, Gl (C.X j) "range" := by intro _; rfl) (hs : NS e := by intro _ _; rfl) (hs2 : NS e2 := by intro _ _; rfl) (hs3 : NS e3 := by intro _ _; rfl) (hi' : C.N[j]? = some x := by rfl)
    (hx : ∀ i, L2.Loc (C.X i).env.scope x := by intro _; first | exact .inl rfl | exact .inr rfl)
    (hf : ∀ i, (C.X i).fn x = true ∨ (C.X i).env.scope.names.lookup x = some .local := by intro _; first | exact .inl rfl | exact .inr rfl)
    (hp : ∀ i, PassesOwn (model (C.X i).prog (C.X i).w) (C.X i).A (C.X i).env (C.X i).xe := by intro q; first | exact PassesOwn.never | exact passes_of rfl | exact q.owns)
    (hfs : ∀ i x, foldedSetIterable (.Call (.Name "range" p1) [e, e2, e3] [] p2) (C.X i).env x = pure x := by intro _ _; rfl) :
    JS C ls (.For (.Name x p3) (.Call (.Name "range" p1) [e, e2, e3] [] p2) body [] pos) P :=
  js_of (fun i => ps_for (hp i) (C.calm i Cold.h) (range3' i (hg i) hm hs hs2 hs3) (pg_name (i := j) (by rw [C.hN]; exact C.nd) (by rw [C.hN]; exact hi') (hx i) (hf i)) (pb_any C body i) (hfs i))
    (hs_for Pv n (fun _ Jt => Jt = Itc lo c n)
      (fun F G H σ S xx R q => (evA_cons (K := C.K) ha (evA_cons (K := C.K) hb2 (evA_cons (K := C.K) hc2 evA_nil))) F G H σ S xx _ fun vs G' H' eg eh S' hv => by
        cases hv with
        | cons h1 h2 =>
          cases h2 with
          | cons h3 h4 =>
            cases h4 with
            | cons h5 h6 =>
              cases h6
              exact ⟨lo, hi, c, n, by rw [dq_int h1, dq_int h3, dq_int h5], hr, q _ G' H' eg eh S' rfl⟩) h0
      (fun G Jt H hJ e => by subst hJ; exact Nat.le_refl _) (fun G Jt H i hJ e hi => by subst hJ; exact hi)
      (fun F G G0 H σ ls' i x Jt H1 hJ eg hi S p y D' f => by
        subst hJ
        obtain ⟨rfl, rfl⟩ := y
        exact hb i ls' hi p F G H1 _ D' (S.setV (.int _)) f) hd)
/-- for x, y in zip(a, b): two frozen lists of one length -/
theorem js_forZL [Cold C] {x y : Str} {q1 q2 tpos : Pos} {kk : Nat} (j1 j2 : Nat) (Pv : Nat → List Loc → Prop) (ha : JA C ls [a, b] [.lst ds, .lst es]) (hl : ds.length = es.length) (h0 : Pv 0 ls)
    (hb : ∀ (i : Nat) d e ls', ds[i]? = some d → es[i]? = some e → Pv i ls' → JB C ((ls'.set j1 (.val d)).set j2 (.val e)) body { nx := Pv (i + 1), rt := P.rt, bk := P.nx, ct := Pv (i + 1) })
    (hd : ∀ ls', Pv ds.length ls' → P.nx ls') (hm : NoG C "zip" := by assumption) (hg : ∀ j, Gl (C.X j) "zip" := by intro _; rfl) (hi : C.N[j1]? = some x := by rfl) (hi2 : C.N[j2]? = some y := by rfl)
    (hx : ∀ i, L2.Loc (C.X i).env.scope x := by intro _; first | exact .inl rfl | exact .inr rfl) (hy : ∀ i, L2.Loc (C.X i).env.scope y := by intro _; first | exact .inl rfl | exact .inr rfl)
    (hf : ∀ i, (C.X i).fn x = true ∨ (C.X i).env.scope.names.lookup x = some .local := by intro _; first | exact .inl rfl | exact .inr rfl) (hf2 : ∀ i, (C.X i).fn y = true ∨ (C.X i).env.scope.names.lookup y = some .local := by intro _; first | exact .inl rfl | exact .inr rfl)
    (hp : ∀ i, PassesOwn (model (C.X i).prog (C.X i).w) (C.X i).A (C.X i).env (C.X i).xe := by intro q; first | exact PassesOwn.never | exact passes_of rfl | exact q.owns)
    (hfs : ∀ i v, foldedSetIterable (.Call (.Name "zip" p1) [a, b] [] p2) (C.X i).env v = pure v := by intro _ _; rfl) :
    JS C ls (.For (.Tuple [.Name x q1, .Name y q2] kk tpos) (.Call (.Name "zip" p1) [a, b] [] p2) body [] pos) P :=
  js_of (t := tFor (RZ.iZipA C.K (aAny C [a, b])) (gTup C.K 2 (gCons (gName j1) (gCons (gName j2) gNil))) (bAny C body))
    (fun i => ps_for (hp i) (C.calm i Cold.h)
      (kx (p := fun K => PI (C.X i) _ (.Call (.Name "zip" p1) [a, b] [] p2) (RZ.iZipA K (aAny C [a, b]))) i (RZ.pi_zipA (hg i) (noG hm i) (pa_any C [a, b] i) (ha.ns a List.mem_cons_self _ _) (ns_any (fun z hz => ha.ns z (List.mem_cons_of_mem _ hz)) _ _)))
      (kx (p := fun K => PG (C.X i) _ (gTup K 2 (gCons (gName j1) (gCons (gName j2) gNil)))) i (pg_tup (C.calm i Cold.h) (pgs_cons (pg_name (i := j1) (by rw [C.hN]; exact C.nd) (by rw [C.hN]; exact hi) (hx i) (hf i)) (pgs_cons (pg_name (i := j2) (by rw [C.hN]; exact C.nd) (by rw [C.hN]; exact hi2) (hy i) (hf2 i)) pgs_nil))))
      (pb_any C body i) (hfs i))
    (hs_for Pv ds.length (fun G Jt => ∃ a vs b us, Jt = Itz C.K a b ∧ G a = some (.lst vs) ∧ DqAll C.K G vs ds ∧ G b = some (.lst us) ∧ DqAll C.K G us es)
      (fun F G H σ S xx R q => ha.ev F G H σ S xx _ fun vs G' H' eg eh S' hv => by
        cases hv with
        | cons h1 r =>
          cases r with
          | cons h2 r =>
            cases r
            obtain ⟨a, vs, rfl, ta, da⟩ := dq_lst h1
            obtain ⟨b, us, rfl, tb, db⟩ := dq_lst h2
            exact ⟨a, b, vs, us, rfl, .inl ⟨SqL.of (S'.ex _ _ ta), SqL.of (S'.ex _ _ tb), q _ G' H' eg eh S' ⟨a, vs, b, us, rfl, ta, da, tb, db⟩⟩⟩) h0
      (fun G Jt H hJ e => by
        obtain ⟨a, vs, b, us, rfl, ta, da, tb, db⟩ := hJ
        exact ⟨vs, us, SqL.of (e _ _ ta), SqL.of (e _ _ tb), .inl (by rw [da.length]; exact Nat.le_refl _)⟩)
      (fun G Jt H i hJ e hi => by
        obtain ⟨a, vs, b, us, rfl, ta, da, tb, db⟩ := hJ
        exact ⟨vs, us, vs[i]'(by rw [da.length]; exact hi), us[i]'(by rw [db.length, ← hl]; exact hi), SqL.of (e _ _ ta), SqL.of (e _ _ tb), List.getElem?_eq_getElem _, List.getElem?_eq_getElem _⟩)
      (fun F G G0 H σ ls' i v Jt H1 hJ eg hi S p yl D' f => by
        obtain ⟨a, vs, b, us, rfl, ta, da, tb, db⟩ := hJ
        obtain ⟨T, u1, u2, rfl, hT, rfl, f1, f2⟩ := yl
        have e1 := f1 vs (SqL.of ((eg.trans S.ex) _ _ ta))
        have e2 := f2 us (SqL.of ((eg.trans S.ex) _ _ tb))
        obtain ⟨d, m1, k1⟩ := da.get' e1
        obtain ⟨e, m2, k2⟩ := db.get' e2
        have g := S.ex.fresh hT
        have en := Ex.new (o := HO.tup [u1, u2]) g
        refine ⟨T, [u1, u2], rfl, SqT.of upd_same, rfl, u1, [u2], rfl, u2, [], rfl, rfl, ?_⟩
        exact hb i d e ls' m1 m2 p F (upd G T (.tup [u1, u2])) _ _ D' (((S.made hT).setV (dq_mono (eg.trans en) k1)).setV (dq_mono (eg.trans en) k2)) (f.step en (S.kp (Ex.new hT)))) hd)
end
end Qp

/-! Q23: loops over enumerate of a tuple. -/
namespace Qp
open PySem PySem.Spec PyProof.Rows L2
/-- enumerate over what begins with one new object -/
theorem enumB_meets {v : Value} {o : Obj} {Hb : Heap → Prop} (B : Begins v o Hb) : Meets (Builtin.«enumerate.__new__» ⟨[.type "enumerate", v], []⟩) (fun _ R s => Hb s.heap ∧
      R (.ok (.ret (.ref (s.heap.push o).objs.size))) { s with heap := (s.heap.push o).push { cls := .type "enumerate", data := .fields #[.none, .bool false, .ref s.heap.objs.size, rawInt 0, .none, .none] } }) := by
  refine .of_wp fun prog w A R s h => ?_
  obtain ⟨hp, gs, dd, tk, os⟩ := s
  obtain ⟨hB, h⟩ := h
  have sb := sub_enumerate
  have it : ∀ {A' : Around} {E : Value → Shared → Prop} {Q : Value → Shared → Prop}, Q (.ref hp.objs.size) ⟨hp.push o, gs, dd, tk, os⟩ → wpAny (model prog w) A' (pyIter v) Q E ⟨hp, gs, dd, tk, os⟩ :=
    fun q => B.iter prog w _ _ ⟨hp, gs, dd, tk, os⟩ _ hB q
  wp_walk using it
  refine wpAny_stack_any fun st => wpAny_pure ?_
  split
  · rename_i c _ _ _ _ _
    cases (c == Value.type "enumerate") <;> (wp_walk using it; exact ⟨_, rfl, h⟩)
  · wp_walk using it
    exact ⟨_, rfl, h⟩
theorem enumB_call {prog : Program} {w : World} {A : Around} {E : Value → Shared → Prop} {s : Shared} {v : Value} {o : Obj} {Hb : Heap → Prop} {Q : Value → Shared → Prop} (B : Begins v o Hb) (hB : Hb s.heap)
    (h : ∀ h', IsEnum h' (s.heap.objs.size + 1) s.heap.objs.size 0 .none → h'.get? s.heap.objs.size = some o → (∀ b u, s.heap.get? b = some u → h'.get? b = some u) → Q (.ref (s.heap.objs.size + 1)) { s with heap := h' }) :
    wpAny (model prog w) A (call (.type "enumerate") [v]) Q E s := by
  refine callType_new F.called_enumerate (by decide) (F.typeCall_enumerate_1 _) (F.newCall_enumerate_1 _) (fun obj => F.args_object_init_2 obj _) F.entry_enumerate_new (enumB_meets B) ⟨hB, ?_⟩
  have z1 : (s.heap.push o).objs.size = s.heap.objs.size + 1 := Heap.size_push ..
  have e1 : IsEnum ((s.heap.push o).push { cls := .type "enumerate", data := .fields #[.none, .bool false, .ref s.heap.objs.size, rawInt 0, .none, .none] }) (s.heap.objs.size + 1) s.heap.objs.size 0 .none := by
    rw [← z1]
    exact Heap.get?_push_size _ rfl
  show _ ∧ _
  rw [z1]
  exact ⟨⟨_, e1, rfl⟩, h _ e1 (Heap.get?_push_of_some _ (Heap.get?_push_size _ B.free)) fun b u x => Heap.get?_push_of_some _ (Heap.get?_push_of_some _ x)⟩
/-- the tuple at a, each item in a new pair -/
def ItnT (K : Fg) (a : Addr) : It :=
  ⟨fun i H => ∃ (xs : List V) (x : V), SqT K H a xs ∧ xs[i]? = some x, fun i H v H' => ∃ T x, v = .ref T ∧ H T = none ∧ H' = upd H T (.tup [.int (i : Nat), x]) ∧ ∀ xs, SqT K H a xs → xs[i]? = some x, fun i H => ∃ xs : List V, SqT K H a xs ∧ xs.length = i⟩
theorem turn_nT {P : Program} {w : World} {K : Fg} {elts : List Expr} {kk : Nat} {tpos : Pos} {a e it : Addr} (hne : e ≠ it) (hia : a ≠ it) (hea : a ≠ e) :
    Turn P w K (.Tuple elts kk tpos) (ItnT K a) [e, it] e (fun i h => (∃ old, IsEnum h e it ((i : Nat) : Int) old) ∧ h.IsTupleIter it a i) where
  mem := by simp
  obj := fun i h st b hb => by
    obtain ⟨⟨old, he⟩, ⟨o, ho, hc, hd⟩⟩ := st
    rcases (show b = e ∨ b = it by simpa using hb) with z | z
    · rw [z]; exact ⟨_, he, fun v q => nomatch q⟩
    · rw [z]; exact ⟨o, ho, fun v q => by rw [hd] at q; cases q⟩
  keep := fun i h h' st k => let ⟨⟨old, he⟩, hi⟩ := st; ⟨⟨old, k e (by simp) _ he⟩, hi.at fun o q => k it (by simp) o q⟩
  item := by
    intro X hP hw hK hc i pins s σ H E I hf st hg
    subst hP hw hK
    obtain ⟨⟨old, he⟩, hit⟩ := st
    obtain ⟨xs, x, hq, hx⟩ := hg
    obtain ⟨its, rv, p, hz⟩ := I.tuple hq
    obtain ⟨u, hu, ru⟩ := rv.get hx
    have hel : e < s.heap.objs.size := Heap.lt_size he
    have hil : it < s.heap.objs.size := by obtain ⟨_, q, _⟩ := hit; exact Heap.lt_size q
    have hlt : i < its.toArray.size := by rw [List.size_toArray]; exact (List.getElem?_eq_some_iff.mp hu).1
    refine wpAny_pyNext_enum_itemD (Draws.tuple (A := X.A.in1) (I.ok.hd hc) it a hia its.toArray) he ⟨hit, p⟩ hlt hne (by simp only [List.mem_cons, List.not_mem_nil, or_false, not_or]; exact ⟨hne, Ne.symm hea⟩) fun v h' tk hv ho hst hT hsz hk => ?_
    have ev : v = u := by
      rw [List.getElem?_toArray, hu] at hv
      exact (Option.some.inj hv).symm
    subst ev
    refine ⟨_, rfl, wpAny_letOwnedTupleGo_enum (s := { s with heap := h', toks := tk + 1 }) ho fun h'' he' sb => ?_⟩
    have hT2 : h''.get? s.heap.objs.size = some { cls := .type "tuple", data := .seq #[.int i tk, v] } := (sb.2 _ (Nat.ne_of_gt hel)).trans hT
    have new : ObjOk X.prog X.w (upd H s.heap.objs.size (.tup [.int (i : Nat), x])) h'' s.heap.objs.size (.tup [.int (i : Nat), x]) :=
      ⟨by show 2 ≤ sizeLine; decide, [.int i tk, v], .cons ⟨_, rfl⟩ (.cons ru .nil), ⟨_, hT2, rfl, _, rfl⟩⟩
    have I1 : Inv X pins σ (upd H s.heap.objs.size (.tup [.int (i : Nat), x])) { s with heap := h'', toks := tk + 1 } :=
      I.turnedNew (ch := [e, it]) (fun b ob hb q => (sb.2 b (fun z => hb (by simp [z]))).trans (hk b ob (fun z => hb (by simp [z])) (fun z => hb (by simp [z])) q)) hf (Nat.le_refl _) new
    refine ⟨.ref s.heap.objs.size, _, I1, rfl, ⟨_, x, rfl, I.hok.fresh (Nat.le_refl _), rfl, fun ys hy => by rw [I.tuple_inj hy hq]; exact hx⟩, ⟨⟨v, ?_⟩, hst.1.at fun o q => (sb.2 it (Ne.symm hne)).trans q⟩, fun b hb => ?_⟩
    · have e1 : ((i + 1 : Nat) : Int) = (i : Int) + 1 := by omega
      rw [e1]; exact he'
    · have hb' : b < s.heap.objs.size := by
        rcases (show b = e ∨ b = it by simpa using hb) with z | z
        · rw [z]; exact hel
        · rw [z]; exact hil
      rw [upd_ne (Nat.ne_of_lt hb')]
      exact (hf b hb).1
  done := by
    intro X hP hw hK hc i pins s σ H E I hf st hg
    subst hP hw hK
    obtain ⟨⟨old, he⟩, hit⟩ := st
    obtain ⟨xs, hq, hx⟩ := hg
    obtain ⟨its, rv, p, hz⟩ := I.tuple hq
    obtain ⟨f0, f1, f2, f3, f4, f5⟩ := hf it (by simp)
    have hl := rv.length
    refine wpAny_pyNext_enum_endD (Draws.tuple (A := X.A.in1) (I.ok.hd hc) it a hia its.toArray) he (by rw [List.size_toArray, show its.length = i by omega]; exact ⟨hit, p⟩) fun h' eb => ⟨rfl, I.turned (t' := s.toks) (fun b o hb q => eb b o hb q) f0 f1 f3 f4 f5⟩
  self := fun A i s Q E st h => let ⟨⟨_, he⟩, _⟩ := st; wpAny_pyIter_enum he h
def iEnT (K : Fg) (ta : TA) : TI := fun σ H R => ta σ H fun vs H1 => ∃ a xs, vs = [.ref a] ∧ SqT K H1 a xs ∧ R (ItnT K a) H1
theorem pi_enT {X : Cx} {e : Expr} {ta : TA} {p pos tpos : Pos} {elts : List Expr} {kk : Nat} (hg : Gl X "enumerate") (hm : X.mg "enumerate" = none) (ha : PA X [e] ta) (hs : starEach [e] X.env = [(false, eval e X.env)] := by rfl) :
    PI X (.Tuple elts kk tpos) (.Call (.Name "enumerate" p) [e] [] pos) (iEnT X.K ta) := by
  refine ⟨fun pins s σ H R I h => ?_⟩
  refine Call_ (ld_blt I hg hm boot_enumerate (PyProof.Rows.callWith_type1 (thn (ha.run pos pins s σ H _ I h) fun us s1 ⟨vs, H1, I1, r1, q1⟩ => ?_) hs rfl))
  obtain ⟨a, xs, ex, hq, q⟩ := q1
  subst ex
  cases r1 with
  | cons r rr =>
    cases rr
    cases r
    obtain ⟨its, rv, p', hz⟩ := I1.tuple hq
    obtain ⟨oa, hoa, _⟩ := id p'
    have la := Heap.lt_size hoa
    refine enumB_call (begins_tuple a its.toArray) p' fun h' he hit hk => wpAny_pyIter_enum he ?_
    have I2 : Inv X pins σ H1 { s1 with heap := h' } := I1.kept (t' := s1.toks) hk
    refine ⟨s1.heap.objs.size + 1, [s1.heap.objs.size + 1, s1.heap.objs.size], _, _, H1, rfl, I2, turn_nT (a := a) (Nat.succ_ne_self _) (Nat.ne_of_lt la) (Nat.ne_of_lt (Nat.lt_succ_of_lt la)), ⟨⟨.none, he⟩, ⟨_, hit, rfl, rfl⟩⟩, fun b hb => ?_, q⟩
    have hle : s1.heap.objs.size ≤ b := by
      rcases (show b = s1.heap.objs.size + 1 ∨ b = s1.heap.objs.size by simpa using hb) with z | z
      · rw [z]; exact Nat.le_succ _
      · rw [z]; exact Nat.le_refl _
    exact I1.fpOk hle (I1.hok.fresh hle)
section
variable {C : Cs} {ls : List Loc} {e a b : Expr} {ds es : List D} {P : Post} {body : List Stmt} {pos p1 p2 p3 : Pos}
/-- for x, y in enumerate(a tuple) -/
theorem js_forE [Cold C] {x y : Str} {q1 q2 tpos : Pos} {kk : Nat} (j1 j2 : Nat) (Pv : Nat → List Loc → Prop) (ha : JA C ls [a] [.tup ds]) (h0 : Pv 0 ls)
    (hb : ∀ (i : Nat) d ls', ds[i]? = some d → Pv i ls' → JB C ((ls'.set j1 (.val (.int i))).set j2 (.val d)) body { nx := Pv (i + 1), rt := P.rt, bk := P.nx, ct := Pv (i + 1) })
    (hd : ∀ ls', Pv ds.length ls' → P.nx ls') (hm : NoG C "enumerate" := by assumption) (hg : ∀ j, Gl (C.X j) "enumerate" := by intro _; rfl) (hi : C.N[j1]? = some x := by rfl) (hi2 : C.N[j2]? = some y := by rfl)
    (hx : ∀ i, L2.Loc (C.X i).env.scope x := by intro _; first | exact .inl rfl | exact .inr rfl) (hy : ∀ i, L2.Loc (C.X i).env.scope y := by intro _; first | exact .inl rfl | exact .inr rfl)
    (hf : ∀ i, (C.X i).fn x = true ∨ (C.X i).env.scope.names.lookup x = some .local := by intro _; first | exact .inl rfl | exact .inr rfl) (hf2 : ∀ i, (C.X i).fn y = true ∨ (C.X i).env.scope.names.lookup y = some .local := by intro _; first | exact .inl rfl | exact .inr rfl)
    (hp : ∀ i, PassesOwn (model (C.X i).prog (C.X i).w) (C.X i).A (C.X i).env (C.X i).xe := by intro q; first | exact PassesOwn.never | exact passes_of rfl | exact q.owns)
    (hfs : ∀ i v, foldedSetIterable (.Call (.Name "enumerate" p1) [a] [] p2) (C.X i).env v = pure v := by intro _ _; rfl) :
    JS C ls (.For (.Tuple [.Name x q1, .Name y q2] kk tpos) (.Call (.Name "enumerate" p1) [a] [] p2) body [] pos) P :=
  js_of (t := tFor (iEnT C.K (aAny C [a])) (gTup C.K 2 (gCons (gName j1) (gCons (gName j2) gNil))) (bAny C body))
    (fun i => ps_for (hp i) (C.calm i Cold.h)
      (kx (p := fun K => PI (C.X i) _ (.Call (.Name "enumerate" p1) [a] [] p2) (iEnT K (aAny C [a]))) i (pi_enT (hg i) (noG hm i) (pa_any C [a] i) (ha.ns a List.mem_cons_self _ _)))
      (kx (p := fun K => PG (C.X i) _ (gTup K 2 (gCons (gName j1) (gCons (gName j2) gNil)))) i (pg_tup (C.calm i Cold.h) (pgs_cons (pg_name (i := j1) (by rw [C.hN]; exact C.nd) (by rw [C.hN]; exact hi) (hx i) (hf i)) (pgs_cons (pg_name (i := j2) (by rw [C.hN]; exact C.nd) (by rw [C.hN]; exact hi2) (hy i) (hf2 i)) pgs_nil))))
      (pb_any C body i) (hfs i))
    (hs_for Pv ds.length (fun G Jt => ∃ a vs, Jt = ItnT C.K a ∧ SqT C.K G a vs ∧ DqAll C.K G vs ds)
      (fun F G H σ S xx R q => ha.ev F G H σ S xx _ fun vs G' H' eg eh S' hv => by
        cases hv with
        | cons h1 r =>
          cases r
          obtain ⟨a, vs, rfl, ta, da⟩ := dq_tup h1
          exact ⟨a, vs, rfl, ex_t S'.ex ta, q _ G' H' eg eh S' ⟨a, vs, rfl, ta, da⟩⟩) h0
      (fun G Jt H hJ e => by
        obtain ⟨a, vs, rfl, ta, da⟩ := hJ
        exact ⟨vs, ex_t e ta, da.length⟩)
      (fun G Jt H i hJ e hi => by
        obtain ⟨a, vs, rfl, ta, da⟩ := hJ
        exact ⟨vs, vs[i]'(by rw [da.length]; exact hi), ex_t e ta, List.getElem?_eq_getElem _⟩)
      (fun F G G0 H σ ls' i v Jt H1 hJ eg hi S p yl D' f => by
        obtain ⟨a, vs, rfl, ta, da⟩ := hJ
        obtain ⟨T, u1, rfl, hT, rfl, f1⟩ := yl
        have e1 := f1 vs (ex_t (eg.trans S.ex) ta)
        obtain ⟨d, m1, k1⟩ := da.get' e1
        have g := S.ex.fresh hT
        have en := Ex.new (o := HO.tup [.int (i : Nat), u1]) g
        refine ⟨T, [.int (i : Nat), u1], rfl, SqT.of upd_same, rfl, .int (i : Nat), [u1], rfl, u1, [], rfl, rfl, ?_⟩
        exact hb i d ls' m1 p F (upd G T (.tup [.int (i : Nat), u1])) _ _ D' (((S.made hT).setV (.int _)).setV (dq_mono (eg.trans en) k1)) (f.step en (S.kp (Ex.new hT)))) hd)
end
end Qp

/-! Q24: tuple(zip(*rows)), at the model's level: any number of tuples, each at least one long. -/
namespace Qz
open PySem PySem.Spec PyProof.Rows
abbrev zipO (TI TO : Addr) (f0 f1 : Value) : Obj := { cls := .type "zip", dict := none, data := .fields #[f0, f1, .bool false, .ref TI, .ref TO], slots := #[] }
abbrev tupO (vs : Array Value) : Obj := { cls := .type "tuple", data := .seq vs }
abbrev tuIt (t : Addr) : Obj := { cls := .type "tuple_iterator", data := .fields #[.ref t, .int 0 0] }
abbrev lstO (vs : Array Value) (c : Nat) : Obj := { cls := .type "list", dict := none, data := .seq vs c, slots := #[] }
def refsFrom (b n : Nat) : List Value := (List.range' b n).map fun a => Value.ref a
theorem refsFrom_cons (b n : Nat) : refsFrom b (n + 1) = .ref b :: refsFrom (b + 1) n := rfl
theorem refsFrom_len (b n : Nat) : (refsFrom b n).length = n := by unfold refsFrom; rw [List.length_map, List.length_range']
/-! ### zip made -/
def pushIts (h : Heap) : List Addr → Heap
  | [] => h
  | t :: ts => pushIts (h.push (tuIt t)) ts
theorem pushIts_size : ∀ (ts : List Addr) (h : Heap), (pushIts h ts).objs.size = h.objs.size + ts.length
  | [], h => rfl
  | t :: ts, h => by
    show (pushIts (h.push (tuIt t)) ts).objs.size = _
    rw [pushIts_size ts, Heap.size_push, List.length_cons]
    omega
theorem pushIts_keep : ∀ (ts : List Addr) (h : Heap) (a : Addr) (o : Obj), h.get? a = some o → (pushIts h ts).get? a = some o
  | [], h, a, o, e => e
  | t :: ts, h, a, o, e => pushIts_keep ts _ a o (Heap.get?_push_of_some _ e)
theorem pushIts_at : ∀ (ts : List Addr) (h : Heap) (m : Nat) (t : Addr), ts[m]? = some t → (pushIts h ts).get? (h.objs.size + m) = some (tuIt t)
  | t :: ts, h, 0, _, e => by
    cases e
    exact pushIts_keep ts _ _ _ (Heap.get?_push_size _ rfl)
  | t :: ts, h, m + 1, u, e => by
    have z := pushIts_at ts (h.push (tuIt t)) m u e
    rw [Heap.size_push] at z
    rw [show h.objs.size + (m + 1) = h.objs.size + 1 + m by omega]
    exact z
section
variable {prog : Program} {w : World} {A : Around} {E : Value → Shared → Prop} {s : Shared}
theorem newClass_zip (us : List Value) : Builtin.SmallTypes.newClass "zip" ⟨.type "zip" :: us, []⟩ = pure (.type "zip", us) := by
  unfold Builtin.SmallTypes.newClass
  simp only [isType, sub_zip, pure_bind, Bool.not_true, Bool.false_eq_true, if_false]
theorem iterAll_loop {f : Value → Array Value → Sem (ForInStep (Array Value))}
    (hf : ∀ (t : Addr) (items : Array Value) (acc : Array Value) (s : Shared) (Q : ForInStep (Array Value) → Shared → Prop) (E : Value → Shared → Prop), s.heap.IsTuple t items → Q (.yield (acc.push (.ref s.heap.objs.size))) { s with heap := s.heap.push (tuIt t) } → wpAny (model prog w) A (f (.ref t) acc) Q E s) :
    ∀ (ts : List Addr) (s : Shared) (acc : Array Value) (Q : Array Value → Shared → Prop), (∀ t ∈ ts, ∃ items, s.heap.IsTuple t items) → Q (acc ++ (refsFrom s.heap.objs.size ts.length).toArray) { s with heap := pushIts s.heap ts } →
      wpAny (model prog w) A (forIn (ts.map fun t => Value.ref t) acc f) Q E s
  | [], s, acc, Q, ht, q => by
    rw [List.map_nil, List.forIn_nil]
    refine wpAny_pure ?_
    have e : acc ++ (refsFrom s.heap.objs.size 0).toArray = acc := by
      show acc ++ #[] = acc
      simp
    rw [show ([] : List Addr).length = 0 from rfl, e] at q
    exact q
  | t :: ts, s, acc, Q, ht, q => by
    rw [List.map_cons, List.forIn_cons]
    obtain ⟨items, h1⟩ := ht t List.mem_cons_self
    refine wpAny_bind (hf t items acc s _ E h1 ?_)
    refine iterAll_loop hf ts { s with heap := s.heap.push (tuIt t) } (acc.push (.ref s.heap.objs.size)) Q (fun u hu => ?_) ?_
    · obtain ⟨its, hi⟩ := ht u (List.mem_cons_of_mem _ hu)
      exact ⟨its, hi.push _⟩
    · have e : acc.push (.ref s.heap.objs.size) ++ (refsFrom (s.heap.push (tuIt t)).objs.size ts.length).toArray = acc ++ (refsFrom s.heap.objs.size (t :: ts).length).toArray := by
        rw [Heap.size_push, List.length_cons, refsFrom_cons]
        apply Array.ext'
        simp
      show Q (acc.push (.ref s.heap.objs.size) ++ (refsFrom (s.heap.push (tuIt t)).objs.size ts.length).toArray) _
      rw [e]
      exact q
/-- the heap behind zip(..) -/
def zipH (h : Heap) (ts : List Addr) : Heap :=
  (((pushIts h ts).push (tupO (refsFrom h.objs.size ts.length).toArray)).push (tupO ((refsFrom h.objs.size ts.length).map fun _ => Value.none).toArray)).push (zipO (h.objs.size + ts.length) (h.objs.size + ts.length + 1) .none (.bool false))
theorem zip_new {ts : List Addr} {Q : PySem.Fin → Shared → Prop} (ht : ∀ t ∈ ts, ∃ items, s.heap.IsTuple t items) (hn : ts.length ≤ 1000)
    (q : Q (.done (.ret (.ref (s.heap.objs.size + ts.length + 2)))) { s with heap := zipH s.heap ts }) : wpAny (model prog w) A (Builtin.«zip.__new__» ⟨.type "zip" :: ts.map fun t => Value.ref t, []⟩) Q E s := by
  unfold Builtin.«zip.__new__»
  rw [newClass_zip]
  simp only [pure_bind]
  rw [if_neg (by decide)]
  unfold Builtin.SmallTypes.iterAll
  refine wpAny_bind (wpAny_bind (iterAll_loop (fun t items acc s Q E h1 q1 => by
    refine wpAny_bind (m := holding acc.toList (pyIter (.ref t))) (wpAny_holding (wpAny_pyIter_tuple h1 ?_))
    exact wpAny_pure q1) ts s #[] _ ht ?_))
  refine wpAny_pure ?_
  have e : (#[] ++ (refsFrom s.heap.objs.size ts.length).toArray).toList = refsFrom s.heap.objs.size ts.length := by simp
  rw [e]
  refine wpAny_bind (wpAny_newObj_type ?_ (by show (refsFrom s.heap.objs.size ts.length).toArray.size ≤ sizeLine; rw [List.size_toArray, refsFrom_len]; exact Nat.le_trans hn (by decide)))
  refine wpAny_bind (wpAny_newObj_type ?_ (by show ((refsFrom s.heap.objs.size ts.length).map fun _ => Value.none).toArray.size ≤ sizeLine; rw [List.size_toArray, List.length_map, refsFrom_len]; exact Nat.le_trans hn (by decide)))
  unfold Builtin.SmallTypes.newRecord
  refine wpAny_bind (wpAny_newObj_type ?_ (by show 5 ≤ sizeLine + 2; decide))
  refine wpAny_pure ?_
  have z1 : (pushIts s.heap ts).objs.size = s.heap.objs.size + ts.length := pushIts_size _ _
  have z2 : ((pushIts s.heap ts).push (tupO (refsFrom s.heap.objs.size ts.length).toArray)).objs.size = s.heap.objs.size + ts.length + 1 := by rw [Heap.size_push, z1]
  have z3 : (((pushIts s.heap ts).push (tupO (refsFrom s.heap.objs.size ts.length).toArray)).push (tupO ((refsFrom s.heap.objs.size ts.length).map fun _ => Value.none).toArray)).objs.size = s.heap.objs.size + ts.length + 2 := by rw [Heap.size_push, z2]
  have z : zipH s.heap ts = (((pushIts s.heap ts).push (tupO (refsFrom s.heap.objs.size ts.length).toArray)).push (tupO ((refsFrom s.heap.objs.size ts.length).map fun _ => Value.none).toArray)).push (zipO (pushIts s.heap ts).objs.size ((pushIts s.heap ts).push (tupO (refsFrom s.heap.objs.size ts.length).toArray)).objs.size .none (.bool false)) := by
    unfold zipH
    rw [z1, z2]
  rw [z, ← z3] at q
  exact q
/-! ### next of a zip -/
theorem ane {a b : Nat} (h : a < b ∨ b < a) : @Ne Addr a b := fun e => by
  have e' : a = b := e
  omega
/-- what loops over the iterators of a zip keeps: those below j have been drawn from -/
structure ItAt (base n k : Nat) (tp : Nat → Addr) (rw : Nat → Array Value) (j : Nat) (h : Heap) : Prop where
  it : ∀ m, m < n → h.IsTupleIter (base + m) (tp m) (if m < j then k + 1 else k)
  tup : ∀ m, m < n → h.IsTuple (tp m) (rw m)
theorem ItAt.step {base n k : Nat} {tp : Nat → Addr} {rw : Nat → Array Value} {j : Nat} {h h' : Heap} (I : ItAt base n k tp rw j h) (hj : j < n) (hb : ∀ m, m < n → tp m < base) (hi : h'.IsTupleIter (base + j) (tp j) (k + 1)) (hs : ∀ b, b ≠ base + j → (b < base ∨ b < base + n) → h'.get? b = h.get? b) : ItAt base n k tp rw (j + 1) h' where
  it := fun m hm => by
    by_cases e : m = j
    · rw [e, if_pos (Nat.lt_succ_self _)]
      exact hi
    · have z := I.it m hm
      have z2 : h'.IsTupleIter (base + m) (tp m) (if m < j then k + 1 else k) := z.at fun o q => (hs _ (ane (by omega)) (.inr (by omega))).trans q
      by_cases e2 : m < j
      · rw [if_pos e2] at z2
        rw [if_pos (by omega)]
        exact z2
      · rw [if_neg e2] at z2
        rw [if_neg (by omega)]
        exact z2
  tup := fun m hm => (I.tup m hm).at fun o q => (hs _ (ane (.inl (Nat.lt_of_lt_of_le (hb m hm) (Nat.le_add_right _ _)))) (.inl (hb m hm))).trans q
theorem ItAt.same {base n k : Nat} {tp : Nat → Addr} {rw : Nat → Array Value} {j : Nat} {h h' : Heap} (I : ItAt base n k tp rw j h) (hb : ∀ m, m < n → tp m < base) (hs : ∀ b, b < base + n → h'.get? b = h.get? b) : ItAt base n k tp rw j h' where
  it := fun m hm => (I.it m hm).at fun o q => (hs _ (by omega)).trans q
  tup := fun m hm => (I.tup m hm).at fun o q => (hs _ (Nat.lt_of_lt_of_le (hb m hm) (Nat.le_add_right _ _))).trans q
theorem ItAt.next {base n k : Nat} {tp : Nat → Addr} {rw : Nat → Array Value} {h : Heap} (I : ItAt base n k tp rw n h) : ItAt base n (k + 1) tp rw 0 h where
  it := fun m hm => by
    have z := I.it m hm
    rw [if_pos hm] at z
    rw [if_neg (by omega)]
    exact z
  tup := I.tup
/-- the second form: the things drawn are put into a new list -/
theorem drawB {base n k : Nat} {tp : Nat → Addr} {rw : Nat → Array Value} {val : Nat → Value} {f : Value → Option PySem.Fin × Array Value → Sem (ForInStep (Option PySem.Fin × Array Value))}
    (hf : ∀ (it l : Addr) (items : Array Value) (x : Value) (acc : Array Value) (s : Shared) (Q : ForInStep (Option PySem.Fin × Array Value) → Shared → Prop) (E : Value → Shared → Prop), s.heap.IsTupleIter it l k → s.heap.IsTuple l items → items[k]? = some x →
      (∀ h', h'.IsTupleIter it l (k + 1) → Heap.SameBut it s.heap h' → Q (.yield (none, acc.push x)) { s with heap := h' }) → wpAny (model prog w) A (f (.ref it) (none, acc)) Q E s)
    (hb : ∀ m, m < n → tp m < base) (hv : ∀ m, m < n → (rw m)[k]? = some (val m)) :
    ∀ (r j : Nat) (s : Shared) (acc : Array Value) (Q : Option PySem.Fin × Array Value → Shared → Prop), j + r = n → ItAt base n k tp rw j s.heap →
      (∀ h', ItAt base n k tp rw n h' → h'.objs.size = s.heap.objs.size → (∀ b, (b < base ∨ base + n ≤ b) → h'.get? b = s.heap.get? b) → Q (none, acc ++ ((List.range' j r).map val).toArray) { s with heap := h' }) →
      wpAny (model prog w) A (forIn (refsFrom (base + j) r) (none, acc) f) Q E s
  | 0, j, s, acc, Q, hj, I, q => by
    show wpAny _ _ (forIn [] (none, acc) f) Q E s
    rw [List.forIn_nil]
    have e : acc ++ ((List.range' j 0).map val).toArray = acc := by
      show acc ++ #[] = acc
      simp
    have z := q s.heap (by rw [← hj, Nat.add_zero]; rw [← hj, Nat.add_zero] at I; exact I) rfl fun b _ => rfl
    rw [e] at z
    exact wpAny_pure z
  | r + 1, j, s, acc, Q, hj, I, q => by
    have hlt : j < n := by omega
    rw [refsFrom_cons, List.forIn_cons]
    have i0 := I.it j hlt
    rw [if_neg (Nat.lt_irrefl _)] at i0
    refine wpAny_bind (hf (base + j) (tp j) (rw j) (val j) acc s _ E i0 (I.tup j hlt) (hv j hlt) fun h' hi hs => ?_)
    refine drawB hf hb hv r (j + 1) { s with heap := h' } (acc.push (val j)) Q (by omega) (I.step hlt hb hi fun b hbj _ => hs.2 b hbj) fun h2 I2 z2 k2 => ?_
    have e : acc.push (val j) ++ ((List.range' (j + 1) r).map val).toArray = acc ++ ((List.range' j (r + 1)).map val).toArray := by
      rw [List.range'_succ, List.map_cons]
      apply Array.ext'
      simp
    rw [e]
    exact q h2 I2 (z2.trans hs.1) fun b hb2 => (k2 b hb2).trans (hs.2 b (ane (by omega)))
/-- the first form: they are put into the tuple that the zip keeps -/
theorem drawA {base n k TO : Nat} {tp : Nat → Addr} {rw : Nat → Array Value} {val : Nat → Value} {f : Value × Nat → Option PySem.Fin × Unit → Sem (ForInStep (Option PySem.Fin × Unit))}
    (hf : ∀ (it l : Addr) (m : Nat) (items kept : Array Value) (x : Value) (s : Shared) (Q : ForInStep (Option PySem.Fin × Unit) → Shared → Prop) (E : Value → Shared → Prop), it ≠ TO → s.heap.IsTupleIter it l k → s.heap.IsTuple l items → items[k]? = some x → s.heap.get? TO = some (tupO kept) → kept.size = n →
      (∀ h', h'.IsTupleIter it l (k + 1) → h'.get? TO = some (tupO (kept.setIfInBounds m x)) → h'.objs.size = s.heap.objs.size → (∀ b, b ≠ it → b ≠ TO → h'.get? b = s.heap.get? b) → Q (.yield (none, ())) { s with heap := h' }) → wpAny (model prog w) A (f (.ref it, m) (none, ())) Q E s)
    (hb : ∀ m, m < n → tp m < base) (hv : ∀ m, m < n → (rw m)[k]? = some (val m)) (hTO : base + n ≤ TO) :
    ∀ (r j : Nat) (s : Shared) (kept : Array Value) (Q : Option PySem.Fin × Unit → Shared → Prop), j + r = n → ItAt base n k tp rw j s.heap → s.heap.get? TO = some (tupO kept) → kept.size = n → (∀ m, m < j → kept[m]? = some (val m)) →
      (∀ h', ItAt base n k tp rw n h' → h'.get? TO = some (tupO ((List.range n).map val).toArray) → h'.objs.size = s.heap.objs.size → (∀ b, (b < base ∨ base + n ≤ b) → b ≠ TO → h'.get? b = s.heap.get? b) → Q (none, ()) { s with heap := h' }) →
      wpAny (model prog w) A (forIn ((refsFrom (base + j) r).zipIdx j) (none, ()) f) Q E s
  | 0, j, s, kept, Q, hj, I, ht, hz, hk, q => by
    show wpAny _ _ (forIn [] (none, ()) f) Q E s
    rw [List.forIn_nil]
    have ej : j = n := by omega
    subst ej
    have e : kept = ((List.range j).map val).toArray := by
      apply Array.ext
      · rw [hz]; simp
      · intro i h1 h2
        have h3 := hk i (by omega)
        rw [Array.getElem?_eq_getElem h1] at h3
        have h4 := Option.some.inj h3
        rw [h4]
        simp
    rw [e] at ht
    exact wpAny_pure (q s.heap I ht rfl fun b _ _ => rfl)
  | r + 1, j, s, kept, Q, hj, I, ht, hz, hk, q => by
    have hlt : j < n := by omega
    rw [refsFrom_cons, List.zipIdx_cons, List.forIn_cons]
    have i0 := I.it j hlt
    rw [if_neg (Nat.lt_irrefl _)] at i0
    refine wpAny_bind (hf (base + j) (tp j) j (rw j) kept (val j) s _ E (ane (by omega)) i0 (I.tup j hlt) (hv j hlt) ht hz fun h' hi ht' hs' kp => ?_)
    refine drawA hf hb hv hTO r (j + 1) { s with heap := h' } (kept.setIfInBounds j (val j)) Q (by omega) (I.step hlt hb hi fun b hbj hbn => kp b hbj (ane (by omega))) ht' (by rw [Array.size_setIfInBounds]; exact hz) (fun m hm => ?_) fun h2 I2 t2 z2 k2 => ?_
    · by_cases e : m = j
      · rw [e, Array.getElem?_setIfInBounds_self_of_lt (by omega)]
      · rw [Array.getElem?_setIfInBounds_ne (by omega)]
        exact hk m (by omega)
    · exact q h2 I2 t2 (z2.trans hs') fun b hb2 hbt => (k2 b hb2 hbt).trans (kp b (ane (by omega)) hbt)
/-- one turn, the kept tuple free -/
theorem zip_nextA {base n TO : Nat} {tp : Nat → Addr} {rw : Nat → Array Value} {val : Nat → Value} {kept : Array Value} {Q : Value → Shared → Prop} (hn : 0 < n) (hn1 : n ≤ 1000) (hTO : TO = base + n + 1)
    (hz : s.heap.get? (base + n + 2) = some (zipO (base + n) TO .none (.bool false))) (hTI : s.heap.get? (base + n) = some (tupO (refsFrom base n).toArray)) (ht : s.heap.get? TO = some (tupO kept)) (hkz : kept.size = n)
    (hb : ∀ m, m < n → tp m < base) (hv : ∀ m, m < n → (rw m)[0]? = some (val m)) (I : ItAt base n 0 tp rw 0 s.heap)
    (q : ∀ h', ItAt base n 0 tp rw n h' → h'.get? (base + n + 2) = some (zipO (base + n) TO (rawInt (s.heap.objs.size : Nat)) (.bool false)) → h'.get? s.heap.objs.size = some (tupO ((List.range n).map val).toArray) → h'.objs.size = s.heap.objs.size + 1 →
      (∀ b, b < s.heap.objs.size → (b < base ∨ base + n ≤ b) → b ≠ TO → b ≠ base + n + 2 → h'.get? b = s.heap.get? b) → Q (.ref s.heap.objs.size) { s with heap := h' }) :
    wpAny (model prog w) A (Builtin.«zip.__next__» ⟨[.ref (base + n + 2 : Nat)], []⟩) (fun fin s' => ∃ v, fin = .done (.ret v) ∧ Q v s') E s := by
  show wpAny _ _ (field (.ref (base + n + 2 : Nat)) 2 >>= _) _ _ _
  refine wpAny_bind (wpAny_field hz rfl (x := .bool false) rfl ?_)
  show wpAny _ _ (field (.ref (base + n + 2 : Nat)) 3 >>= _) _ _ _
  refine wpAny_bind (wpAny_field hz rfl (x := .ref (base + n : Nat)) rfl ?_)
  refine wpAny_bind (wpAny_seqItems hTI rfl ?_)
  dsimp only
  rw [if_neg (by rw [Array.isEmpty_iff_size_eq_zero, List.size_toArray, refsFrom_len]; omega)]
  refine wpAny_bind ?_
  unfold Builtin.SmallTypes.ownedTupleIsFree
  refine wpAny_bind (wpAny_field hz rfl (x := .none) rfl (wpAny_pure ?_))
  rw [if_pos rfl]
  refine wpAny_bind (wpAny_rule ?_)
  refine wpAny_bind (wpAny_field hz rfl (x := .ref TO) rfl ?_)
  refine wpAny_bind (wpAny_setField_rec hz (by simp) fun h1 hz1 hs1 => ?_)
  replace hz1 : h1.get? (base + n + 2) = some (zipO (base + n) TO .ellipsis (.bool false)) := hz1
  refine wpAny_bind ?_
  have I1 : ItAt base n 0 tp rw 0 h1 := I.same hb fun b hb2 => hs1.2 b (ane (by omega))
  have ht1 : h1.get? TO = some (tupO kept) := (hs1.2 TO (ane (by omega))).trans ht
  have e0 : (refsFrom base n).toArray.toList.zipIdx = (refsFrom (base + 0) n).zipIdx 0 := rfl
  rw [e0]
  refine drawA (hf := fun it l m items kept x s Q E hne hit hl hx hto hks q1 => ?_) hb hv (by omega) n 0 ⟨h1, s.gens, s.drawn, s.toks, s.os⟩ kept _ (Nat.zero_add n) I1 ht1 hkz (fun m hm => absurd hm (Nat.not_lt_zero _)) (fun h2 I2 t2 z2 k2 => ?_)
  · refine wpAny_bind (wpAny_onRaise ?_)
    show wpAny _ _ (Builtin.SmallTypes.nextOf (.ref it) >>= _) _ _ _
    refine wpAny_bind (wpAny_nextOf_tuple_item hit hl hx fun h2 i2 s2 => wpAny_pure ?_)
    have t2 : h2.get? TO = some (tupO kept) := (s2.2 TO (Ne.symm hne)).trans hto
    refine wpAny_bind (wpAny_seqItems t2 rfl ?_)
    refine wpAny_bind (wpAny_updateSeq t2 rfl ?_ (by rw [hks]; exact Nat.le_trans hn1 (by decide)) (by rw [Array.size_setIfInBounds, hks]; exact Nat.le_trans hn1 (by decide)))
    refine wpAny_bind (wpAny_letGo (wpAny_pure ?_))
    have sb : Heap.SameBut TO h2 (h2.update TO (Obj.mapSeq (·.setIfInBounds m x))) := Heap.SameBut.update ..
    refine q1 _ (i2.at fun o e => (sb.2 it hne).trans e) ?_ (sb.1.trans s2.1) fun b hbi hbt => (sb.2 b hbt).trans (s2.2 b hbi)
    rw [Heap.get?_update_self _ t2 rfl]
    simp [Obj.mapSeq]
  · dsimp only
    refine wpAny_bind (wpAny_seqItems t2 rfl ?_)
    dsimp only
    refine wpAny_bind (wpAny_newObj_type ?_ (by show ((List.range n).map val).toArray.toList.toArray.size ≤ sizeLine; simp only [List.size_toArray, List.length_map, List.length_range]; exact Nat.le_trans hn1 (by decide)))
    have hsz2 : h2.objs.size = s.heap.objs.size := z2.trans hs1.1
    have hz2 : h2.get? (base + n + 2) = some (zipO (base + n) TO .ellipsis (.bool false)) := (k2 _ (.inr (by omega)) (ane (by omega))).trans hz1
    have hlt : base + n + 2 < s.heap.objs.size := Heap.lt_size hz
    show wpAny _ _ (Builtin.SmallTypes.ownedTupleHandOut (.ref (base + n + 2 : Nat)) (.ref h2.objs.size) >>= _) _ _ _
    have eT : (((List.range n).map val).toArray.toList.toArray) = ((List.range n).map val).toArray := by simp
    rw [eT, hsz2]
    refine wpAny_bind ?_
    unfold Builtin.SmallTypes.ownedTupleHandOut
    have hz3 : (h2.push (tupO ((List.range n).map val).toArray)).get? (base + n + 2) = some (zipO (base + n) TO .ellipsis (.bool false)) := Heap.get?_push_of_some _ hz2
    refine wpAny_bind (wpAny_setField_rec hz3 (by simp) fun h4 hz4 hs4 => ?_)
    replace hz4 : h4.get? (base + n + 2) = some (zipO (base + n) TO (rawInt (s.heap.objs.size : Nat)) (.bool false)) := hz4
    refine wpAny_setField_rec hz4 (by simp) fun h5 hz5 hs5 => ?_
    replace hz5 : h5.get? (base + n + 2) = some (zipO (base + n) TO (rawInt (s.heap.objs.size : Nat)) (.bool false)) := hz5
    have kp : ∀ b, b < s.heap.objs.size → b ≠ base + n + 2 → h5.get? b = h2.get? b := fun b hb2 hbz => by
      rw [hs5.2 b hbz, hs4.2 b hbz]
      exact Heap.get?_push_ne _ _ _ (by rw [hsz2]; exact ane (.inl hb2))
    have tT : h5.get? s.heap.objs.size = some (tupO ((List.range n).map val).toArray) := by
      rw [hs5.2 _ (ane (by omega)), hs4.2 _ (ane (by omega)), ← hsz2]
      exact Heap.get?_push_size _ rfl
    refine wpAny_pure ⟨_, rfl, q h5 (I2.same hb fun b hb2 => kp b (by omega) (by omega)) hz5 tT ?_ fun b hb2 hb3 hb4 hb5 => ?_⟩
    · rw [hs5.1, hs4.1, Heap.size_push, hsz2]
    · exact (kp b hb2 hb5).trans ((k2 b hb3 (ane (by omega))).trans (hs1.2 b (ane (by omega))))
theorem held_zip {z TI TO T : Addr} {f : Bool} {oT : Obj} {Q : Bool → Shared → Prop} (hz : s.heap.get? z = some (zipO TI TO (rawInt (T : Nat)) (.bool f))) (hT : s.heap.get? T = some oT)
    (q : ∀ h', h'.get? z = some (zipO TI TO (rawInt (T : Nat)) (.bool true)) → Heap.SameBut z s.heap h' → Q false { s with heap := h' }) : wpAny (model prog w) A (Builtin.SmallTypes.ownedTupleIsFree (.ref z)) Q E s := PySem.wpAny_tupleHeld_zip hz hT q
/-- one turn, the kept tuple handed out -/
theorem zip_nextB {base n TO k : Nat} {T : Addr} {f1 : Bool} {tp : Nat → Addr} {rw : Nat → Array Value} {val : Nat → Value} {Q : Value → Shared → Prop} (hn : 0 < n) (hn1 : n ≤ 1000)
    (hz : s.heap.get? (base + n + 2) = some (zipO (base + n) TO (rawInt (T : Nat)) (.bool f1))) (hTI : s.heap.get? (base + n) = some (tupO (refsFrom base n).toArray)) (hT : ∃ o, s.heap.get? T = some o)
    (hb : ∀ m, m < n → tp m < base) (hv : ∀ m, m < n → (rw m)[k]? = some (val m)) (I : ItAt base n k tp rw 0 s.heap)
    (q : ∀ h', ItAt base n k tp rw n h' → h'.get? (base + n + 2) = some (zipO (base + n) TO (rawInt (T : Nat)) (.bool true)) → h'.get? s.heap.objs.size = some (tupO ((List.range n).map val).toArray) → h'.objs.size = s.heap.objs.size + 1 →
      (∀ b, b < s.heap.objs.size → (b < base ∨ base + n ≤ b) → b ≠ base + n + 2 → h'.get? b = s.heap.get? b) → Q (.ref s.heap.objs.size) { s with heap := h' }) :
    wpAny (model prog w) A (Builtin.«zip.__next__» ⟨[.ref (base + n + 2 : Nat)], []⟩) (fun fin s' => ∃ v, fin = .done (.ret v) ∧ Q v s') E s := by
  obtain ⟨oT, hT⟩ := hT
  show wpAny _ _ (field (.ref (base + n + 2 : Nat)) 2 >>= _) _ _ _
  refine wpAny_bind (wpAny_field hz rfl (x := .bool false) rfl ?_)
  show wpAny _ _ (field (.ref (base + n + 2 : Nat)) 3 >>= _) _ _ _
  refine wpAny_bind (wpAny_field hz rfl (x := .ref (base + n : Nat)) rfl ?_)
  refine wpAny_bind (wpAny_seqItems hTI rfl ?_)
  dsimp only
  rw [if_neg (by rw [Array.isEmpty_iff_size_eq_zero, List.size_toArray, refsFrom_len]; omega)]
  refine wpAny_bind (held_zip hz hT fun h1 hz1 hs1 => ?_)
  rw [if_neg (by decide)]
  rw [List.forIn_toArray]
  refine wpAny_bind ?_
  have I1 : ItAt base n k tp rw 0 h1 := I.same hb fun b hb2 => hs1.2 b (ane (by omega))
  have hlt : base + n + 2 < s.heap.objs.size := Heap.lt_size hz
  refine drawB (j := 0) (hf := fun it l items x acc s Q E hit hl hx q1 => ?_) hb hv n ⟨h1, s.gens, s.drawn, s.toks, s.os⟩ #[] _ (Nat.zero_add n) I1 (fun h2 I2 z2 k2 => ?_)
  · refine wpAny_bind (wpAny_holding ?_)
    show wpAny _ _ (Builtin.SmallTypes.nextOf (.ref it) >>= _) _ _ _
    refine wpAny_bind (wpAny_nextOf_tuple_item hit hl hx fun h2 i2 s2 => wpAny_pure ?_)
    exact wpAny_pure (q1 h2 i2 s2)
  · dsimp only
    have eT : (#[] ++ ((List.range' 0 n).map val).toArray).toList = (List.range n).map val := by
      rw [List.range_eq_range']
      simp
    rw [eT]
    refine wpAny_bind (wpAny_newObj_type ?_ (by show ((List.range n).map val).toArray.size ≤ sizeLine; simp only [List.size_toArray, List.length_map, List.length_range]; exact Nat.le_trans hn1 (by decide)))
    have hsz2 : h2.objs.size = s.heap.objs.size := z2.trans hs1.1
    have hz2 : h2.get? (base + n + 2) = some (zipO (base + n) TO (rawInt (T : Nat)) (.bool true)) := (k2 _ (.inr (by omega))).trans hz1
    have kp : ∀ b, b < s.heap.objs.size → (h2.push (tupO ((List.range n).map val).toArray)).get? b = h2.get? b := fun b hb2 => Heap.get?_push_ne _ _ _ (by rw [hsz2]; exact ane (.inl hb2))
    refine wpAny_pure ⟨_, rfl, ?_⟩
    show Q (.ref h2.objs.size) _
    have tT : (h2.push (tupO ((List.range n).map val).toArray)).get? s.heap.objs.size = some (tupO ((List.range n).map val).toArray) := by
      rw [← hsz2]
      exact Heap.get?_push_size _ rfl
    rw [hsz2]
    refine q _ (I2.same hb fun b hb2 => kp b (by omega)) ((kp _ hlt).trans hz2) tT (by rw [Heap.size_push, hsz2]) fun b hb2 hb3 hb4 => (kp b hb2).trans ((k2 b hb3).trans (hs1.2 b (ane (by omega))))
/-- the first tuple is at its end -/
theorem zip_nextE {base n TO k : Nat} {T : Addr} {f1 : Bool} {tp : Nat → Addr} {rw : Nat → Array Value} {Q : PySem.Fin → Shared → Prop} (hh : A.handled = none) (hn : 0 < n)
    (hz : s.heap.get? (base + n + 2) = some (zipO (base + n) TO (rawInt (T : Nat)) (.bool f1))) (hTI : s.heap.get? (base + n) = some (tupO (refsFrom base n).toArray)) (hT : ∃ o, s.heap.get? T = some o)
    (hb : ∀ m, m < n → tp m < base) (hv : (rw 0)[k]? = none) (I : ItAt base n k tp rw 0 s.heap)
    (hE : ∀ h' e, (∀ b o, b ≠ base → b ≠ base + n + 2 → s.heap.get? b = some o → h'.get? b = some o) → (∃ o, h'.get? e = some o ∧ o.cls = .type "StopIteration") → E (.ref e) { s with heap := h' }) :
    wpAny (model prog w) A (Builtin.«zip.__next__» ⟨[.ref (base + n + 2 : Nat)], []⟩) Q E s := by
  obtain ⟨oT, hT⟩ := hT
  show wpAny _ _ (field (.ref (base + n + 2 : Nat)) 2 >>= _) _ _ _
  refine wpAny_bind (wpAny_field hz rfl (x := .bool false) rfl ?_)
  show wpAny _ _ (field (.ref (base + n + 2 : Nat)) 3 >>= _) _ _ _
  refine wpAny_bind (wpAny_field hz rfl (x := .ref (base + n : Nat)) rfl ?_)
  refine wpAny_bind (wpAny_seqItems hTI rfl ?_)
  dsimp only
  rw [if_neg (by rw [Array.isEmpty_iff_size_eq_zero, List.size_toArray, refsFrom_len]; omega)]
  refine wpAny_bind (held_zip hz hT fun h1 hz1 hs1 => ?_)
  rw [if_neg (by decide)]
  rw [List.forIn_toArray]
  have I1 : ItAt base n k tp rw 0 h1 := I.same hb fun b hb2 => hs1.2 b (ane (by omega))
  have i0 := I1.it 0 hn
  rw [if_neg (Nat.lt_irrefl _)] at i0
  obtain ⟨n', rfl⟩ : ∃ n', n = n' + 1 := ⟨n - 1, by omega⟩
  rw [refsFrom_cons, List.forIn_cons]
  refine wpAny_bind (wpAny_bind (wpAny_bind (wpAny_holding ?_)))
  show wpAny _ _ (Builtin.SmallTypes.nextOf (.ref base) >>= _) _ _ _
  refine wpAny_bind (wpAny_nextOf_tuple_end hh i0 (I1.tup 0 hn) hv fun h2 e k2 he => ?_)
  exact hE h2 e (fun b o hb1 hb2 hbo => k2 b o hb1 ((hs1.2 b hb2).trans hbo)) he
/-! ### the zip's state, with what was drawn -/
structure ZSt (h0 : Heap) (base n : Nat) (tp : Nat → Addr) (rw : Nat → Array Value) (col : Nat → List Value) (S : Nat) (i : Nat) (acc : Array Value) (h : Heap) : Prop where
  hS : base + n + 2 < S ∧ S < h.objs.size
  z : (i = 0 ∧ h.get? (base + n + 2) = some (zipO (base + n) (base + n + 1 : Nat) .none (.bool false))) ∨ (0 < i ∧ ∃ (T : Nat) (f1 : Bool), h.get? (base + n + 2) = some (zipO (base + n) (base + n + 1 : Nat) (rawInt T) (.bool f1)) ∧ S < T ∧ ∃ o, h.get? T = some o)
  TI : h.get? (base + n) = some (tupO (refsFrom base n).toArray)
  TO : i = 0 → ∃ kept : Array Value, kept.size = n ∧ h.get? (base + n + 1) = some (tupO kept)
  it : ItAt base n i tp rw 0 h
  inc : ∀ (j j' T T' : Nat), j < j' → j' < i → acc[j]? = some (Value.ref T) → acc[j']? = some (Value.ref T') → T < T'
  acc : acc.size = i ∧ ∀ j, j < i → ∃ T : Nat, acc[j]? = some (.ref T) ∧ S < T ∧ h.get? T = some (tupO (col j).toArray)
  old : ∀ b o, b < base → h0.get? b = some o → h.get? b = some o
theorem ZSt.upd {h0 : Heap} {base n : Nat} {tp : Nat → Addr} {rw : Nat → Array Value} {col : Nat → List Value} {S i : Nat} {acc : Array Value} {h h' : Heap} (Z : ZSt h0 base n tp rw col S i acc h) (hb : ∀ m, m < n → tp m < base) (hz : h'.objs.size = h.objs.size) (hk : ∀ b, b ≠ S → h'.get? b = h.get? b) : ZSt h0 base n tp rw col S i acc h' where
  hS := ⟨Z.hS.1, by rw [hz]; exact Z.hS.2⟩
  z := by
    have hS := Z.hS
    rcases Z.z with ⟨h1, h2⟩ | ⟨h1, T, f1, h2, h3, o, h4⟩
    · exact .inl ⟨h1, (hk _ (by omega)).trans h2⟩
    · exact .inr ⟨h1, T, f1, (hk _ (by omega)).trans h2, h3, o, (hk _ (by omega)).trans h4⟩
  TI := by
    have hS := Z.hS
    exact (hk _ (by omega)).trans Z.TI
  TO := fun e => by
    have hS := Z.hS
    obtain ⟨kept, h1, h2⟩ := Z.TO e
    exact ⟨kept, h1, (hk _ (by omega)).trans h2⟩
  it := Z.it.same hb fun b hb2 => hk b (by have := Z.hS; omega)
  acc := ⟨Z.acc.1, fun j hj => by
    obtain ⟨T, h1, h2, h3⟩ := Z.acc.2 j hj
    exact ⟨T, h1, h2, (hk _ (by omega)).trans h3⟩⟩
  inc := Z.inc
  old := fun b o hb2 e => (hk b (by have := Z.hS; omega)).trans (Z.old b o hb2 e)
/-- what is left at the end -/
structure ZEnd (h0 : Heap) (base m : Nat) (col : Nat → List Value) (acc : Array Value) (h : Heap) : Prop where
  inc : ∀ (j j' T T' : Nat), j < j' → j' < m → acc[j]? = some (Value.ref T) → acc[j']? = some (Value.ref T') → T < T'
  acc : acc.size = m ∧ ∀ j, j < m → ∃ T : Nat, acc[j]? = some (.ref T) ∧ base ≤ T ∧ h.get? T = some (tupO (col j).toArray)
  old : ∀ b o, b < base → h0.get? b = some o → h.get? b = some o
theorem zst_item {h0 : Heap} {base n m : Nat} {tp : Nat → Addr} {rw : Nat → Array Value} {col : Nat → List Value} {S i : Nat} {acc : Array Value} {Q : Option Value → Shared → Prop} (hn : 0 < n) (hn1 : n ≤ 1000) (hb : ∀ m, m < n → tp m < base)
    (hv : ∀ k, k < m → ∃ val : Nat → Value, col k = (List.range n).map val ∧ ∀ j, j < n → (rw j)[k]? = some (val j)) (hi : i < m) (Z : ZSt h0 base n tp rw col S i acc s.heap)
    (q : ∀ v h', ZSt h0 base n tp rw col S (i + 1) (acc.push v) h' → h'.get? S = s.heap.get? S → Q (some v) { s with heap := h' }) : wpAny (model prog w) A (pyNext (.ref (base + n + 2 : Nat))) Q E s := by
  obtain ⟨val, hcol, hval⟩ := hv i hi
  have hS := Z.hS
  have hT : s.TypeIs (.ref (base + n + 2 : Nat)) "zip" := by
    rcases Z.z with ⟨_, h2⟩ | ⟨_, T, f1, h2, _⟩
    · exact ⟨_, h2, rfl⟩
    · exact ⟨_, h2, rfl⟩
  unfold pyNext
  refine wpAny_bind (wpAny_attempt (wpAny_callSpecial?_slot (name := Str.ofString "__next__") hT F.slot_zip_next (wpAny_call_entry F.slot_zip_next hT F.entry_zip_next ?_ (F.args_zip_next_1 _))))
  have fin : ∀ (T0 : Nat) (f1 : Bool) (h' : Heap), S < T0 → (∃ o, h'.get? T0 = some o) → ItAt base n i tp rw n h' → h'.get? (base + n + 2) = some (zipO (base + n) (base + n + 1 : Nat) (rawInt (T0 : Nat)) (.bool f1)) → h'.get? s.heap.objs.size = some (tupO ((List.range n).map val).toArray) → h'.objs.size = s.heap.objs.size + 1 →
      (∀ b, b < s.heap.objs.size → (b < base ∨ base + n ≤ b) → b ≠ base + n + 1 → b ≠ base + n + 2 → h'.get? b = s.heap.get? b) → Q (some (.ref s.heap.objs.size)) { s with heap := h' } := fun T0 f1 h' ht ho I' hz' hT' hsz' hk => by
    refine q _ h' ⟨⟨hS.1, by rw [hsz']; exact Nat.lt_succ_of_lt hS.2⟩, .inr ⟨Nat.succ_pos _, T0, f1, hz', ht, ho⟩, ?_, fun e => absurd e (Nat.succ_ne_zero _), I'.next, fun j j' T1 T2 hj hj2 e1 e2 => ?_, ⟨?_, fun j hj => ?_⟩, fun b o hb2 e => ?_⟩ (hk _ hS.2 (.inr (by omega)) (by omega) (by omega))
    · exact (hk _ (by omega) (.inr (Nat.le_refl _)) (by omega) (by omega)).trans Z.TI
    · have hj3 : j < i := by omega
      obtain ⟨T, h1, h2, h3⟩ := Z.acc.2 j hj3
      have pl : ∀ x, x < i → (acc.push (Value.ref s.heap.objs.size))[x]? = acc[x]? := fun x hx => by rw [Array.getElem?_push_lt (by rw [Z.acc.1]; omega), Array.getElem?_eq_getElem (by rw [Z.acc.1]; omega)]
      rw [pl j hj3] at e1
      by_cases e : j' = i
      · subst e
        rw [show j' = acc.size from Z.acc.1.symm, Array.getElem?_push_size] at e2
        rw [h1] at e1
        cases e1
        cases e2
        exact Heap.lt_size h3
      · rw [pl j' (by omega)] at e2
        exact Z.inc j j' T1 T2 hj (by omega) e1 e2
    · rw [Array.size_push, Z.acc.1]
    · by_cases e : j = i
      · refine ⟨s.heap.objs.size, ?_, hS.2, ?_⟩
        · rw [e, ← Z.acc.1]
          exact Array.getElem?_push_size
        · rw [e, hcol]
          exact hT'
      · obtain ⟨T, h1, h2, h3⟩ := Z.acc.2 j (by omega)
        refine ⟨T, ?_, h2, (hk _ (Heap.lt_size h3) (.inr (by omega)) (by omega) (by omega)).trans h3⟩
        rw [Array.getElem?_push_lt (by rw [Z.acc.1]; omega)]
        rw [Array.getElem?_eq_getElem (by rw [Z.acc.1]; omega)] at h1
        exact h1
    · exact (hk b (by omega) (.inl hb2) (by omega) (by omega)).trans (Z.old b o hb2 e)
  rcases Z.z with ⟨h1, h2⟩ | ⟨h1, T, f1, h2, h3, o, h4⟩
  · subst h1
    obtain ⟨kept, hk1, hk2⟩ := Z.TO rfl
    refine zip_nextA hn hn1 rfl h2 Z.TI hk2 hk1 hb hval Z.it fun h' I' hz' hT' hsz' hk => wpAny_pure ?_
    exact fin s.heap.objs.size false h' hS.2 ⟨_, hT'⟩ I' hz' hT' hsz' hk
  · refine zip_nextB hn hn1 h2 Z.TI ⟨o, h4⟩ hb hval Z.it fun h' I' hz' hT' hsz' hk => wpAny_pure ?_
    exact fin T true h' h3 ⟨o, (hk _ (Heap.lt_size h4) (.inr (by omega)) (by omega)).trans h4⟩ I' hz' hT' hsz' fun b hb1 hb2 _ hb4 => hk b hb1 hb2 hb4
theorem zst_done {h0 : Heap} {base n m : Nat} {tp : Nat → Addr} {rw : Nat → Array Value} {col : Nat → List Value} {S : Nat} {acc : Array Value} {Q : Option Value → Shared → Prop} (hh : A.handled = none) (hn : 0 < n) (hm : 0 < m) (hb : ∀ m, m < n → tp m < base) (hv : (rw 0)[m]? = none) (Z : ZSt h0 base n tp rw col S m acc s.heap)
    (q : ∀ h', ZEnd h0 base m col acc h' → (∀ o, s.heap.get? S = some o → h'.get? S = some o) → Q none { s with heap := h' }) : wpAny (model prog w) A (pyNext (.ref (base + n + 2 : Nat))) Q E s := by
  have hS := Z.hS
  rcases Z.z with ⟨h1, _⟩ | ⟨h1, T, f1, h2, h3, o, h4⟩
  · omega
  have hT : s.TypeIs (.ref (base + n + 2 : Nat)) "zip" := ⟨_, h2, rfl⟩
  unfold pyNext
  refine wpAny_bind (wpAny_attempt (wpAny_callSpecial?_slot (name := Str.ofString "__next__") hT F.slot_zip_next (wpAny_call_entry F.slot_zip_next hT F.entry_zip_next ?_ (F.args_zip_next_1 _))))
  refine zip_nextE hh hn h2 Z.TI ⟨o, h4⟩ hb hv Z.it fun h' e hk he => ?_
  obtain ⟨oe, hoe, hce⟩ := he
  refine wpAny_bind (wpAny_isInstance (T := "StopIteration") (b := true) ⟨oe, hoe, hce⟩ isSubtype_stop ?_)
  refine wpAny_pure (q h' ⟨Z.inc, ⟨Z.acc.1, fun j hj => ?_⟩, fun b o hb2 e => hk b o (ane (by omega)) (ane (by omega)) (Z.old b o hb2 e)⟩ fun o e => hk S o (ane (by omega)) (ane (by omega)) e)
  obtain ⟨T', h5, h6, h7⟩ := Z.acc.2 j hj
  exact ⟨T', h5, by omega, hk T' _ (ane (by omega)) (ane (by omega)) h7⟩
end
end Qz

/-! Q25: tuple(zip(*rows)): collected, and as a rule. -/
namespace Qz
open PySem PySem.Spec PyProof.Rows
theorem zip_nolen : typeLookup (.type "zip") "__len__" = pure none := by rw [typeLookup_type, builtinLookup_eq_fast]; kernel_rfl
theorem zip_nohint : typeLookup (.type "zip") "__length_hint__" = pure none := by rw [typeLookup_type, builtinLookup_eq_fast]; kernel_rfl
theorem zip_c2 (a b : Value) : checkBuiltinCall "zip.__new__" ⟨[.type "zip", a, b], []⟩ = pure () := by kernel_rfl
theorem zip_c4 (a b c d : Value) : checkBuiltinCall "zip.__new__" ⟨[.type "zip", a, b, c, d], []⟩ = pure () := by kernel_rfl
theorem zip_c8 (a b c d e f g h : Value) : checkBuiltinCall "zip.__new__" ⟨[.type "zip", a, b, c, d, e, f, g, h], []⟩ = pure () := by kernel_rfl
theorem zip_ct (us : List Value) : checkTypeCall "zip" ⟨us, []⟩ = pure () := by kernel_rfl
theorem zip_oi (obj : Value) (us : List Value) : argsOk "object.__init__" ⟨obj :: us, []⟩ := by unfold argsOk; kernel_rfl
section
variable {prog : Program} {w : World} {A : Around} {E : Value → Shared → Prop} {s : Shared}
/-- the loop that collects, the things collected known -/
theorem ext_acc {R : Result → Shared → Prop} {I S : Addr} {n : Nat} {St : Nat → Array Value → Heap → Prop} {Fi : Array Value → Heap → Prop} {res : Value} (hn : n ≤ sizeLine)
    (upd : ∀ i acc h h', St i acc h → h'.objs.size = h.objs.size → (∀ b, b ≠ S → h'.get? b = h.get? b) → St i acc h')
    (item : ∀ i acc (s : Shared) (Q : Option Value → Shared → Prop) (E : Value → Shared → Prop), i < n → St i acc s.heap → (∀ v h', St (i + 1) (acc.push v) h' → h'.get? S = s.heap.get? S → Q (some v) { s with heap := h' }) → wpAny (model prog w) A.in1 (pyNext (.ref I)) Q E s)
    (done : ∀ acc (s : Shared) (Q : Option Value → Shared → Prop) (E : Value → Shared → Prop), St n acc s.heap → (∀ h', Fi acc h' → (∀ o, s.heap.get? S = some o → h'.get? S = some o) → Q none { s with heap := h' }) → wpAny (model prog w) A.in1 (pyNext (.ref I)) Q E s) :
    ∀ (k i : Nat) (s : Shared) (acc : Array Value) (c : Nat), n - i = k → i ≤ n → acc.size = i → St i acc s.heap → s.heap.get? S = some (lstO acc c) →
      (∀ h' acc' c', acc'.size = n → Fi acc' h' → h'.get? S = some (lstO acc' c') → R (.ok (.ret res)) { s with heap := h' }) →
      codeAny (model prog w) A (.builtin "list.extend.loop" ⟨[.ref S, .ref I, res], []⟩) R s := by
  intro k
  induction k with
  | zero =>
    intro i s acc c hk hi hz hst hS q
    obtain rfl : i = n := by omega
    refine codeAny_builtin F.entry_extend_loop ?_
    rw [Around.under_plainId F.plain_extend_loop _]
    show wpAny _ A.in1 (pyNext (.ref I) >>= _) _ _ s
    exact wpAny_bind (done acc s _ _ hst fun h' hf hk' => wpAny_pure (q h' acc c hz hf (hk' _ hS)))
  | succ k ih =>
    intro i s acc c hk hi hz hst hS q
    have hlt : i < n := by omega
    refine codeAny_builtin F.entry_extend_loop ?_
    rw [Around.under_plainId F.plain_extend_loop _]
    show wpAny _ A.in1 (pyNext (.ref I) >>= _) _ _ s
    refine wpAny_bind (item i acc s _ _ hlt hst fun v h' hst' hk' => ?_)
    have hS' : h'.get? S = some (lstO acc c) := hk'.trans hS
    show wpAny _ A.in1 (updateSeq S (·.push v) >>= _) _ _ _
    have sb : Heap.SameBut S h' (h'.update S (Obj.mapSeq (·.push v))) := Heap.SameBut.update ..
    refine wpAny_bind (wpAny_updateSeq hS' rfl (wpAny_pure ⟨plainId_quiet F.plain_extend_loop _, ih (i + 1) _ (acc.push v) _ (by omega) hlt (by rw [Array.size_push, hz]) (upd _ _ h' _ hst' sb.1 fun b hb => sb.2 b hb) (Heap.get?_update_self _ hS' rfl) fun h2 acc2 c2 z2 f2 s2 => q h2 acc2 c2 z2 f2 s2⟩) (by rw [hz]; omega) (by show (acc.push v).size ≤ sizeLine + 1; rw [Array.size_push, hz]; omega))
/-- collect of the zip that was just made -/
theorem collect_zip {h0 : Heap} {base n m : Nat} {tp : Nat → Addr} {rw : Nat → Array Value} {col : Nat → List Value} {Q : List Value → Shared → Prop} (hh : A.handled = none) (hn : 0 < n) (hn1 : n ≤ 1000) (hm : 0 < m) (hm1 : m ≤ 1000) (hb : ∀ m, m < n → tp m < base)
    (hv : ∀ k, k < m → ∃ val : Nat → Value, col k = (List.range n).map val ∧ ∀ j, j < n → (rw j)[k]? = some (val j)) (he : (rw 0)[m]? = none)
    (hz : s.heap.get? (base + n + 2) = some (zipO (base + n) (base + n + 1 : Nat) .none (.bool false))) (hTI : s.heap.get? (base + n) = some (tupO (refsFrom base n).toArray)) (hTO : ∃ kept : Array Value, kept.size = n ∧ s.heap.get? (base + n + 1) = some (tupO kept)) (hit : ItAt base n 0 tp rw 0 s.heap)
    (hold : ∀ b o, b < base → h0.get? b = some o → s.heap.get? b = some o)
    (q : ∀ h' acc, ZEnd h0 base m col acc h' → Q acc.toList { s with heap := h' }) : wpAny (model prog w) A (collect (.ref (base + n + 2 : Nat))) Q E s := by
  have hlt : base + n + 2 < s.heap.objs.size := Heap.lt_size hz
  have hT : s.TypeIs (.ref (base + n + 2 : Nat)) "zip" := ⟨_, hz, rfl⟩
  unfold collect
  refine wpAny_bind (wpAny_runValue (codeAny_builtin F.entry_proto_collect ?_))
  rw [Around.under_plainId F.plain_proto_collect _]
  show wpAny _ A.in1 (newList [] >>= fun l' => again (.builtin "list.__iadd__" ⟨[l', .ref (base + n + 2 : Nat)], []⟩)) _ _ s
  refine wpAny_bind (wpAny_newObj_type ?_)
  refine wpAny_pure ⟨plainId_quiet F.plain_list_iadd _, codeAny_builtin F.entry_list_iadd ?_⟩
  rw [Around.under_plainId F.plain_list_iadd _]
  have k1 : ∀ b o, s.heap.get? b = some o → (s.heap.push (lstO #[] 0)).get? b = some o := fun b o e => Heap.get?_push_of_some _ e
  have k1' : ∀ b, b < s.heap.objs.size → (s.heap.push (lstO #[] 0)).get? b = s.heap.get? b := fun b hb2 => Heap.get?_push_ne _ _ _ (ane (.inl hb2))
  show wpAny _ A.in1 (Builtin.List.listExtendWith (.ref s.heap.objs.size) (.ref (base + n + 2 : Nat)) (.ref s.heap.objs.size)) _ _ ⟨s.heap.push (lstO #[] 0), s.gens, s.drawn, s.toks, s.os⟩
  have hT1 : Shared.TypeIs ⟨s.heap.push (lstO #[] 0), s.gens, s.drawn, s.toks, s.os⟩ (.ref (base + n + 2 : Nat)) "zip" := ⟨_, k1 _ _ hz, rfl⟩
  unfold Builtin.List.listExtendWith
  refine wpAny_bind (wpAny_typeOf hT1 ?_)
  have h1 : Builtin.List.listSameRef (.ref s.heap.objs.size) (.ref (base + n + 2 : Nat)) = false := by
    simp only [Builtin.List.listSameRef]
    rw [beq_eq_false_iff_ne]
    exact ane (.inr hlt)
  rw [if_neg (by rw [h1]; decide)]
  refine wpAny_bind (wpAny_pyIter_zip (k1 _ _ hz) ?_)
  refine wpAny_bind (wpAny_holding ?_)
  unfold Builtin.List.listLengthHint
  refine wpAny_bind (wpAny_specialOf hT1 zip_nolen ?_)
  show wpAny _ A.in1 (specialOf (Value.ref (base + n + 2 : Nat)) (Str.ofString "__length_hint__") >>= _) _ _ _
  refine wpAny_bind (wpAny_specialOf hT1 zip_nohint ?_)
  refine wpAny_pure ?_
  show wpAny _ A.in1 (rule "list.extend.makes-room" >>= fun _ => Builtin.List.listTouch (.ref s.heap.objs.size) >>= fun _ => again (.builtin "list.extend.loop" ⟨[.ref s.heap.objs.size, .ref (base + n + 2 : Nat), .ref s.heap.objs.size], []⟩)) _ _ _
  refine wpAny_bind (wpAny_rule ?_)
  have g1 : (s.heap.push (lstO #[] 0)).get? s.heap.objs.size = some (lstO #[] 0) := Heap.get?_push_size _ rfl
  refine wpAny_bind ?_
  show wpAny _ A.in1 (updateSeq s.heap.objs.size (·.push .none) >>= fun _ => updateSeq s.heap.objs.size (·.pop)) _ _ _
  refine wpAny_bind (wpAny_updateSeq g1 rfl ?_)
  have g2 := Heap.get?_update_self (Obj.mapSeq (·.push Value.none)) g1 rfl
  refine wpAny_updateSeq g2 rfl ?_
  have g3 := Heap.get?_update_self (Obj.mapSeq (·.pop)) g2 rfl
  have sb1 : Heap.SameBut s.heap.objs.size (s.heap.push (lstO #[] 0)) ((s.heap.push (lstO #[] 0)).update s.heap.objs.size (Obj.mapSeq (·.push Value.none))) := Heap.SameBut.update ..
  have sb2 : Heap.SameBut s.heap.objs.size ((s.heap.push (lstO #[] 0)).update s.heap.objs.size (Obj.mapSeq (·.push Value.none))) (((s.heap.push (lstO #[] 0)).update s.heap.objs.size (Obj.mapSeq (·.push Value.none))).update s.heap.objs.size (Obj.mapSeq (·.pop))) := Heap.SameBut.update ..
  generalize hh2 : ((s.heap.push (lstO #[] 0)).update s.heap.objs.size (Obj.mapSeq (·.push Value.none))).update s.heap.objs.size (Obj.mapSeq (·.pop)) = h2 at *
  have kk : ∀ b, b < s.heap.objs.size → h2.get? b = s.heap.get? b := fun b hb2 => (sb2.2 b (ane (.inl hb2))).trans ((sb1.2 b (ane (.inl hb2))).trans (k1' b hb2))
  have z2 : h2.objs.size = s.heap.objs.size + 1 := by rw [sb2.1, sb1.1, Heap.size_push]
  obtain ⟨kept, hk1, hk2⟩ := hTO
  have Z0 : ZSt h0 base n tp rw col s.heap.objs.size 0 #[] h2 := ⟨⟨hlt, by omega⟩, .inl ⟨rfl, (kk _ hlt).trans hz⟩, (kk _ (by omega)).trans hTI, fun _ => ⟨kept, hk1, (kk _ (by omega)).trans hk2⟩, hit.same hb fun b hb2 => kk b (by omega), fun j j' _ _ _ hj => absurd hj (Nat.not_lt_zero _), ⟨rfl, fun j hj => absurd hj (Nat.not_lt_zero _)⟩, fun b o hb2 e => (kk b (by omega)).trans (hold b o hb2 e)⟩
  have hin : A.in1.handled = none := hh
  refine wpAny_pure ⟨plainId_quiet F.plain_extend_loop _, ext_acc (A := A) (n := m) (St := ZSt h0 base n tp rw col s.heap.objs.size) (Fi := ZEnd h0 base m col) (Nat.le_trans hm1 (by decide)) (fun i acc h h' Z e1 e2 => Z.upd hb e1 e2) (fun i acc s' Q E hi Z q => zst_item hn hn1 hb hv hi Z q) (fun acc s' Q E Z q => zst_done hin hn hm hb he Z q) m 0 _ #[] _ (Nat.sub_zero m) (Nat.zero_le _) rfl Z0 g3 fun h' acc' c' hz' hf hS' => ?_⟩
  show wpAny _ A (load s.heap.objs.size >>= _) _ _ _
  refine wpAny_bind (wpAny_load hS' ?_)
  exact wpAny_pure (q h' acc' hf)
end
end Qz

/-! Q26: tuple(zip(*rows)) as an expression. -/
namespace Qz
open PySem PySem.Spec PyProof.Rows L2 Qp
section
variable {prog : Program} {w : World} {A : Around} {E : Value → Shared → Prop} {s : Shared}
/-- what stands when a zip was just made -/
structure ZNew (h0 : Heap) (base n m : Nat) (tp : Nat → Addr) (rw : Nat → Array Value) (col : Nat → List Value) (h : Heap) : Prop where
  n0 : 0 < n ∧ n ≤ 1000
  m0 : 0 < m ∧ m ≤ 1000
  hb : ∀ m, m < n → tp m < base
  hv : ∀ k, k < m → ∃ val : Nat → Value, col k = (List.range n).map val ∧ ∀ j, j < n → (rw j)[k]? = some (val j)
  he : (rw 0)[m]? = none
  z : h.get? (base + n + 2) = some (zipO (base + n) (base + n + 1 : Nat) .none (.bool false))
  TI : h.get? (base + n) = some (tupO (refsFrom base n).toArray)
  TO : ∃ kept : Array Value, kept.size = n ∧ h.get? (base + n + 1) = some (tupO kept)
  it : ItAt base n 0 tp rw 0 h
  old : ∀ b o, b < base → h0.get? b = some o → h.get? b = some o
theorem tuple_of_zip {h0 : Heap} {base n m : Nat} {tp : Nat → Addr} {rw : Nat → Array Value} {col : Nat → List Value} {Q : Value → Shared → Prop} (hh : A.handled = none) (Z : ZNew h0 base n m tp rw col s.heap)
    (q : ∀ h' acc, ZEnd h0 base m col acc h' → Q (.ref h'.objs.size) { s with heap := h'.push (tupO acc) }) : wpAny (model prog w) A (call (.type "tuple") [.ref (base + n + 2 : Nat)]) Q E s := by
  have code : codeAny (model prog w) A.in1 (.call (.builtin "tuple.__new__") ⟨[.type "tuple", .ref (base + n + 2 : Nat)], []⟩) (wants (fun obj s₁ => s₁.TypeIs obj "tuple" ∧ Q obj s₁) E) s := by
    refine codeAny_of_tree ?_
    show wpAny _ A.in1.in1 (do checkBuiltinCall "tuple.__new__" ⟨[.type "tuple", .ref (base + n + 2 : Nat)], []⟩; again (.builtin "tuple.__new__" ⟨[.type "tuple", .ref (base + n + 2 : Nat)], []⟩)) _ _ s
    refine wpAny_bind (wpAny_of_eq (F.newCall_tuple_1 _) (wpAny_pure ⟨plainId_quiet F.plain_tuple_new _, codeAny_builtin F.entry_tuple_new ?_⟩))
    rw [Around.under_plainId F.plain_tuple_new _]
    have f1 := sub_tuple_self
    have f2 := init_tuple_lookup
    have f3 := madeHere_tuple
    have hTI : s.TypeIs (.ref (base + n + 2 : Nat)) "zip" := ⟨_, Z.z, rfl⟩
    have hin : A.in1.in1.handled = none := hh
    wp_walk using wpAny_typeOf hTI, collect_zip (A := A.in1.in1) hin Z.n0.1 Z.n0.2 Z.m0.1 Z.m0.2 Z.hb Z.hv Z.he Z.z Z.TI Z.TO Z.it Z.old
    intro h' acc hacc
    show wpAny _ _ (Builtin.Tuple.tupleExact acc.toList.toArray >>= fun v => ret v) _ _ _
    unfold Builtin.Tuple.tupleExact
    have e : acc.toList.toArray = acc := by simp
    rw [e]
    refine wpAny_bind (wpAny_newObj_type ?_ (by show acc.size ≤ sizeLine; rw [hacc.acc.1]; exact Nat.le_trans Z.m0.2 (by decide)))
    exact wpAny_pure ⟨⟨_, Heap.get?_push_size _ rfl, rfl⟩, q h' acc hacc⟩
  refine callType_codes (Q₁ := fun obj s₁ => s₁.TypeIs obj "tuple" ∧ Q obj s₁) F.called_tuple (F.typeCall_tuple_1 _) F.entry_object_init code fun obj s₁ h₁ => ?_
  exact ⟨h₁.1, F.args_object_init_2 obj _, object_init_meets F.called_tuple.init.lookup F.called_tuple.made (by decide) prog w A.in1 _ s₁ ⟨h₁.1, rfl, h₁.2⟩⟩
theorem zip_chk : ∀ {us : List Value}, us.length = 2 ∨ us.length = 4 ∨ us.length = 8 → checkBuiltinCall "zip.__new__" ⟨.type "zip" :: us, []⟩ = pure ()
  | [a, b], _ => zip_c2 a b
  | [a, b, c, d], _ => zip_c4 a b c d
  | [a, b, c, d, e, f, g, h], _ => zip_c8 a b c d e f g h
  | [], h => by simp at h
  | [_], h => by simp at h
  | [_, _, _], h => by simp at h
  | [_, _, _, _, _], h => by simp at h
  | [_, _, _, _, _, _], h => by simp at h
  | [_, _, _, _, _, _, _], h => by simp at h
  | _ :: _ :: _ :: _ :: _ :: _ :: _ :: _ :: _ :: _, h => by simp at h
theorem call_zipN {ts : List Addr} {m : Nat} {rw : Nat → Array Value} {col : Nat → List Value} {Q : Value → Shared → Prop} (hl : ts.length = 2 ∨ ts.length = 4 ∨ ts.length = 8) (ht : ∀ j t, ts[j]? = some t → s.heap.IsTuple t (rw j)) (hm : 0 < m ∧ m ≤ 1000)
    (hv : ∀ k, k < m → ∃ val : Nat → Value, col k = (List.range ts.length).map val ∧ ∀ j, j < ts.length → (rw j)[k]? = some (val j)) (he : (rw 0)[m]? = none)
    (q : ∀ h', ZNew s.heap s.heap.objs.size ts.length m (fun j => ts.getD j 0) rw col h' → (∀ b o, s.heap.get? b = some o → h'.get? b = some o) → Q (.ref (s.heap.objs.size + ts.length + 2 : Nat)) { s with heap := h' }) :
    wpAny (model prog w) A (call (.type "zip") (ts.map fun t => Value.ref t)) Q E s := by
  have hn1 : ts.length ≤ 1000 := by omega
  have g0 : ∀ t ∈ ts, ∃ items, s.heap.IsTuple t items := fun t h => by
    obtain ⟨j, hj, e⟩ := List.getElem_of_mem h
    exact ⟨rw j, ht j t (by rw [← e]; exact List.getElem?_eq_getElem hj)⟩
  have mz : Meets (Builtin.«zip.__new__» ⟨.type "zip" :: ts.map fun t => Value.ref t, []⟩) (fun _ R s => (∀ t ∈ ts, ∃ items, s.heap.IsTuple t items) ∧ R (.ok (.ret (.ref (s.heap.objs.size + ts.length + 2 : Nat)))) { s with heap := zipH s.heap ts }) :=
    .of_wp fun prog w A R s h => zip_new h.1 hn1 ⟨_, rfl, h.2⟩
  refine callType_new F.called_zip (by decide) (zip_ct _) (zip_chk (by rw [List.length_map]; exact hl)) (fun obj => zip_oi obj _) F.entry_zip_new mz ⟨g0, ?_⟩
  have z1 : (pushIts s.heap ts).objs.size = s.heap.objs.size + ts.length := pushIts_size _ _
  have z2 : ((pushIts s.heap ts).push (tupO (refsFrom s.heap.objs.size ts.length).toArray)).objs.size = s.heap.objs.size + ts.length + 1 := by rw [Heap.size_push, z1]
  have z3 : (((pushIts s.heap ts).push (tupO (refsFrom s.heap.objs.size ts.length).toArray)).push (tupO ((refsFrom s.heap.objs.size ts.length).map fun _ => Value.none).toArray)).objs.size = s.heap.objs.size + ts.length + 2 := by rw [Heap.size_push, z2]
  have kA : ∀ b o, (pushIts s.heap ts).get? b = some o → (zipH s.heap ts).get? b = some o := fun b o e => Heap.get?_push_of_some _ (Heap.get?_push_of_some _ (Heap.get?_push_of_some _ e))
  have kp : ∀ b o, s.heap.get? b = some o → (zipH s.heap ts).get? b = some o := fun b o e => kA b o (pushIts_keep ts s.heap b o e)
  have zz : (zipH s.heap ts).get? (s.heap.objs.size + ts.length + 2) = some (zipO (s.heap.objs.size + ts.length) (s.heap.objs.size + ts.length + 1 : Nat) .none (.bool false)) := by
    unfold zipH
    rw [← z3]
    exact Heap.get?_push_size _ rfl
  have zt : (zipH s.heap ts).get? (s.heap.objs.size + ts.length + 1) = some (tupO ((refsFrom s.heap.objs.size ts.length).map fun _ => Value.none).toArray) := by
    unfold zipH
    refine Heap.get?_push_of_some _ ?_
    rw [← z2]
    exact Heap.get?_push_size _ rfl
  have zi : (zipH s.heap ts).get? (s.heap.objs.size + ts.length) = some (tupO (refsFrom s.heap.objs.size ts.length).toArray) := by
    unfold zipH
    refine Heap.get?_push_of_some _ (Heap.get?_push_of_some _ ?_)
    rw [← z1]
    exact Heap.get?_push_size _ rfl
  have tg : ∀ j, j < ts.length → ts[j]? = some (ts.getD j 0) := fun j hj => by rw [List.getD_eq_getElem?_getD, List.getElem?_eq_getElem hj]; rfl
  refine ⟨⟨_, zz, rfl⟩, q _ ⟨⟨by omega, hn1⟩, hm, fun j hj => ?_, hv, he, zz, zi, ⟨_, by rw [List.size_toArray, List.length_map, refsFrom_len], zt⟩, ⟨fun j hj => ?_, fun j hj => ?_⟩, fun b o hb e => kp b o e⟩ kp⟩
  · obtain ⟨o, e, _⟩ := ht j _ (tg j hj)
    exact Heap.lt_size e
  · rw [if_neg (Nat.not_lt_zero _)]
    exact ⟨_, kA _ _ (pushIts_at ts s.heap j _ (tg j hj)), rfl, rfl⟩
  · exact (ht j _ (tg j hj)).at fun o e => kp _ _ e
end
/-- a heap with more things in it, those new ones known -/
theorem inv_grown {X : Cx} {pins : List (Addr × Obj)} {σ : L2.St} {H H' : Hp} {s : Shared} {h' : Heap} {t' : Nat} (I : Inv X pins σ H s) (k : ∀ b u, s.heap.get? b = some u → h'.get? b = some u) (g : ∀ b u, H b = some u → H' b = some u) (f : ∀ b u, s.heap.get? b = some u → H b = none → H' b = none)
    (n : ∀ b u, H' b = some u → H b = none → ObjOk X.prog X.w H' h' b u) : Inv X pins σ H' { s with heap := h', toks := t' } := by
  refine I.un ⟨fun b u q _ _ _ => k b u q, fun b u q _ _ _ => ⟨u.slots, k b u q⟩, fun b u q z _ => f b u q z, fun b u q _ => ⟨u, k b u q⟩, fun b xs q => g b _ q, fun b u xs q => g b _ q, fun b ps q => ⟨#[], by rw [g b _ q]; simp⟩⟩ fun b u e => ?_
  cases q : H b with
  | none => exact n b u e q
  | some v =>
    have z := g b v q
    rw [e] at z
    cases z
    exact (I.hok b u q).stay (fun c v _ q => k c v q) (fun c q => g c _ q) fun c xs q => g c _ q
/-- the columns laid as new tuples, and a tuple of these -/
structure ZRes (H1 : Hp) (cols : List (List V)) (H2 : Hp) (r : Addr) : Prop where
  keep : ∀ b u, H1 b = some u → H2 b = some u
  ex : ∃ Ts : List Addr, Ts.length = cols.length ∧ H1 r = none ∧ H2 r = some (.tup (Ts.map V.ref)) ∧ (∀ (j : Nat) T c, Ts[j]? = some T → cols[j]? = some c → H1 T = none ∧ H2 T = some (.tup c)) ∧ (∀ b u, H2 b = some u → H1 b = none → NoTb u)
def colsOf (m : Nat) (rws : List (List V)) : List (List V) := (List.range m).map fun k => rws.map fun xs => xs.getD k .non
def tZip (K : Fg) (te : TE) : TE := fun σ H Q => te σ H fun v H1 => ∃ (p : Addr) (ps : List Addr) (rws : List (List V)) (m : Nat), v = .ref p ∧ SqT K H1 p (ps.map V.ref) ∧ (ps.length = 2 ∨ ps.length = 4 ∨ ps.length = 8) ∧ rws.length = ps.length ∧
  (∀ (i : Nat) q xs, ps[i]? = some q → rws[i]? = some xs → SqT K H1 q xs ∧ xs.length = m) ∧ 0 < m ∧ m ≤ 1000 ∧ ∀ H2 r, ZRes H1 (colsOf m rws) H2 r → Q (.ref r) H2
theorem vals_refs : ∀ {ps : List Addr} {us : List Value}, Vals (ps.map V.ref) us → us = ps.map fun t => Value.ref t
  | [], _, .nil => rfl
  | p :: ps, _, .cons r rr => by
    cases r
    rw [vals_refs rr]
    rfl
theorem vals_map {α : Type} {f : α → V} {g : α → Value} (h : ∀ x, RelV (f x) (g x)) : ∀ l : List α, Vals (l.map f) (l.map g)
  | [] => .nil
  | x :: l => .cons (h x) (vals_map h l)
theorem vals_maps {α : Type} {f : α → V} {g : α → Value} : ∀ l : List α, (∀ x ∈ l, RelV (f x) (g x)) → Vals (l.map f) (l.map g)
  | [], _ => .nil
  | x :: l, h => .cons (h x List.mem_cons_self) (vals_maps l fun y hy => h y (List.mem_cons_of_mem _ hy))
section
variable {X : Cx} {a : Expr} {te : TE} {p1 p2 pos pos2 sp : Pos}
theorem pe_zip (hgT : Gl X "tuple") (hmT : X.mg "tuple" = none) (hgZ : Gl X "zip") (hmZ : X.mg "zip" = none) (hc : X.calm = true) (ha : PE X a te) :
    PE X (.Call (.Name "tuple" p1) [.Call (.Name "zip" p2) [.Starred a sp] [] pos2] [] pos) (tZip X.K te) := by
  refine ⟨fun pins s σ H Q I h => ?_⟩
  refine wpAny_Call_Name_kw (ld_blt I hgT hmT PyProof.Rows.boot_tuple (PyProof.Rows.callWith_type1 ?_ rfl rfl))
  refine Calls.spliced_cons ?_
  refine wpAny_Call_Name_kw (ld_blt I hgZ hmZ PyProof.Rows.boot_zip ?_)
  refine PySem.W.ks_call (P := fun _ => True) rfl (fun h _ => ⟨.machine, .inr (.inl rfl), PySem.W.Looks.of_pure rfl⟩) ?_
  refine PySem.W.ks_lone (thn (ha.run pins s σ H _ I h) fun v s1 ⟨y, H1, I1, ry, p, ps, rws, m, ey, hp, hl, hrl, hrw, hm0, hm1, q⟩ => ?_)
  subst ey
  obtain rfl : v = Value.ref p := ry
  refine star_tup I1 hp fun us s2 I2 rv => ⟨trivial, ?_⟩
  obtain rfl := vals_refs rv
  -- the rows as the model has them
  have rowAt : ∀ i, i < ps.length → ∃ its : List Value, Vals (rws.getD i []) its ∧ s2.heap.IsTuple (ps.getD i 0) its.toArray ∧ (rws.getD i []).length = m := fun i hi => by
    obtain ⟨sq, hlen⟩ := hrw i (ps.getD i 0) (rws.getD i []) (by rw [List.getD_eq_getElem?_getD, List.getElem?_eq_getElem hi]; rfl) (by rw [List.getD_eq_getElem?_getD, List.getElem?_eq_getElem (by omega)]; rfl)
    obtain ⟨its, rv, pt, _⟩ := I2.tuple sq
    exact ⟨its, rv, pt, hlen⟩
  have hf : ∃ f : Nat → List Value, ∀ i, i < ps.length → Vals (rws.getD i []) (f i) ∧ s2.heap.IsTuple (ps.getD i 0) (f i).toArray ∧ (rws.getD i []).length = m :=
    ⟨fun i => if h : i < ps.length then Classical.choose (rowAt i h) else [], fun i hi => by
      dsimp only
      rw [dif_pos hi]
      exact Classical.choose_spec (rowAt i hi)⟩
  obtain ⟨f, hf⟩ := hf
  have fl : ∀ i, i < ps.length → (f i).length = m := fun i hi => by rw [← (hf i hi).1.length]; exact (hf i hi).2.2
  have gD : ∀ (l : List Value) (k : Nat), k < l.length → l[k]? = some (l.getD k .none) := fun l k hk => by rw [List.getD_eq_getElem?_getD, List.getElem?_eq_getElem hk]; rfl
  have h0 : 0 < ps.length := by omega
  refine call_zipN (ts := ps) (m := m) (rw := fun j => (f j).toArray) (col := fun k => (List.range ps.length).map fun j => (f j).getD k .none) hl (fun j t e => ?_) ⟨hm0, hm1⟩ (fun k hk => ⟨_, rfl, fun j hj => ?_⟩) ?_ fun h1 Z kp => ?_
  · have hj := (List.getElem?_eq_some_iff.mp e).1
    have z := (hf j hj).2.1
    rw [List.getD_eq_getElem?_getD, e] at z
    exact z
  · show (f j).toArray[k]? = _
    rw [List.getElem?_toArray]
    exact gD _ _ (by rw [fl j hj]; exact hk)
  · show (f 0).toArray[m]? = none
    rw [List.getElem?_toArray]
    exact List.getElem?_eq_none (by rw [fl 0 h0]; exact Nat.le_refl _)
  refine Calls.spliced_nil (tuple_of_zip (I2.ok.hd hc) Z fun h2 acc ze => ?_)
  obtain ⟨base, hbase⟩ : ∃ base, base = s2.heap.objs.size := ⟨_, rfl⟩
  rw [← hbase] at ze
  obtain ⟨T, hT⟩ : ∃ T : Nat → Nat, ∀ j, j < m → acc[j]? = some (.ref (T j)) ∧ base ≤ T j ∧ h2.get? (T j) = some (tupO ((List.range ps.length).map fun i => (f i).getD j .none).toArray) :=
    ⟨fun j => if h : j < m then Classical.choose (ze.acc.2 j h) else 0, fun j hj => by
      dsimp only
      rw [dif_pos hj]
      exact Classical.choose_spec (ze.acc.2 j hj)⟩
  have inj : ∀ j j', j < m → j' < m → T j = T j' → j = j' := fun j j' hj hj' e => by
    rcases Nat.lt_trichotomy j j' with c | c | c
    · have := ze.inc j j' _ _ c hj' (hT j hj).1 (hT j' hj').1
      omega
    · exact c
    · have := ze.inc j' j _ _ c hj (hT j' hj').1 (hT j hj).1
      omega
  have hr : base ≤ h2.objs.size := Nat.le_of_lt (Nat.lt_of_le_of_lt (hT 0 hm0).2.1 (Heap.lt_size (hT 0 hm0).2.2))
  have tr : ∀ j, j < m → T j < h2.objs.size := fun j hj => Heap.lt_size (hT j hj).2.2
  have fresh : ∀ b, base ≤ b → H1 b = none := fun b hb => I2.hok.fresh (by rw [← hbase]; exact hb)
  let cols := colsOf m rws
  have clen : cols.length = m := by show (colsOf m rws).length = m; unfold colsOf; rw [List.length_map, List.length_range]
  let H2 : Hp := fun b => if b = h2.objs.size then some (.tup (((List.range m).map T).map V.ref)) else match (List.range m).find? fun j => T j == b with
    | some j => some (.tup (cols.getD j []))
    | none => H1 b
  have H2r : H2 h2.objs.size = some (.tup (((List.range m).map T).map V.ref)) := if_pos rfl
  have H2T : ∀ j, j < m → H2 (T j) = some (.tup (cols.getD j [])) := fun j hj => by
    show (if T j = h2.objs.size then _ else _) = _
    rw [if_neg (Nat.ne_of_lt (tr j hj))]
    have e : (List.range m).find? (fun j' => T j' == T j) = some j := by
      cases q : (List.range m).find? (fun j' => T j' == T j) with
      | none =>
        have z := List.find?_eq_none.mp q j (List.mem_range.mpr hj)
        simp at z
      | some j' =>
        have z1 := List.find?_some q
        have z2 := List.mem_range.mp (List.mem_of_find?_eq_some q)
        rw [inj j' j z2 hj (eq_of_beq z1)]
    rw [e]
  have H2o : ∀ b, b < base → H2 b = H1 b := fun b hb => by
    show (if b = h2.objs.size then _ else _) = _
    rw [if_neg (Nat.ne_of_lt (Nat.lt_of_lt_of_le hb hr))]
    have e : (List.range m).find? (fun j' => T j' == b) = none := List.find?_eq_none.mpr fun j hj z => by
      have z1 : T j = b := eq_of_beq z
      have := (hT j (List.mem_range.mp hj)).2.1
      omega
    rw [e]
  have H2n : ∀ b u, H2 b = some u → base ≤ b → (b = h2.objs.size ∧ u = .tup (((List.range m).map T).map V.ref)) ∨ ∃ j, j < m ∧ b = T j ∧ u = .tup (cols.getD j []) := fun b u e hb => by
    by_cases h1 : b = h2.objs.size
    · subst h1
      rw [H2r] at e
      exact .inl ⟨rfl, (Option.some.inj e).symm⟩
    · have e1 : (match (List.range m).find? fun j => T j == b with
        | some j => some (HO.tup (cols.getD j []))
        | none => H1 b) = some u := by
        have z : H2 b = _ := if_neg h1
        rw [← z]
        exact e
      cases q : (List.range m).find? (fun j' => T j' == b) with
      | none =>
        rw [q] at e1
        dsimp only at e1
        rw [fresh b hb] at e1
        cases e1
      | some j =>
        rw [q] at e1
        have z1 := List.find?_some q
        exact .inr ⟨j, List.mem_range.mp (List.mem_of_find?_eq_some q), (eq_of_beq z1).symm, (Option.some.inj e1).symm⟩
  have oldlt : ∀ b u, H1 b = some u → b < base := fun b u e => by rw [hbase]; exact I2.hok.lt e
  have keep : ∀ b u, H1 b = some u → H2 b = some u := fun b u e => (H2o b (oldlt b u e)).trans e
  have cget : ∀ j, j < m → cols.getD j [] = rws.map fun xs => xs.getD j .non := fun j hj => by
    show (colsOf m rws).getD j [] = _
    unfold colsOf
    rw [List.getD_eq_getElem?_getD, List.getElem?_map, List.getElem?_range hj]
    rfl
  have I3 : Inv X pins σ H2 { s2 with heap := h2.push (tupO acc), toks := s2.toks } := by
    refine inv_grown I2 (fun b u e => Heap.get?_push_of_some _ (ze.old b u (by rw [hbase]; exact Heap.lt_size e) e)) keep (fun b u e n => (H2o b (by rw [hbase]; exact Heap.lt_size e)).trans n) fun b u e n => ?_
    have hb : base ≤ b := by
      by_cases c : base ≤ b
      · exact c
      · rw [H2o b (by omega), n] at e
        cases e
    rcases H2n b u e hb with ⟨rfl, rfl⟩ | ⟨j, hj, rfl, rfl⟩
    · refine ⟨by rw [List.length_map, List.length_map, List.length_range]; exact Nat.le_trans hm1 (by decide), (List.range m).map fun j => Value.ref (T j), ?_, ⟨tupO acc, Heap.get?_push_size _ rfl, rfl, 0, ?_⟩⟩
      · rw [List.map_map]
        exact vals_map (f := fun j => V.ref (T j)) (g := fun j => Value.ref (T j)) (fun j => (rfl : Value.ref (T j) = Value.ref (T j))) _
      · have ea : acc = ((List.range m).map fun j => Value.ref (T j)).toArray := by
          apply Array.ext
          · rw [ze.acc.1]; simp
          · intro i i1 i2
            have z := (hT i (by rw [ze.acc.1] at i1; exact i1)).1
            rw [Array.getElem?_eq_getElem i1] at z
            rw [Option.some.inj z]
            simp
        rw [← ea]
    · refine ⟨by rw [cget j hj, List.length_map, hrl]; exact Nat.le_trans (show ps.length ≤ 8 by omega) (by decide), (List.range ps.length).map fun i => (f i).getD j .none, ?_, ⟨tupO _, Heap.get?_push_of_some _ (hT j hj).2.2, rfl, 0, rfl⟩⟩
      rw [cget j hj]
      have er : rws = (List.range ps.length).map fun i => rws.getD i [] := by
        apply List.ext_getElem
        · rw [List.length_map, List.length_range, hrl]
        · intro i i1 i2
          rw [List.getElem_map, List.getElem_range, List.getD_eq_getElem?_getD, List.getElem?_eq_getElem i1]
          rfl
      rw [er, List.map_map]
      refine vals_maps _ fun i hi => ?_
      have hi' := List.mem_range.mp hi
      obtain ⟨rv, _, rl⟩ := hf i hi'
      have gx : (rws.getD i [])[j]? = some ((rws.getD i []).getD j .non) := by rw [List.getD_eq_getElem?_getD (l := rws.getD i []), List.getElem?_eq_getElem (by rw [rl]; exact hj)]; rfl
      obtain ⟨u, hu, ru⟩ := rv.get gx
      rw [gD _ _ (by rw [fl i hi']; exact hj)] at hu
      show RelV ((rws.getD i []).getD j .non) _
      rw [Option.some.inj hu]
      exact ru
  refine ⟨.ref h2.objs.size, H2, I3, rfl, q H2 h2.objs.size ⟨keep, (List.range m).map T, by rw [List.length_map, List.length_range]; exact clen.symm, fresh _ hr, H2r, fun j t c e1 e2 => ?_, fun b u e n => ?_⟩⟩
  · have hj : j < m := by
      have := (List.getElem?_eq_some_iff.mp e1).1
      rw [List.length_map, List.length_range] at this
      exact this
    rw [List.getElem?_map, List.getElem?_range hj] at e1
    obtain rfl := Option.some.inj e1
    refine ⟨fresh _ (hT j hj).2.1, ?_⟩
    rw [H2T j hj]
    have z : cols.getD j [] = c := by rw [List.getD_eq_getElem?_getD, show cols[j]? = some c from e2]; rfl
    rw [z]
  · have hb : base ≤ b := by
      by_cases c : base ≤ b
      · exact c
      · rw [H2o b (by omega), n] at e
        cases e
    rcases H2n b u e hb with ⟨_, rfl⟩ | ⟨j, _, _, rfl⟩ <;> exact fun _ z => nomatch z
end
end Qz

/-! Q27: tuple(zip(*rows)) and calls of a local that holds a def, as judgements. -/
namespace Qp
open PySem PySem.Spec PyProof.Rows L2 Qz
/-- a tuple of tuples, taken apart -/
theorem dqAll_tups {K : Fg} {G : Hp} : ∀ {vs : List V} {rows : List (List D)}, DqAll K G vs (rows.map D.tup) → ∃ (ps : List Addr) (rws : List (List V)), vs = ps.map V.ref ∧ ps.length = rows.length ∧ rws.length = rows.length ∧
    (∀ (i : Nat) q xs ds, ps[i]? = some q → rws[i]? = some xs → rows[i]? = some ds → SqT K G q xs ∧ DqAll K G xs ds)
  | [], [], _ => ⟨[], [], rfl, rfl, rfl, fun i q xs ds h => by simp at h⟩
  | v :: vs, d :: rows, h => by
    cases h with
    | cons h1 h2 =>
      obtain ⟨a, xs, rfl, ta, da⟩ := dq_tup h1
      obtain ⟨ps, rws, rfl, e1, e2, h3⟩ := dqAll_tups h2
      refine ⟨a :: ps, xs :: rws, rfl, by rw [List.length_cons, List.length_cons, e1], by rw [List.length_cons, List.length_cons, e2], fun i q ys ds g1 g2 g3 => ?_⟩
      cases i with
      | zero =>
        cases g1
        cases g2
        cases g3
        exact ⟨ta, da⟩
      | succ i => exact h3 i q ys ds g1 g2 g3
theorem dqAll_of {K : Fg} {G : Hp} : ∀ {vs : List V} {ds : List D}, vs.length = ds.length → (∀ (i : Nat) v d, vs[i]? = some v → ds[i]? = some d → Dq K G v d) → DqAll K G vs ds
  | [], [], _, _ => .nil
  | v :: vs, d :: ds, hl, h => .cons (h 0 v d rfl rfl) (dqAll_of (by simpa using hl) fun i v d e1 e2 => h (i + 1) v d e1 e2)
/-- the frozen part, with what is new -/
def growG (G H H2 : Hp) : Hp := fun b => (G b).or (if H b = none then H2 b else none)
theorem growG_old {G H H2 : Hp} {a : Addr} {o : HO} (e : G a = some o) : growG G H H2 a = some o := by unfold growG; rw [e]; rfl
theorem growG_new {G H H2 : Hp} {a : Addr} (e : G a = none) (h : H a = none) : growG G H H2 a = H2 a := by unfold growG; rw [e, if_pos h]; rfl
theorem growG_not {G H H2 : Hp} {a : Addr} (e : G a = none) (h : H a ≠ none) : growG G H H2 a = none := by unfold growG; rw [e, if_neg h]; rfl
theorem sat_zip {K : Fg} {F : Addr → Prop} {G H H2 : Hp} {σ : L2.St} {ls : List Loc} {cols : List (List V)} {dss : List (List D)} {r : Addr} (S : Sat K F G H σ ls) (Z : ZRes H cols H2 r) (hl : cols.length = dss.length)
    (hd : ∀ (j : Nat) c ds, cols[j]? = some c → dss[j]? = some ds → DqAll K G c ds) : ∃ G2, Ex G G2 ∧ Ex H H2 ∧ Sat K F G2 H2 σ ls ∧ Dq K G2 (.ref r) (.tup (dss.map D.tup)) := by
  obtain ⟨Ts, hTl, hr0, hr, hT, hn⟩ := Z.ex
  have eh : Ex H H2 := fun a o e => .of (Z.keep a o e)
  have eg : Ex G (growG G H H2) := fun a o e => .of (growG_old e)
  refine ⟨growG G H H2, eg, eh, S.grow eg eh (fun a o e => ?_) (fun a ha => ?_), ?_⟩
  · cases q : G a with
    | some u =>
      rw [growG_old q] at e
      cases e
      exact Ex.trans S.ex eh a _ q
    | none =>
      by_cases c : H a = none
      · rw [growG_new q c] at e
        exact .of e
      · rw [growG_not q c] at e
        cases e
  · cases q : G a with
    | some u => exact .inl (by simp)
    | none =>
      by_cases c : H a = none
      · exact .inr fun z => z.ne c
      · rw [growG_not q c] at ha
        exact absurd rfl ha
  · refine .tup (SqT.of (xs := Ts.map V.ref) ?_) (dqAll_of (by rw [List.length_map, List.length_map, hTl, hl]) fun i v d e1 e2 => ?_)
    · rw [growG_new (S.ex.fresh hr0) hr0]
      exact hr
    · rw [List.getElem?_map] at e1 e2
      obtain ⟨t, t1, rfl⟩ := Option.map_eq_some_iff.mp e1
      obtain ⟨ds, d1, rfl⟩ := Option.map_eq_some_iff.mp e2
      have hi := (List.getElem?_eq_some_iff.mp d1).1
      have c1 : cols[i]? = some (cols[i]'(by omega)) := List.getElem?_eq_getElem _
      obtain ⟨n0, n1⟩ := hT i t _ t1 c1
      refine .tup (SqT.of ?_) (dqAll_mono eg (hd i _ ds c1 d1))
      rw [growG_new (S.ex.fresh n0) n0]
      exact n1
section
variable {C : Cs} {ls : List Loc} {a e : Expr} {d : D} {ds : List D} {pos p1 p2 pos2 sp : Pos} {Po : D → Prop}
def colsD (m : Nat) (rows : List (List D)) : List (List D) := (List.range m).map fun k => rows.map fun r => r.getD k .non
theorem je_zipT [Cold C] {rows : List (List D)} {m : Nat} (ha : JE C ls a (.tup (rows.map D.tup))) (hl : rows.length = 2 ∨ rows.length = 4 ∨ rows.length = 8) (hm : ∀ r ∈ rows, r.length = m) (h0 : 0 < m) (h1 : m ≤ 1000)
    (hnT : NoG C "tuple" := by assumption) (hnZ : NoG C "zip" := by assumption) (hgT : ∀ j, Gl (C.X j) "tuple" := by intro _; rfl) (hgZ : ∀ j, Gl (C.X j) "zip" := by intro _; rfl) :
    JE C ls (.Call (.Name "tuple" p1) [.Call (.Name "zip" p2) [.Starred a sp] [] pos2] [] pos) (.tup ((colsD m rows).map D.tup)) :=
  je_of (t := tZip C.K (eAny C a)) (fun j => kx (p := fun K => PE (C.X j) _ (tZip K (eAny C a))) j (pe_zip (hgT j) (noG hnT j) (hgZ j) (noG hnZ j) (C.calm j Cold.h) (pe_any C a j))) fun F G H σ S xx Q q => ha F G H σ S xx _ fun v G' H' eg eh S' hv => by
    obtain ⟨p, vs, rfl, tp, dv⟩ := dq_tup hv
    obtain ⟨ps, rws, rfl, e1, e2, h3⟩ := dqAll_tups dv
    refine ⟨p, ps, rws, m, rfl, ex_t S'.ex tp, by rw [e1]; exact hl, by rw [e1, e2], fun i q xs g1 g2 => ?_, h0, h1, fun H2 r Z => ?_⟩
    · have hi : i < rows.length := by rw [← e1]; exact (List.getElem?_eq_some_iff.mp g1).1
      obtain ⟨t1, t2⟩ := h3 i q xs rows[i] g1 g2 (List.getElem?_eq_getElem hi)
      exact ⟨ex_t S'.ex t1, by rw [t2.length]; exact hm _ (List.getElem_mem hi)⟩
    · obtain ⟨G2, eg2, eh2, S2, hd⟩ := sat_zip (dss := colsD m rows) S' Z (by unfold colsD colsOf; rw [List.length_map, List.length_map]) fun j c ds c1 d1 => by
        unfold colsOf at c1
        unfold colsD at d1
        rw [List.getElem?_map] at c1 d1
        obtain ⟨k, k1, rfl⟩ := Option.map_eq_some_iff.mp c1
        obtain ⟨k', k2, rfl⟩ := Option.map_eq_some_iff.mp d1
        rw [k1] at k2
        cases k2
        have hk : k < m := List.mem_range.mp (List.mem_of_getElem? k1)
        refine dqAll_of (by rw [List.length_map, List.length_map, e2]) fun i v d v1 d1 => ?_
        rw [List.getElem?_map] at v1 d1
        obtain ⟨xs, x1, rfl⟩ := Option.map_eq_some_iff.mp v1
        obtain ⟨ds, y1, rfl⟩ := Option.map_eq_some_iff.mp d1
        have hi : i < ps.length := by rw [e1]; exact (List.getElem?_eq_some_iff.mp y1).1
        obtain ⟨_, t2⟩ := h3 i ps[i] xs ds (List.getElem?_eq_getElem hi) x1 y1
        have lk : k < ds.length := by rw [hm ds (List.mem_of_getElem? y1)]; exact hk
        have gx : xs[k]? = some (xs.getD k .non) := by rw [List.getD_eq_getElem?_getD, List.getElem?_eq_getElem (by rw [t2.length]; exact lk)]; rfl
        obtain ⟨d', d1, d2⟩ := t2.get' gx
        rw [List.getD_eq_getElem?_getD (l := ds), d1]
        exact d2
      exact q _ G2 H2 (eg.trans eg2) (eh.trans eh2) S2 hd
/-- a def, by its name, as a value -/
theorem je_globF {x : Str} {f : Addr} (hm : C.mg x = some (.ref f)) (hg : ∀ j, Gl (C.X j) x := by intro _; rfl) (hd : (x == ("__debug__" : Str)) = false := by decide) : JE C ls (.Name x pos) (.ref f) :=
  je_of (t := tC (.ref f)) (fun j => pe_glob (hg j) (by rw [C.hmg]; exact hm) rfl hd) (ev_c fun _ => .ref f)
/-- the def at an address -/
structure FnA (P : Program) (w : World) (K : Fg) (mg : Str → Option Value) (base : Heap) (k : Nat) (f : Addr) (R : Rel) (T : Addr → Prop := fun _ => False) : Prop where
  ex : ∃ fd ps, FnOk P w K mg base CX0 k f fd ps (spD K R T) ∧ PySem.W.keepIn K (.ref f) = true ∧ Binds K fd ps []
theorem Fn.at {P : Program} {w : World} {K : Fg} {mg : Str → Option Value} {base : Heap} {k : Nat} {x : Str} {R : Rel} {T : Addr → Prop} (F : Fn P w K mg base k x R T) : ∃ f, mg x = some (.ref f) ∧ FnA P w K mg base k f R T := by
  obtain ⟨f, fd, ps, G, hm, kp, hb⟩ := F.ex
  exact ⟨f, hm, ⟨fd, ps, G, kp, hb⟩⟩
theorem jx_callV [Cold C] {k : Nat} {f : Addr} {R : Rel} {x : Str} (i : Nat) (F : FnA C.P C.w C.K C.mg C.base k f R C.E.T) {es : List Expr} (ha : JA C ls (e :: es) ds) (hR : R ds Po) (hl : ls[i]? = some (.val (.ref f)) := by rfl) (hi : C.N[i]? = some x := by rfl)
    (hv : ∀ j, Vis (C.X j).env.scope x := by intro _; first | exact Or.inl rfl | exact Or.inr (Or.inl rfl) | exact Or.inr (Or.inr rfl)) (hk : k ≤ C.k := by exact Nat.le_of_ble_eq_true rfl) (hdb : (x == ("__debug__" : Str)) = false := by decide) (hcd : (x == ("__classdict__" : Str)) = false := by decide) :
    JX C ls (.Call (.Name x p1) (e :: es) [] pos) Po := by
  obtain ⟨fd, ps, G, kp, hb⟩ := F.ex
  refine fun F' G1 H1 σ S xx Q q => ⟨tCallL i f (spD C.K R C.E.T) [] E0 (aAny C (e :: es)), fun j => ?_, ?_, ha.ev F' G1 H1 σ S xx _ fun vs G2 H2 eg2 eh2 S2 hv => ?_⟩
  · exact pe_callL (fnAt G hk j) (C.cold j Cold.h) (by rw [C.hN]; exact hi) (hv j) (by rw [C.hK]; exact kp) (by rw [C.hK]; exact hb) .nil pass0 (pa_any C (e :: es) j) hdb hcd (ha.ns e List.mem_cons_self _ _) (ns_any (fun y hy => ha.ns y (List.mem_cons_of_mem _ hy)) _ _)
  · obtain ⟨v, e1, hv⟩ := S.var hl
    rw [dq_ref hv] at e1
    exact e1
  · rw [List.append_nil]
    refine ⟨G2, ds, Po, S2.ex, (xx.step eg2 eh2).tb, hv, hR, fun d hd G3 H3 v eg3 e3 eh3 n3 hv3 => q d v G3 H3 hd (eg2.trans eg3) (eh2.trans eh3) (S2.grow eg3 eh3 e3 fun a ha => ?_) hv3⟩
    by_cases h2 : NT H2 a
    · exact Or.inl fun g => ha (n3 a h2 g)
    · exact Or.inr h2
theorem je_callV [Cold C] {k : Nat} {f : Addr} {r : List D → D → Prop} {x : Str} (i : Nat) (F : FnA C.P C.w C.K C.mg C.base k f (det r) C.E.T) {es : List Expr} (ha : JA C ls (e :: es) ds) (hR : r ds d) (hl : ls[i]? = some (.val (.ref f)) := by rfl) (hi : C.N[i]? = some x := by rfl)
    (hv : ∀ j, Vis (C.X j).env.scope x := by intro _; first | exact Or.inl rfl | exact Or.inr (Or.inl rfl) | exact Or.inr (Or.inr rfl)) (hk : k ≤ C.k := by exact Nat.le_of_ble_eq_true rfl) (hdb : (x == ("__debug__" : Str)) = false := by decide) (hcd : (x == ("__classdict__" : Str)) = false := by decide) :
    JE C ls (.Call (.Name x p1) (e :: es) [] pos) d := JX.je (jx_callV i F ha ⟨d, hR, rfl⟩ hl hi hv hk hdb hcd)
end
end Qp

/-! Q28: a local name given a comprehension on its own line (the store is folded into the comprehension). -/
namespace Qp
open PySem PySem.Spec PyProof.Rows L2
section
variable {C : Cs} {ls : List Loc} {e elt a b : Expr} {d : D} {ds : List D} {pos p1 p2 p3 spos py : Pos} {scope : Scope} {ifs : List Expr} {P : Post} {rest body : List Stmt} {x : Str}
/-- what a comprehension is, with its reading -/
structure JL (C : Cs) [Cold C] (ls : List Loc) (e : Expr) (ds : List D) : Prop where
  ex : ∃ (wi : TI) (j : Nat) (x : Str) (p1 : Pos) (iter : Expr) (ifs : List Expr) (elt : Expr) (scope : Scope) (pos : Pos), e = .ListComp elt [⟨.Name x p1, iter, ifs, 0⟩] scope pos ∧ BOk C scope x j p1 ∧ (∀ i, PI (C.X i) (.Name x p1) iter wi) ∧ (∀ i y, foldedSetIterable iter (C.X i).env y = pure y) ∧
    EvN C.K C.E (tLc wi (gName j) (ifAny (C.blk scope) ifs) (eAny (C.blk scope) elt) [j]) ls ds
theorem JL.jn [Cold C] (h : JL C ls e ds) : JN C ls e ds := by
  obtain ⟨wi, j, x, p1, iter, ifs, elt, scope, pos, rfl, B, hi, hs, ev⟩ := h.ex
  exact jn_of (pe_lcA (tg := iter) B hi hs) ev
theorem js_setL [Cold C] (i : Nat) {y : Str} (h : JL C ls e ds) (hn : P.nx (ls.set i (.own ds))) (hy : C.N[i]? = some y := by rfl) (hyl : ∀ k, (C.X k).env.scope.names.lookup y = some .local := by intro _; rfl)
    (hsw : ∀ k, swapsWith e (some (.Name y py)) spos.line (C.X k).env = pure true := by intro _; rfl) : JS C ls (.Assign [.Name y py] e spos) P := by
  obtain ⟨wi, j, x, p1, iter, ifs, elt, scope, pos, rfl, B, hi, hs, ev⟩ := h.ex
  exact js_of (fun k => ps_lcA (tg := iter) B hi hs hy hyl hsw k) fun F G H σ D' S f => ev F G H σ S (f.xok S) _ fun p vs G' H' eg eh nf S' hp hv => f.nx G' H' _ _ eg (S.kp eh) (S'.setN nf hp hv) hn
theorem jb_setL [Cold C] (i : Nat) {y : Str} (h : JL C ls e ds) (k : JB C (ls.set i (.own ds)) rest P) (hy : C.N[i]? = some y := by rfl) (hyl : ∀ k, (C.X k).env.scope.names.lookup y = some .local := by intro _; rfl)
    (hsw : ∀ k, swapsWith e (some (.Name y py)) spos.line (C.X k).env = pure true := by intro _; rfl) : JB C ls (.Assign [.Name y py] e spos :: rest) P :=
  jb_cons (fun l => l = ls.set i (.own ds)) (js_setL i h rfl hy hyl hsw) fun _ z => z ▸ k
theorem JL.is [Cold C] {ds' : List D} (h : JL C ls e ds) (q : ds = ds') : JL C ls e ds' := q ▸ h
theorem jl_R [Cold C] {n : Int} (j : Nat) (b : Nat → Bool) (f : Nat → D) (he : JE C ls e (.int n)) (hn : n < 1000000) (ht : ∀ i : Nat, i < n.toNat → JI (C.blk scope) (ls.set j (.val (.int i))) ifs (b i)) (hb : ∀ i : Nat, i < n.toNat → b i = true → JE (C.blk scope) (ls.set j (.val (.int i))) elt (f i)) (B : BOk C scope x j p1)
    (hj : ∀ l, ls[j]? = some l → l.keeps = true := by intro _ h; cases h; rfl) (hm : NoG C "range" := by assumption) (hg : ∀ j, Gl (C.X j) "range" := by intro _; rfl) (hs : NS e := by intro _ _; rfl) (hfs : ∀ i x, foldedSetIterable (.Call (.Name "range" p2) [e] [] p3) (C.X i).env x = pure x := by intro _ _; rfl) (h62 : -(2 ^ 62) ≤ n := by omega) :
    JL C ls (.ListComp elt [⟨.Name x p1, .Call (.Name "range" p2) [e] [] p3, ifs, 0⟩] scope pos) (outs n.toNat b f) :=
  ⟨_, j, _, _, _, _, _, _, _, rfl, B, fun i => range' i (hg i) hm hs, hfs, evN_lc j n.toNat (fun i => .int i) b f (fun _ Jt => Jt = Itr 0 n.toNat) (by omega) hj
    (fun F G H σ S xx R q => he F G H σ S xx _ fun v G' H' eg eh S' hv => ⟨n, by rw [dq_int hv], h62, by omega, q _ G' H' eg eh S' rfl⟩)
    (fun G Jt H hJ e => by subst hJ; exact Nat.le_refl _) (fun G Jt H i hJ e hi => by subst hJ; exact hi)
    (fun G Jt H i x H1 hJ e hi y => by
      subst hJ
      obtain ⟨rfl, rfl⟩ := y
      have e0 : (0 : Int) + (i : Int) = (i : Int) := Int.zero_add _
      exact ⟨rfl, by rw [e0]; exact .int _⟩) ht hb⟩
theorem jl_L [Cold C] {α : Type} {xs : List α} (g : α → D) (z : α) (j : Nat) (b : Nat → Bool) (f : Nat → D) (he : JE C ls e (.lst (xs.map g))) (hn : xs.length < 1000000) (ht : ∀ i, i < xs.length → JI (C.blk scope) (ls.set j (.val (g (xs.getD i z)))) ifs (b i)) (hb : ∀ i, i < xs.length → b i = true → JE (C.blk scope) (ls.set j (.val (g (xs.getD i z)))) elt (f i)) (B : BOk C scope x j p1)
    (hj : ∀ l, ls[j]? = some l → l.keeps = true := by intro _ h; cases h; rfl) (hfs : ∀ i x, foldedSetIterable e (C.X i).env x = pure x := by intro _ _; rfl) :
    JL C ls (.ListComp elt [⟨.Name x p1, e, ifs, 0⟩] scope pos) (outs xs.length b f) :=
  ⟨_, j, _, _, _, _, _, _, _, rfl, B, fun i => kx (p := fun K => PI (C.X i) _ e (iList K (eAny C e))) i (pi_list (pe_any C e i)), hfs, evN_lc j xs.length (fun i => g (xs.getD i z)) b f (fun G Jt => ∃ a vs, Jt = Itl C.K a ∧ G a = some (.lst vs) ∧ DqAll C.K G vs (xs.map g)) hn hj
    (fun F G H σ S xx R q => he F G H σ S xx _ fun v G' H' eg eh S' hv => by
      obtain ⟨a, vs, rfl, ha, hd⟩ := dq_lst hv
      exact ⟨a, rfl, ⟨vs, SqL.of (S'.ex _ _ ha)⟩, q _ G' H' eg eh S' ⟨a, vs, rfl, ha, hd⟩⟩)
    (fun G Jt H hJ e => by
      obtain ⟨a, vs, rfl, ha, hd⟩ := hJ
      exact ⟨vs, SqL.of (e _ _ ha), by rw [hd.length, List.length_map]; exact Nat.le_refl _⟩)
    (fun G Jt H i hJ e hi => by
      obtain ⟨a, vs, rfl, ha, hd⟩ := hJ
      exact ⟨vs, vs[i]'(by rw [hd.length, List.length_map]; exact hi), SqL.of (e _ _ ha), List.getElem?_eq_getElem _⟩)
    (fun G Jt H i x H1 hJ e hi y => by
      obtain ⟨a, vs, rfl, ha, hd⟩ := hJ
      obtain ⟨rfl, y⟩ := y
      have hx := y vs (SqL.of (e _ _ ha))
      obtain ⟨d, e1, e2⟩ := hd.get' hx
      refine ⟨rfl, ?_⟩
      rw [List.getElem?_map, List.getElem?_eq_getElem hi] at e1
      cases e1
      rw [List.getD_eq_getElem?_getD, List.getElem?_eq_getElem hi]
      exact e2) ht hb⟩
theorem jl_T [Cold C] {α : Type} {xs : List α} (g : α → D) (z : α) (j : Nat) (b : Nat → Bool) (f : Nat → D) (he : JE C ls e (.tup (xs.map g))) (hn : xs.length < 1000000) (ht : ∀ i, i < xs.length → JI (C.blk scope) (ls.set j (.val (g (xs.getD i z)))) ifs (b i)) (hb : ∀ i, i < xs.length → b i = true → JE (C.blk scope) (ls.set j (.val (g (xs.getD i z)))) elt (f i)) (B : BOk C scope x j p1)
    (hj : ∀ l, ls[j]? = some l → l.keeps = true := by intro _ h; cases h; rfl) (hfs : ∀ i x, foldedSetIterable e (C.X i).env x = pure x := by intro _ _; rfl) :
    JL C ls (.ListComp elt [⟨.Name x p1, e, ifs, 0⟩] scope pos) (outs xs.length b f) :=
  ⟨_, j, _, _, _, _, _, _, _, rfl, B, fun i => kx (p := fun K => PI (C.X i) _ e (iTup K (eAny C e))) i (pi_tup (pe_any C e i)), hfs, evN_lc j xs.length (fun i => g (xs.getD i z)) b f (fun G Jt => ∃ a vs, Jt = Itt C.K a ∧ SqT C.K G a vs ∧ DqAll C.K G vs (xs.map g)) hn hj
    (fun F G H σ S xx R q => he F G H σ S xx _ fun v G' H' eg eh S' hv => by
      obtain ⟨a, vs, rfl, ha, hd⟩ := dq_tup hv
      exact ⟨a, rfl, ⟨vs, ex_t S'.ex ha⟩, q _ G' H' eg eh S' ⟨a, vs, rfl, ha, hd⟩⟩)
    (fun G Jt H hJ e => by
      obtain ⟨a, vs, rfl, ha, hd⟩ := hJ
      exact ⟨vs, ex_t e ha, by rw [hd.length, List.length_map]; exact Nat.le_refl _⟩)
    (fun G Jt H i hJ e hi => by
      obtain ⟨a, vs, rfl, ha, hd⟩ := hJ
      exact ⟨vs, vs[i]'(by rw [hd.length, List.length_map]; exact hi), ex_t e ha, List.getElem?_eq_getElem _⟩)
    (fun G Jt H i x H1 hJ e hi y => by
      obtain ⟨a, vs, rfl, ha, hd⟩ := hJ
      obtain ⟨rfl, y⟩ := y
      have hx := y vs (ex_t e ha)
      obtain ⟨d, e1, e2⟩ := hd.get' hx
      refine ⟨rfl, ?_⟩
      rw [List.getElem?_map, List.getElem?_eq_getElem hi] at e1
      cases e1
      rw [List.getD_eq_getElem?_getD, List.getElem?_eq_getElem hi]
      exact e2) ht hb⟩
end
end Qp

/-! U1: steps and steps back, as lists of ints. -/
namespace Qp
def sF (xs : List Int) (k : Nat) : Int := xs.getD (2 * k + 1) 0 + (xs.getD (2 * k) 0 - xs.getD (2 * k + 1) 0) / 2
def dF (xs : List Int) (k : Nat) : Int := xs.getD (2 * k) 0 - xs.getD (2 * k + 1) 0
def mStep (xs : List Int) : List Int := (List.range (xs.length / 2)).map (sF xs) ++ (List.range (xs.length / 2)).map (dF xs)
def bF (xs : List Int) (k : Nat) : Int := xs.getD k 0 - xs.getD (xs.length / 2 + k) 0 / 2
def backTo (xs : List Int) : Nat → List Int
  | 0 => []
  | k + 1 => (backTo xs k ++ [bF xs k + xs.getD (xs.length / 2 + k) 0]) ++ [bF xs k]
def mBack (xs : List Int) : List Int := backTo xs (xs.length / 2)
theorem range_app {α : Type} (f : Nat → α) (k : Nat) : (List.range k).map f ++ [f k] = (List.range (k + 1)).map f := by rw [List.range_succ, List.map_append]; rfl
theorem ext_getD {xs ys : List Int} (hl : xs.length = ys.length) (h : ∀ i, i < xs.length → xs.getD i 0 = ys.getD i 0) : xs = ys := by
  refine List.ext_getElem hl fun i h1 h2 => ?_
  have := h i h1
  rw [List.getD_eq_getElem?_getD, List.getD_eq_getElem?_getD, List.getElem?_eq_getElem h1, List.getElem?_eq_getElem h2] at this
  exact this
theorem getD_range {f : Nat → Int} {n k : Nat} (h : k < n) : ((List.range n).map f).getD k 0 = f k := by
  rw [List.getD_eq_getElem?_getD, List.getElem?_map, List.getElem?_range h]
  rfl
theorem getD_left {xs ys : List Int} {k : Nat} (h : k < xs.length) : (xs ++ ys).getD k 0 = xs.getD k 0 := by
  rw [List.getD_eq_getElem?_getD, List.getD_eq_getElem?_getD, List.getElem?_append_left h]
theorem getD_right {xs ys : List Int} {k : Nat} (h : xs.length ≤ k) : (xs ++ ys).getD k 0 = ys.getD (k - xs.length) 0 := by
  rw [List.getD_eq_getElem?_getD, List.getD_eq_getElem?_getD, List.getElem?_append_right h]
theorem mStep_len (xs : List Int) : (mStep xs).length = xs.length / 2 + xs.length / 2 := by
  unfold mStep
  rw [List.length_append, List.length_map, List.length_map, List.length_range]
theorem mStep_lo {xs : List Int} {k : Nat} (h : k < xs.length / 2) : (mStep xs).getD k 0 = sF xs k := by
  unfold mStep
  rw [getD_left (by rw [List.length_map, List.length_range]; exact h), getD_range h]
theorem mStep_hi {xs : List Int} {k : Nat} (h : k < xs.length / 2) : (mStep xs).getD (xs.length / 2 + k) 0 = dF xs k := by
  unfold mStep
  rw [getD_right (by rw [List.length_map, List.length_range]; omega), List.length_map, List.length_range, show xs.length / 2 + k - xs.length / 2 = k by omega, getD_range h]
theorem backTo_len (xs : List Int) : ∀ k, (backTo xs k).length = 2 * k
  | 0 => rfl
  | k + 1 => by
    unfold backTo
    rw [List.length_append, List.length_append, backTo_len xs k]
    rfl
theorem mBack_len (xs : List Int) : (mBack xs).length = 2 * (xs.length / 2) := backTo_len _ _
theorem backTo_at (xs : List Int) : ∀ n k, k < n → (backTo xs n).getD (2 * k) 0 = bF xs k + xs.getD (xs.length / 2 + k) 0 ∧ (backTo xs n).getD (2 * k + 1) 0 = bF xs k
  | 0, k, h => by omega
  | n + 1, k, h => by
    have hl := backTo_len xs n
    unfold backTo
    by_cases e : k < n
    · have ih := backTo_at xs n k e
      rw [getD_left (by rw [List.length_append, hl, List.length_singleton]; omega), getD_left (by omega), getD_left (by rw [List.length_append, hl, List.length_singleton]; omega), getD_left (by omega)]
      exact ih
    · have e : k = n := by omega
      subst e
      rw [getD_left (by rw [List.length_append, hl, List.length_singleton]; omega), getD_right (by omega), hl, Nat.sub_self, getD_right (by rw [List.length_append, hl, List.length_singleton]; omega), List.length_append, hl, List.length_singleton, Nat.sub_self]
      exact ⟨rfl, rfl⟩
theorem mBack_even {xs : List Int} {k : Nat} (h : k < xs.length / 2) : (mBack xs).getD (2 * k) 0 = bF xs k + xs.getD (xs.length / 2 + k) 0 := (backTo_at xs _ k h).1
theorem mBack_odd {xs : List Int} {k : Nat} (h : k < xs.length / 2) : (mBack xs).getD (2 * k + 1) 0 = bF xs k := (backTo_at xs _ k h).2
theorem mBack_mStep {xs : List Int} {m : Nat} (h : xs.length = 2 * m) : mBack (mStep xs) = xs := by
  have l1 := mStep_len xs
  refine ext_getD (by rw [mBack_len]; omega) fun i hi => ?_
  rw [mBack_len] at hi
  have k1 : i / 2 < (mStep xs).length / 2 := by omega
  have k2 : i / 2 < xs.length / 2 := by omega
  have e1 := mBack_even k1
  have e2 := mBack_odd k1
  unfold bF at e1 e2
  rw [show (mStep xs).length / 2 = xs.length / 2 by omega, mStep_lo k2, mStep_hi k2] at e1 e2
  unfold sF dF at e1 e2
  rcases Nat.mod_two_eq_zero_or_one i with e | e
  · rw [show 2 * (i / 2) = i by omega] at e1
    rw [e1]
    omega
  · rw [show 2 * (i / 2) + 1 = i by omega] at e2
    rw [e2]
    omega
theorem mStep_mBack {xs : List Int} {m : Nat} (h : xs.length = 2 * m) : mStep (mBack xs) = xs := by
  have l1 := mBack_len xs
  refine ext_getD (by rw [mStep_len]; omega) fun i hi => ?_
  rw [mStep_len] at hi
  by_cases e : i < xs.length / 2
  · have k1 : i < (mBack xs).length / 2 := by omega
    rw [mStep_lo k1]
    unfold sF
    rw [mBack_even e, mBack_odd e]
    unfold bF
    omega
  · have k1 : i - xs.length / 2 < (mBack xs).length / 2 := by omega
    have k2 : i - xs.length / 2 < xs.length / 2 := by omega
    rw [show i = (mBack xs).length / 2 + (i - xs.length / 2) by omega, mStep_hi k1]
    unfold dF
    rw [mBack_even k2, mBack_odd k2, show xs.length / 2 + (i - xs.length / 2) = i by omega, show (mBack xs).length / 2 + (i - xs.length / 2) = i by omega]
    omega
end Qp

/-! U2: squares as functions; the transform there and back. -/
namespace Qp
abbrev Sq := Nat → Nat → Int
def fL (n : Nat) (f : Nat → Int) : List Int := (List.range n).map f
def gR (n : Nat) (q : Sq) : List (List Int) := (List.range n).map fun y => fL n (q y)
theorem fL_len (n : Nat) (f : Nat → Int) : (fL n f).length = n := by unfold fL; rw [List.length_map, List.length_range]
theorem gR_len (n : Nat) (q : Sq) : (gR n q).length = n := by unfold gR; rw [List.length_map, List.length_range]
theorem fL_getD {n : Nat} {f : Nat → Int} {k : Nat} (h : k < n) : (fL n f).getD k 0 = f k := getD_range h
theorem gR_getD {n : Nat} {q : Sq} {k : Nat} (h : k < n) : (gR n q).getD k [] = fL n (q k) := by
  unfold gR
  rw [List.getD_eq_getElem?_getD, List.getElem?_map, List.getElem?_range h]
  rfl
theorem fL_congr {n : Nat} {f g : Nat → Int} (h : ∀ k, k < n → f k = g k) : fL n f = fL n g := List.map_congr_left fun k hk => h k (List.mem_range.mp hk)
theorem gR_congr {n : Nat} {p q : Sq} (h : ∀ y x, y < n → x < n → p y x = q y x) : gR n p = gR n q := List.map_congr_left fun y hy => fL_congr fun x hx => h y x (List.mem_range.mp hy) hx
theorem fL_of (xs : List Int) : xs = fL xs.length fun k => xs.getD k 0 := ext_getD (fL_len _ _).symm fun i hi => (fL_getD (f := fun k => xs.getD k 0) hi).symm
theorem gR_of {rows : List (List Int)} (h : ∀ r ∈ rows, r.length = rows.length) : rows = gR rows.length fun y x => (rows.getD y []).getD x 0 := by
  unfold gR
  refine List.ext_getElem (by rw [List.length_map, List.length_range]) fun i h1 h2 => ?_
  rw [List.getElem_map, List.getElem_range]
  have e : rows.getD i [] = rows[i] := by rw [List.getD_eq_getElem?_getD, List.getElem?_eq_getElem h1]; rfl
  have hl := h _ (List.getElem_mem h1)
  show rows[i] = fL rows.length fun x => (rows.getD i []).getD x 0
  rw [e, ← hl]
  exact fL_of _
theorem gR_inj {n : Nat} {p q : Sq} (h : gR n p = gR n q) : ∀ y x, y < n → x < n → p y x = q y x := fun y x hy hx => by
  have h1 := congrArg (fun r => (List.getD r y []).getD x 0) h
  rw [gR_getD hy, gR_getD hy, fL_getD hx, fL_getD hx] at h1
  exact h1
/-- one step of the first m -/
def stp (m : Nat) (f : Nat → Int) : Nat → Int := fun x => if x < m / 2 then f (2 * x + 1) + (f (2 * x) - f (2 * x + 1)) / 2 else if x < m then f (2 * (x - m / 2)) - f (2 * (x - m / 2) + 1) else f x
def bck (m : Nat) (f : Nat → Int) : Nat → Int := fun x => if x < m then (if x % 2 = 0 then f (x / 2) - f (m / 2 + x / 2) / 2 + f (m / 2 + x / 2) else f (x / 2) - f (m / 2 + x / 2) / 2) else f x
theorem stp_congr {m : Nat} {f g : Nat → Int} {x : Nat} (hm : 2 * (m / 2) = m) (h : ∀ k, k < m → f k = g k) (h2 : f x = g x) : stp m f x = stp m g x := by
  unfold stp
  split
  · rw [h _ (by omega), h _ (by omega)]
  · split
    · rw [h _ (by omega), h _ (by omega)]
    · exact h2
theorem bck_congr {m : Nat} {f g : Nat → Int} {x : Nat} (hm : 2 * (m / 2) = m) (h : ∀ k, k < m → f k = g k) (h2 : f x = g x) : bck m f x = bck m g x := by
  unfold bck
  split
  · rw [h _ (by omega), h _ (by omega)]
  · exact h2
theorem bck_stp {m : Nat} (hm : 2 * (m / 2) = m) (f : Nat → Int) (x : Nat) : bck m (stp m f) x = f x := by
  unfold bck
  by_cases h : x < m
  · rw [if_pos h]
    have e1 : stp m f (x / 2) = f (2 * (x / 2) + 1) + (f (2 * (x / 2)) - f (2 * (x / 2) + 1)) / 2 := by
      unfold stp
      rw [if_pos (by omega)]
    have e2 : stp m f (m / 2 + x / 2) = f (2 * (x / 2)) - f (2 * (x / 2) + 1) := by
      unfold stp
      rw [if_neg (by omega), if_pos (by omega), show m / 2 + x / 2 - m / 2 = x / 2 by omega]
    rw [e1, e2]
    split
    · next h0 =>
      rw [show 2 * (x / 2) = x by omega]
      omega
    · next h0 =>
      rw [show 2 * (x / 2) + 1 = x by omega]
      omega
  · rw [if_neg h]
    unfold stp
    rw [if_neg (by omega), if_neg h]
theorem stp_bck {m : Nat} (hm : 2 * (m / 2) = m) (f : Nat → Int) (x : Nat) : stp m (bck m f) x = f x := by
  have ev : ∀ k, k < m / 2 → bck m f (2 * k) = f k - f (m / 2 + k) / 2 + f (m / 2 + k) := fun k hk => by
    unfold bck
    rw [if_pos (by omega), if_pos (by omega), show 2 * k / 2 = k by omega]
  have od : ∀ k, k < m / 2 → bck m f (2 * k + 1) = f k - f (m / 2 + k) / 2 := fun k hk => by
    unfold bck
    rw [if_pos (by omega), if_neg (by omega), show (2 * k + 1) / 2 = k by omega]
  unfold stp
  by_cases h1 : x < m / 2
  · rw [if_pos h1, ev x h1, od x h1]
    omega
  · rw [if_neg h1]
    by_cases h2 : x < m
    · rw [if_pos h2, ev _ (by omega), od _ (by omega), show m / 2 + (x - m / 2) = x by omega]
      omega
    · rw [if_neg h2]
      unfold bck
      rw [if_neg h2]
theorem mStep_fL {m : Nat} (hm : 2 * (m / 2) = m) (f : Nat → Int) : mStep (fL m f) = fL m (stp m f) := by
  have hl := fL_len m f
  refine ext_getD (by rw [mStep_len, fL_len, fL_len]; omega) fun i hi => ?_
  rw [mStep_len, hl] at hi
  rw [fL_getD (by omega)]
  unfold stp
  by_cases h : i < m / 2
  · rw [mStep_lo (by rw [hl]; exact h), if_pos h]
    unfold sF
    rw [fL_getD (by omega), fL_getD (by omega)]
  · have e : i = (fL m f).length / 2 + (i - m / 2) := by rw [hl]; omega
    rw [if_neg h, if_pos (by omega)]
    conv => lhs; rw [e]
    rw [mStep_hi (by rw [hl]; omega)]
    unfold dF
    rw [fL_getD (by omega), fL_getD (by omega)]
theorem mBack_fL {m : Nat} (hm : 2 * (m / 2) = m) (f : Nat → Int) : mBack (fL m f) = fL m (bck m f) := by
  have hl := fL_len m f
  refine ext_getD (by rw [mBack_len, fL_len, fL_len]; omega) fun i hi => ?_
  rw [mBack_len, hl] at hi
  rw [fL_getD (by omega)]
  unfold bck
  have hk : i / 2 < (fL m f).length / 2 := by rw [hl]; omega
  have e1 := mBack_even hk
  have e2 := mBack_odd hk
  unfold bF at e1 e2
  rw [hl, fL_getD (by omega), fL_getD (by omega)] at e1 e2
  rw [if_pos (by omega)]
  split
  · next h0 =>
    rw [show 2 * (i / 2) = i by omega] at e1
    exact e1
  · next h0 =>
    rw [show 2 * (i / 2) + 1 = i by omega] at e2
    exact e2
/-! one level, rows then columns; and back -/
def rowsF (m : Nat) (q : Sq) : Sq := fun y x => if y < m then stp m (q y) x else q y x
def colsF (m : Nat) (q : Sq) : Sq := fun y x => if x < m then stp m (fun y' => q y' x) y else q y x
def rowsB (m : Nat) (q : Sq) : Sq := fun y x => if y < m then bck m (q y) x else q y x
def colsB (m : Nat) (q : Sq) : Sq := fun y x => if x < m then bck m (fun y' => q y' x) y else q y x
def lvlF (m : Nat) (q : Sq) : Sq := colsF m (rowsF m q)
def lvlB (m : Nat) (q : Sq) : Sq := rowsB m (colsB m q)
theorem rows_bf {m : Nat} (hm : 2 * (m / 2) = m) (q : Sq) : rowsB m (rowsF m q) = q := by
  funext y x
  unfold rowsB
  by_cases h : y < m
  · rw [if_pos h]
    have e : rowsF m q y = stp m (q y) := funext fun x => by unfold rowsF; rw [if_pos h]
    rw [e, bck_stp hm]
  · rw [if_neg h]
    unfold rowsF
    rw [if_neg h]
theorem rows_fb {m : Nat} (hm : 2 * (m / 2) = m) (q : Sq) : rowsF m (rowsB m q) = q := by
  funext y x
  unfold rowsF
  by_cases h : y < m
  · rw [if_pos h]
    have e : rowsB m q y = bck m (q y) := funext fun x => by unfold rowsB; rw [if_pos h]
    rw [e, stp_bck hm]
  · rw [if_neg h]
    unfold rowsB
    rw [if_neg h]
theorem cols_bf {m : Nat} (hm : 2 * (m / 2) = m) (q : Sq) : colsB m (colsF m q) = q := by
  funext y x
  unfold colsB
  by_cases h : x < m
  · rw [if_pos h]
    have e : (fun y' => colsF m q y' x) = stp m (fun y' => q y' x) := funext fun y => by unfold colsF; rw [if_pos h]
    rw [e, bck_stp hm]
  · rw [if_neg h]
    unfold colsF
    rw [if_neg h]
theorem cols_fb {m : Nat} (hm : 2 * (m / 2) = m) (q : Sq) : colsF m (colsB m q) = q := by
  funext y x
  unfold colsF
  by_cases h : x < m
  · rw [if_pos h]
    have e : (fun y' => colsB m q y' x) = bck m (fun y' => q y' x) := funext fun y => by unfold colsB; rw [if_pos h]
    rw [e, stp_bck hm]
  · rw [if_neg h]
    unfold colsB
    rw [if_neg h]
theorem lvl_bf {m : Nat} (hm : 2 * (m / 2) = m) (q : Sq) : lvlB m (lvlF m q) = q := by unfold lvlB lvlF; rw [cols_bf hm, rows_bf hm]
theorem lvl_fb {m : Nat} (hm : 2 * (m / 2) = m) (q : Sq) : lvlF m (lvlB m q) = q := by unfold lvlB lvlF; rw [rows_fb hm, cols_fb hm]
/-- n a power of two: 2 ^ k -/
def fwd : Nat → Sq → Sq
  | 0, q => q
  | k + 1, q => fwd k (lvlF (2 ^ (k + 1)) q)
def bwd : Nat → Sq → Sq
  | 0, q => q
  | k + 1, q => lvlB (2 ^ (k + 1)) (bwd k q)
theorem two_pow_half (k : Nat) : 2 * (2 ^ (k + 1) / 2) = 2 ^ (k + 1) := by
  rw [Nat.pow_succ]
  omega
theorem bwd_fwd : ∀ (k : Nat) (q : Sq), bwd k (fwd k q) = q
  | 0, q => rfl
  | k + 1, q => by
    unfold fwd bwd
    rw [bwd_fwd k, lvl_bf (two_pow_half k)]
theorem fwd_bwd : ∀ (k : Nat) (q : Sq), fwd k (bwd k q) = q
  | 0, q => rfl
  | k + 1, q => by
    unfold fwd bwd
    rw [lvl_fb (two_pow_half k), fwd_bwd k]
/-! on squares of n: what stands beyond n doesn't matter -/
def EqN (n : Nat) (p q : Sq) : Prop := ∀ y x, y < n → x < n → p y x = q y x
theorem EqN.refl (n : Nat) (p : Sq) : EqN n p p := fun _ _ _ _ => rfl
theorem lvlF_congr {n m : Nat} {p q : Sq} (hm : 2 * (m / 2) = m) (hn : m ≤ n) (h : EqN n p q) : EqN n (lvlF m p) (lvlF m q) := by
  have h1 : EqN n (rowsF m p) (rowsF m q) := fun y x hy hx => by
    unfold rowsF
    split
    · exact stp_congr hm (fun k hk => h y k hy (by omega)) (h y x hy hx)
    · exact h y x hy hx
  intro y x hy hx
  unfold lvlF colsF
  split
  · exact stp_congr hm (fun k hk => h1 k x (by omega) hx) (h1 y x hy hx)
  · exact h1 y x hy hx
theorem lvlB_congr {n m : Nat} {p q : Sq} (hm : 2 * (m / 2) = m) (hn : m ≤ n) (h : EqN n p q) : EqN n (lvlB m p) (lvlB m q) := by
  have h1 : EqN n (colsB m p) (colsB m q) := fun y x hy hx => by
    unfold colsB
    split
    · exact bck_congr hm (fun k hk => h k x (by omega) hx) (h y x hy hx)
    · exact h y x hy hx
  intro y x hy hx
  unfold lvlB rowsB
  split
  · exact bck_congr hm (fun k hk => h1 y k hy (by omega)) (h1 y x hy hx)
  · exact h1 y x hy hx
theorem pow_le' {k n : Nat} (h : 2 ^ (k + 1) ≤ n) : 2 ^ k ≤ n := by
  have e : 2 ^ (k + 1) = 2 ^ k * 2 := Nat.pow_succ 2 k
  omega
theorem fwd_congr {n : Nat} : ∀ {k : Nat} {p q : Sq}, 2 ^ k ≤ n → EqN n p q → EqN n (fwd k p) (fwd k q)
  | 0, _, _, _, h => h
  | k + 1, _, _, hn, h => fwd_congr (k := k) (pow_le' hn) (lvlF_congr (two_pow_half k) hn h)
theorem bwd_congr {n : Nat} : ∀ {k : Nat} {p q : Sq}, 2 ^ k ≤ n → EqN n p q → EqN n (bwd k p) (bwd k q)
  | 0, _, _, _, h => h
  | k + 1, _, _, hn, h => lvlB_congr (two_pow_half k) hn (bwd_congr (k := k) (pow_le' hn) h)
end Qp

/-! U3: squares as own lists of lists. -/
namespace Qp
open PySem PySem.Spec PyProof.Rows L2
def oR (n : Nat) (q : Sq) : List (List D) := (List.range n).map fun y => iL (fL n (q y))
theorem oR_len (n : Nat) (q : Sq) : (oR n q).length = n := by unfold oR; rw [List.length_map, List.length_range]
theorem oR_congr {n : Nat} {p q : Sq} (h : ∀ y x, y < n → x < n → p y x = q y x) : oR n p = oR n q := List.map_congr_left fun y hy => by rw [fL_congr fun x hx => h y x (List.mem_range.mp hy) hx]
theorem oR_at {n : Nat} {q : Sq} {y : Nat} (h : y < n) : (oR n q)[y]? = some (iL (fL n (q y))) := by
  unfold oR
  rw [List.getElem?_map, List.getElem?_range h]
  rfl
theorem range_set {α : Type} (f : Nat → α) (n k : Nat) (v : α) : ((List.range n).map f).set k v = (List.range n).map fun i => if i = k then v else f i := by
  refine List.ext_getElem (by simp) fun i h1 h2 => ?_
  rw [List.getElem_set]
  simp only [List.getElem_map, List.getElem_range]
  by_cases e : k = i
  · rw [if_pos e, if_pos e.symm]
  · rw [if_neg e, if_neg (Ne.symm e)]
theorem iL_fL_set (n : Nat) (f : Nat → Int) (k : Nat) (v : Int) : (iL (fL n f)).set k (.int v) = iL (fL n fun i => if i = k then v else f i) := by
  rw [iL_set]
  unfold fL
  rw [range_set]
theorem oR_set (n : Nat) (q : Sq) (y : Nat) (g : Nat → Int) : (oR n q).set y (iL (fL n g)) = oR n fun y' x' => if y' = y then g x' else q y' x' := by
  unfold oR
  rw [range_set]
  refine List.map_congr_left fun i hi => ?_
  by_cases e : i = y
  · simp only [if_pos e]
  · simp only [if_neg e]
theorem oR_cell (n : Nat) (q : Sq) (y x : Nat) (v : Int) : (oR n q).set y ((iL (fL n (q y))).set x (.int v)) = oR n fun y' x' => if y' = y ∧ x' = x then v else q y' x' := by
  rw [iL_fL_set, oR_set]
  refine oR_congr fun a b _ _ => ?_
  by_cases e : a = y
  · subst e
    rw [if_pos rfl]
    by_cases e2 : b = x
    · rw [if_pos e2, if_pos ⟨rfl, e2⟩]
    · rw [if_neg e2, if_neg fun z => e2 z.2]
  · rw [if_neg e, if_neg fun z => e z.1]
theorem fL_take {n m : Nat} (h : m ≤ n) (f : Nat → Int) : (fL n f).take m = fL m f := by
  unfold fL
  rw [← List.map_take, List.take_range, Nat.min_eq_left h]
theorem fL_put {n m : Nat} (h : m ≤ n) {f g : Nat → Int} (hg : ∀ x, m ≤ x → g x = f x) : fL m g ++ (fL n f).drop m = fL n g := by
  have l1 := fL_len n f
  have l2 := fL_len m g
  have e : (fL n f).drop m = (fL n g).drop m := by
    refine ext_getD (by rw [List.length_drop, List.length_drop, fL_len, fL_len]) fun i hi => ?_
    rw [List.length_drop, l1] at hi
    have e1 : ∀ h : Nat → Int, ((fL n h).drop m).getD i 0 = h (m + i) := fun h => by
      rw [List.getD_eq_getElem?_getD, List.getElem?_drop, ← List.getD_eq_getElem?_getD, fL_getD (by omega)]
    rw [e1, e1, hg _ (by omega)]
  rw [e, ← fL_take h g, List.take_append_drop]
theorem outs_fL (m : Nat) (f : Nat → Int) : (List.range m).map (fun k => D.int (f k)) = iL (fL m f) := by
  unfold iL fL
  rw [List.map_map]
  rfl
theorem JN2.is {C : Cs} {ls : List Loc} {e : Expr} {dss dss' : List (List D)} (h : JN2 C ls e dss) (q : dss = dss') : JN2 C ls e dss' := q ▸ h
theorem tR_oR (n : Nat) (q : Sq) : D.tup ((oR n q).map D.tup) = tR (gR n q) := by
  unfold oR tR gR
  rw [List.map_map, List.map_map]
  rfl
theorem cut_lo {n m : Nat} (h : m ≤ n) (f : Nat → Int) : cutD (iL (fL n f)) none (some (m : Int)) = iL (fL m f) := by
  rw [cutD_iL, cutL_hi (by rw [fL_len]; exact h), fL_take h]
theorem cut_hi {n m : Nat} (h : m ≤ n) (f : Nat → Int) : cutD (iL (fL n f)) (some (m : Int)) none = iL ((fL n f).drop m) := by
  rw [cutD_iL, cutL_lo (by rw [fL_len]; exact h)]
theorem atI_gR {n : Nat} {q : Sq} {y : Nat} (h : y < n) : atI ((gR n q).map fun r => D.tup (iL r)) (y : Int) = some (.tup (iL (fL n (q y)))) := by
  have e := atI_map (xs := gR n q) (fun r => D.tup (iL r)) [] (i := (y : Int)) (by omega) (by rw [gR_len]; omega)
  rw [e, Int.toNat_natCast, gR_getD h]
theorem atI_fL {n : Nat} {f : Nat → Int} {x : Nat} (h : x < n) : atI (iL (fL n f)) (x : Int) = some (.int (f x)) := by
  rw [atI_iL (by rw [fL_len]; exact h), fL_getD h]
theorem gR_mem {n : Nat} {q : Sq} {i : Nat} {d : D} (h : ((gR n q).map fun r => D.tup (iL r))[i]? = some d) : i < n ∧ d = .tup (iL (fL n (q i))) := by
  have hi := (List.getElem?_eq_some_iff.mp h).1
  rw [List.length_map, gR_len] at hi
  refine ⟨hi, ?_⟩
  rw [List.getElem?_map] at h
  unfold gR at h
  rw [List.getElem?_map, List.getElem?_range hi] at h
  exact (Option.some.inj h).symm
theorem fL_mem {n : Nat} {f : Nat → Int} {i : Nat} {d : D} (h : (iL (fL n f))[i]? = some d) : i < n ∧ d = .int (f i) := by
  have hi := (List.getElem?_eq_some_iff.mp h).1
  rw [iL_len, fL_len] at hi
  refine ⟨hi, ?_⟩
  unfold iL fL at h
  rw [List.getElem?_map, List.getElem?_map, List.getElem?_range hi] at h
  exact (Option.some.inj h).symm
end Qp

/-! U6: squares turned, their rows changed, as the program's text does it. -/
namespace Qp
open PySem PySem.Spec PyProof.Rows L2
theorem tR_iL (rows : List (List Int)) : tR rows = .tup ((rows.map iL).map D.tup) := by
  unfold tR
  rw [List.map_map]
  rfl
def turnQ (q : Sq) : Sq := fun y x => q x y
theorem turn_gR (n : Nat) (q : Sq) : D.tup ((colsD n ((gR n q).map iL)).map D.tup) = tR (gR n (turnQ q)) := by
  rw [tR_iL]
  congr 2
  unfold colsD
  rw [show (gR n (turnQ q)).map iL = (List.range n).map fun y => iL (fL n (turnQ q y)) by unfold gR; rw [List.map_map]; rfl]
  refine List.map_congr_left fun k hk => ?_
  have hk' := List.mem_range.mp hk
  rw [List.map_map]
  unfold gR iL
  rw [List.map_map]
  show _ = (fL n (turnQ q k)).map D.int
  unfold fL
  rw [List.map_map]
  refine List.map_congr_left fun y hy => ?_
  show (((List.range n).map (q y)).map D.int).getD k .non = D.int (q y k)
  rw [List.map_map, List.getD_eq_getElem?_getD, List.getElem?_map, List.getElem?_range hk']
  rfl
def rTurn : List D → D → Prop := fun ds d => ∃ (n : Nat) (q : Sq), ds = [tR (gR n q)] ∧ (n = 2 ∨ n = 4 ∨ n = 8) ∧ d = tR (gR n (turnQ q))
def rowsBy (G : Nat → (Nat → Int) → Nat → Int) (m : Nat) (q : Sq) : Sq := fun y x => if y < m then G m (q y) x else q y x
def rRowsBy (G : Nat → (Nat → Int) → Nat → Int) (fa : Addr) : List D → D → Prop := fun ds d => ∃ (n m : Nat) (q : Sq), ds = [tR (gR n q), .int m, .ref fa] ∧ (m = 2 ∨ m = 4 ∨ m = 8) ∧ m ≤ n ∧ n ≤ 8 ∧ d = tR (gR n (rowsBy G m q))
def rColsBy (G : Nat → (Nat → Int) → Nat → Int) (fa : Addr) : List D → D → Prop := fun ds d => ∃ (n m : Nat) (q : Sq), ds = [tR (gR n q), .int m, .ref fa] ∧ (m = 2 ∨ m = 4 ∨ m = 8) ∧ m ≤ n ∧ (n = 2 ∨ n = 4 ∨ n = 8) ∧ d = tR (gR n (turnQ (rowsBy G m (turnQ q))))
theorem rows_gR {n m : Nat} {q : Sq} {G : Nat → (Nat → Int) → Nat → Int} (h : m ≤ n) : D.tup (((List.range m).map fun i => D.tup (iL (fL n (G m (q i))))) ++ ((gR n q).drop m).map fun z => D.tup (iL z)) = tR (gR n (rowsBy G m q)) := by
  unfold tR
  congr 1
  apply List.ext_getElem?
  intro i
  by_cases hi : i < m
  · rw [List.getElem?_append_left (by rw [List.length_map, List.length_range]; exact hi), List.getElem?_map, List.getElem?_range hi, List.getElem?_map]
    unfold gR
    rw [List.getElem?_map, List.getElem?_range (by omega)]
    show some (D.tup (iL (fL n (G m (q i))))) = some (D.tup (iL (fL n (rowsBy G m q i))))
    rw [fL_congr (f := G m (q i)) (g := rowsBy G m q i) fun x hx => by unfold rowsBy; rw [if_pos hi]]
  · rw [List.getElem?_append_right (by rw [List.length_map, List.length_range]; omega), List.length_map, List.length_range, List.getElem?_map, List.getElem?_drop, List.getElem?_map, show m + (i - m) = i by omega]
    by_cases hn : i < n
    · unfold gR
      rw [List.getElem?_map, List.getElem?_map, List.getElem?_range hn]
      show some (D.tup (iL (fL n (q i)))) = some (D.tup (iL (fL n (rowsBy G m q i))))
      rw [fL_congr (f := q i) (g := rowsBy G m q i) fun x hx => by unfold rowsBy; rw [if_neg hi]]
    · rw [List.getElem?_eq_none (by rw [gR_len]; omega), List.getElem?_eq_none (by rw [gR_len]; omega)]
theorem two_pow_pos (i : Nat) : 0 < 2 ^ i := Nat.pow_pos (by decide)
end Qp

set_option maxHeartbeats 4000000
namespace T5
open PySem PySem.Spec PyProof.Rows L2 Qp
def top (i : Nat) : Stmt := PySem.Challenge.pw_picturetide_k05_whole_transforms_inverte.main.body.getD i (.Pass ⟨0, 0, 0, 0⟩)
abbrev sPStep : Stmt := top 2
abbrev sPBack : Stmt := top 3
abbrev sPTurned : Stmt := top 4
abbrev sPRows : Stmt := top 5
abbrev sPCols : Stmt := top 6
abbrev sPForward : Stmt := top 7
abbrev sPBackward : Stmt := top 8
abbrev sCell : Stmt := top 12
abbrev sDraws : Stmt := top 13
abbrev sInts : Stmt := top 14
abbrev sIsSq : Stmt := top 15
abbrev sSame : Stmt := top 16
abbrev sSquare : Stmt := top 17
abbrev sStepped : Stmt := top 18
abbrev sForward : Stmt := top 19
abbrev sAsked : Stmt := top 20
abbrev sLaw : Stmt := top 21
theorem scCell : FnScope ["script", "k"] ["script", "k"] (defScope sCell) := ⟨rfl, rfl, rfl, by decide +kernel, rfl, by decide +kernel, by decide +kernel⟩
theorem scDraws : FnScope ["cell", "many", "most", "left", "row", "k", "first", "second", "third"] ["cell", "many", "most"] (defScope sDraws) := ⟨rfl, rfl, rfl, by decide +kernel, rfl, by decide +kernel, by decide +kernel⟩
theorem scInts : FnScope ["cell", "many", "mode", "made", "draw", "value", "kind"] ["cell", "many", "mode"] (defScope sInts) := ⟨rfl, rfl, rfl, by decide +kernel, rfl, by decide +kernel, by decide +kernel⟩
theorem scIsSq : FnScope ["told", "n", "row", "value"] ["told", "n"] (defScope sIsSq) := ⟨rfl, rfl, rfl, by decide +kernel, rfl, by decide +kernel, by decide +kernel⟩
theorem scSame : FnScope ["told", "due", "y", "x"] ["told", "due"] (defScope sSame) := ⟨rfl, rfl, rfl, by decide +kernel, rfl, by decide +kernel, by decide +kernel⟩
theorem scSquare : FnScope ["cell", "n", "mode", "values", "y"] ["cell", "n", "mode"] (defScope sSquare) := ⟨rfl, rfl, rfl, by decide +kernel, rfl, by decide +kernel, by decide +kernel⟩
theorem scStepped : FnScope ["row", "sums", "differences", "k", "difference"] ["row"] (defScope sStepped) := ⟨rfl, rfl, rfl, by decide +kernel, rfl, by decide +kernel, by decide +kernel⟩
theorem scForward : FnScope ["one", "rows", "m", "turn", "y", "x", "column", "row"] ["one"] (defScope sForward) := ⟨rfl, rfl, rfl, by decide +kernel, rfl, by decide +kernel, by decide +kernel⟩
theorem scAsked : FnScope ["script", "head", "n", "one", "other", "due", "back"] ["script"] (defScope sAsked) := ⟨rfl, rfl, rfl, by decide +kernel, rfl, by decide +kernel, by decide +kernel⟩
theorem scLaw : FnScope ["script"] ["script"] (defScope sLaw) := ⟨rfl, rfl, rfl, by decide +kernel, rfl, by decide +kernel, by decide +kernel⟩
def rInts : Rel := fun ds Po => ∃ (cell : Int) (many : Nat) (mode : Int), ds = [.int cell, .int many, .int mode] ∧ many < 1000 ∧ Po = fun d => ∃ vs : List Int, d = .lst (iL vs) ∧ vs.length = many
def rIsSq : List D → D → Prop := fun ds d => ∃ (n : Nat) (q : Sq), ds = [tR (gR n q), .int n] ∧ n ≤ 8 ∧ d = .bl true
def rSame : List D → D → Prop := fun ds d => ∃ (n : Nat) (p q : Sq), ds = [tR (gR n p), tR (gR n q)] ∧ EqN n p q ∧ n ≤ 8 ∧ d = .bl true
def rSquare : Rel := fun ds Po => ∃ (cell : Int) (n : Nat) (mode : Int), ds = [.int cell, .int n, .int mode] ∧ n ≤ 8 ∧ Po = fun d => ∃ q : Sq, d = tR (gR n q)
def rStepped : List D → D → Prop := fun ds d => ∃ xs : List Int, ds = [.lst (iL xs)] ∧ xs.length < 1000 ∧ d = .lst (iL (mStep xs))
def rPStep : List D → D → Prop := fun ds d => ∃ (xs : List Int) (m : Nat) (s : D), ds = [s] ∧ IsSeq s (iL xs) ∧ xs.length = 2 * m ∧ m < 100 ∧ d = .tup (iL (mStep xs))
def rPBack : List D → D → Prop := fun ds d => ∃ (xs : List Int) (m : Nat) (s : D), ds = [s] ∧ IsSeq s (iL xs) ∧ xs.length = 2 * m ∧ m < 100 ∧ d = .tup (iL (mBack xs))
def rFwd : List D → D → Prop := fun ds d => ∃ (k : Nat) (q : Sq), ds = [tR (gR (2 ^ k) q)] ∧ k ≤ 3 ∧ 1 ≤ k ∧ d = tR (gR (2 ^ k) (fwd k q))
def rBwd : List D → D → Prop := fun ds d => ∃ (k : Nat) (q : Sq), ds = [tR (gR (2 ^ k) q)] ∧ k ≤ 3 ∧ 1 ≤ k ∧ d = tR (gR (2 ^ k) (bwd k q))
section
variable {P : Program} {w : World} {K : Fg} {mg : Str → Option Value} {base : Heap}
theorem ok_cell {f : Addr} {fd : FuncData} {k : Nat} (F : Fun K "_law_cell" "_law_cell" sCell f fd) (mabs : mg "abs" = none) (mlen : mg "len" = none) (mint : mg "int" = none) : FnOk P w K mg base CX0 (k + 1) f fd ["script", "k"] (spD K (det rCell)) := by
  refine fn_okd F scCell (fun ds d h => ?_) (fun cdv A outer s H E hr ds d h => ?_)
  · obtain ⟨_, _, rfl, _⟩ := h
    rfl
  · obtain ⟨ns, i, rfl, rfl⟩ := h
    refine jb_ifx (jt_lt (je_v 1) (je_lenScr (je_v 0) mlen)) (fun hk => jb_ret (je_abs (je_intI (je_ixScr (n := ns.getD i 0) (je_v 0) (je_v 1) ?_) mint) mabs) rfl) fun hk => jb_ret je_int ?_
    · have h := of_decide_eq_true hk
      have h2 : i < ns.length := by omega
      rw [List.getD_eq_getElem?_getD, List.getElem?_eq_getElem h2]
      exact atI_nat (List.getElem?_eq_getElem h2)
    · have h := of_decide_eq_false hk
      have h2 : ¬ i < ns.length := by omega
      show D.int 0 = D.int (mCell ns i)
      unfold mCell
      rw [List.getD_eq_getElem?_getD, List.getElem?_eq_none (by omega)]
      rfl
theorem ok_draws {f : Addr} {fd : FuncData} {k : Nat} (F : Fun K "_law_draws" "_law_draws" sDraws f fd) (mrange : mg "range" = none) (mint : mg "int" = none) : FnOk P w K mg base CX0 (k + 1) f fd ["cell", "many", "most"] (spD K (det rDraws)) := by
  refine fn_okd F scDraws (fun ds d h => ?_) (fun cdv A outer s H E hr ds d h => ?_)
  · obtain ⟨_, _, _, rfl, _⟩ := h
    rfl
  · obtain ⟨cell, many, most, rfl, hm, h0, h1, rfl⟩ := h
    refine jb_set 3 je_int ?_
    refine jb_if (fun l => l = [.val (.int cell), .val (.int many), .val (.int most), .val (.int (if 1000000000000000000 ≤ cell then cell else 0)), .any, .any, .any, .any, .any]) (jt_ge (je_v 0) (je_powL 1000000000000000000 je_int je_int)) (fun hk => jb_one (js_set 3 (je_v 0) ?_)) (fun hk => jb_nil ?_) ?_
    · show [Loc.val (.int cell), .val (.int many), .val (.int most), .val (.int cell), .any, .any, .any, .any, .any] = _
      rw [if_pos (of_decide_eq_true hk)]
    · show [Loc.val (.int cell), .val (.int many), .val (.int most), .val (.int 0), .any, .any, .any, .any, .any] = _
      rw [if_neg (of_decide_eq_false hk)]
    rintro _ rfl
    refine jb_setN 4 (jn_lst ja_nil) ?_
    refine jb_cons _ (js_forR 5 (fun i l => ∃ left pre, l = [.val (.int cell), .val (.int many), .val (.int most), .val (.int left), .own (iL pre), .any, .any, .any, .any] ∧ draws cell many most = pre ++ drawsFrom cell most (many - i) i left ∧ pre.length = i) (je_v 1) (by omega) ⟨_, [], rfl, rfl, rfl⟩ ?_ fun l h => h) ?_
    · rintro i _ hi ⟨left, pre, rfl, hd, hle⟩
      have hi' : i < many := by omega
      have hn : many - i = (many - (i + 1)) + 1 := by omega
      have hz : (iL pre).length < 1000000 := by rw [iL_len]; omega
      rw [hn] at hd
      unfold drawsFrom at hd
      refine jb_one (js_if (jt_ge (je_v 3) (je_v 2)) (fun hk => ?_) (fun hk => ?_))
      · rw [if_pos (of_decide_eq_true hk)] at hd
        refine jb_app 4 (je_mod (je_intI (je_v 3) mint) (je_v 2)) rfl ?_ hz
        refine jb_set 3 (je_fdiv (je_v 3) (je_v 2) ⟨h0, h1⟩) (jb_end [5] ⟨_, _, by rw [iL_app]; rfl, by rw [hd, List.append_cons], by rw [List.length_append, hle]; rfl⟩)
      · rw [if_neg (of_decide_eq_false hk)] at hd
        refine jb_set 6 (je_mod (je_intI (je_add (je_mul (je_v 0) je_int) (je_mul (je_add (je_v 5) je_int) je_int)) mint) je_int) ?_
        refine jb_set 7 (je_mod (je_intI (je_add (je_mul (je_v 6) (je_v 6)) (je_mul (je_add (je_v 5) je_int) je_int)) mint) je_int) ?_
        refine jb_set 8 (je_mod (je_intI (je_add (je_mul (je_v 7) (je_v 7)) (je_v 6)) mint) je_int) ?_
        refine jb_app 4 (je_mod (je_v 8) (je_v 2)) rfl ?_ hz
        exact jb_end [5, 6, 7, 8] ⟨_, _, by rw [iL_app]; rfl, by rw [hd, List.append_cons]; rfl, by rw [List.length_append, hle]; rfl⟩
    · rintro _ ⟨left, pre, rfl, hd, hle⟩
      refine jb_thaw 4 rfl (jb_ret (je_v 4) ?_)
      show D.lst _ = D.lst _
      rw [show many - ((many : Int)).toNat = 0 by omega] at hd
      rw [show drawsFrom cell most 0 _ left = [] from rfl, List.append_nil] at hd
      rw [← hd]
theorem ok_ints {f : Addr} {fd : FuncData} (F : Fun K "_law_integers" "_law_integers" sInts f fd) (mint : mg "int" = none) (GD : Fn P w K mg base 1 "_law_draws" (det rDraws)) : FnOk P w K mg base CX0 2 f fd ["cell", "many", "mode"] (spD K rInts) := by
  refine fn_ok F scInts (fun ds d h => ?_) (fun cdv A outer s H E hr ds Po h => ?_)
  · obtain ⟨_, _, _, rfl, _⟩ := h
    rfl
  · obtain ⟨cell, many, mode, rfl, hm, rfl⟩ := h
    refine jb_setN 3 (jn_lst ja_nil) ?_
    refine jb_cons _ (js_forL 4 (fun i l => ∃ pre, l = [.val (.int cell), .val (.int many), .val (.int mode), .own (iL pre), .any, .any, .any] ∧ pre.length = i) (je_call GD (ja_cons (je_v 0) (ja_cons (je_v 1) (ja_cons (je_add (je_mul je_int (je_powL 1000000000 je_int je_int)) je_int) ja_nil))) ⟨_, many, _, rfl, by omega, by decide, by decide, rfl⟩) ⟨[], rfl, rfl⟩ ?_ fun l h => h) ?_
    · rintro i d _ hd ⟨pre, rfl, hle⟩
      rw [iL_get] at hd
      obtain ⟨v, hv, rfl⟩ := Option.map_eq_some_iff.mp hd
      have hi : i < many := by
        have := (List.getElem?_eq_some_iff.mp hv).1
        rw [draws_len] at this
        exact this
      have hvb : 0 ≤ v ∧ v < 2 * 1000000000 + 1 := drawsFrom_mem (by decide) _ _ _ v (List.mem_of_getElem? hv)
      have hz : (iL pre).length < 1000000 := by rw [iL_len]; omega
      refine jb_set 5 (je_sub (je_v 4) (je_powL 1000000000 je_int je_int)) ?_
      refine jb_set 6 (je_v 2) ?_
      refine jb_if (fun l => ∃ kind : Int, l = [.val (.int cell), .val (.int many), .val (.int mode), .own (iL pre), .val (.int v), .val (.int (v - 1000000000)), .val (.int kind)]) (jt_eq (je_v 2) je_int) (fun hk => jb_set 6 (je_mod (je_intI (je_v 4) mint) je_int) (jb_nil ⟨_, rfl⟩)) (fun hk => jb_nil ⟨_, rfl⟩) ?_
      rintro _ ⟨kind, rfl⟩
      refine jb_if (fun l => ∃ x : Int, x.natAbs < 2 ^ 40 ∧ l = [.val (.int cell), .val (.int many), .val (.int mode), .own (iL pre), .val (.int v), .val (.int x), .val (.int kind)]) (jt_eq (je_v 6) je_int) (fun hk => jb_set 5 (je_sub (je_mod (je_intI (je_v 5) mint) je_int) je_int) (jb_nil ⟨_, ?_, rfl⟩)) (fun hk => jb_nil ⟨_, ?_, rfl⟩) ?_
      · omega
      · omega
      rintro _ ⟨x, hx, rfl⟩
      refine jb_if (fun l => ∃ x : Int, l = [.val (.int cell), .val (.int many), .val (.int mode), .own (iL pre), .val (.int v), .val (.int x), .val (.int kind)]) (jt_eq (je_v 6) je_int) (fun hk => ?_) (fun hk => jb_nil ⟨_, rfl⟩) ?_
      · have hj : 0 ≤ v / 3 % 4 ∧ v / 3 % 4 < 4 := by omega
        have ix := atI_int (xs := [1000, 1000000, 10000000000, 100000000000000000000]) hj.1 (by show v / 3 % 4 < 4; exact hj.2)
        have hm : ([1000, 1000000, 10000000000, 100000000000000000000] : List Int).getD (v / 3 % 4).toNat 0 < 2 ^ 80 ∧ 0 ≤ ([1000, 1000000, 10000000000, 100000000000000000000] : List Int).getD (v / 3 % 4).toNat 0 := all_cons (p := fun y => y < 2 ^ 80 ∧ 0 ≤ y) (by decide) (all_cons (by decide) (all_cons (by decide) (all_cons (by decide) all_nil))) _ (getD_mem 0 (by show (v / 3 % 4).toNat < 4; omega))
        refine jb_set 5 (je_add (je_mul (je_v 5) (je_ixL (JC.new (jn_lst (ja_cons (je_powL 1000 je_int je_int) (ja_cons (je_powL 1000000 je_int je_int) (ja_cons (je_powL 10000000000 je_int je_int) (ja_cons (je_powL 100000000000000000000 je_int je_int) ja_nil)))))) (je_mod (je_intI (je_fdiv (je_v 4) je_int) mint) je_int) ix) (mulW (b := 80) hx (by omega) (by decide) (by decide) (by decide))) (je_mod (je_intI (je_v 4) mint) je_int)) (jb_nil ⟨_, rfl⟩)
      rintro _ ⟨x, rfl⟩
      refine jb_app 3 (je_v 5) rfl ?_ hz
      exact jb_end [4, 5, 6] ⟨pre ++ [x], by rw [← iL_app]; rfl, by rw [List.length_append, hle]; rfl⟩
    · rintro _ ⟨pre, rfl, hle⟩
      rw [iL_len, draws_len] at hle
      exact jb_thaw 3 rfl (jb_ret (je_v 3) ⟨pre, rfl, hle⟩)
theorem ok_stepped {f : Addr} {fd : FuncData} (F : Fun K "_law_stepped" "_law_stepped" sStepped f fd) (mlen : mg "len" = none) (mrange : mg "range" = none) : FnOk P w K mg base CX0 1 f fd ["row"] (spD K (det rStepped)) := by
  refine fn_okd F scStepped (fun ds d h => ?_) (fun cdv A outer s H E hr ds d h => ?_)
  · obtain ⟨_, rfl, _⟩ := h
    rfl
  · obtain ⟨xs, rfl, hn, rfl⟩ := h
    refine jb_setN 1 (jn_lst ja_nil) ?_
    refine jb_setN 2 (jn_lst ja_nil) ?_
    refine jb_cons _ (js_forR 3 (fun i l => l = [.val (.lst (iL xs)), .own (iL ((List.range i).map (sF xs))), .own (iL ((List.range i).map (dF xs))), .any, .any]) (je_fdiv (je_lenL (JC.je (je_v 0)) mlen) je_int) (by rw [iL_len]; omega) rfl ?_ fun l h => h) ?_
    · rintro i _ hi rfl
      rw [iL_len] at hi
      have ix0 : atI (iL xs) (2 * (i : Int)) = some (.int (xs.getD (2 * i) 0)) := by rw [show 2 * (i : Int) = ((2 * i : Nat) : Int) by omega]; exact atI_iL (by omega)
      have ix1 : atI (iL xs) (2 * (i : Int) + 1) = some (.int (xs.getD (2 * i + 1) 0)) := by rw [show 2 * (i : Int) + 1 = ((2 * i + 1 : Nat) : Int) by omega]; exact atI_iL (by omega)
      have z1 : (iL ((List.range i).map (sF xs))).length < 1000000 := by rw [iL_len, List.length_map, List.length_range]; omega
      have z2 : (iL ((List.range i).map (dF xs))).length < 1000000 := by rw [iL_len, List.length_map, List.length_range]; omega
      refine jb_set 4 (je_sub (je_ixL (JC.je (je_v 0)) (je_mul je_int (je_v 3)) ix0) (je_ixL (JC.je (je_v 0)) (je_add (je_mul je_int (je_v 3)) je_int) ix1)) ?_
      refine jb_app 1 (je_add (je_ixL (JC.je (je_v 0)) (je_add (je_mul je_int (je_v 3)) je_int) ix1) (je_fdiv (je_v 4) je_int)) rfl ?_ z1
      refine jb_app 2 (je_v 4) rfl ?_ z2
      refine jb_end [3, 4] ?_
      rw [← range_app, ← range_app, ← iL_app, ← iL_app]
      rfl
    · rintro _ rfl
      refine jb_ret (JE.new (jn_cat (jc_v 1) (jc_v 2) (by simp only [iL_len, List.length_map, List.length_range]; omega))) ?_
      show D.lst _ = _
      rw [iL_cat, iL_len, show ((xs.length : Int) / 2).toNat = xs.length / 2 by omega]
      rfl
theorem scPStep : FnScope ["row", "middles", "differences", "at", "difference"] ["row"] (defScope sPStep) := ⟨rfl, rfl, rfl, by decide +kernel, rfl, by decide +kernel, by decide +kernel⟩
theorem ok_pstep {f : Addr} {fd : FuncData} {k : Nat} (F : Fun K "stepped" "stepped" sPStep f fd) (mlen : mg "len" = none) (mrange : mg "range" = none) (mtuple : mg "tuple" = none) : FnOk P w K mg base CX0 (k + 1) f fd ["row"] (spD K (det rPStep)) := by
  refine fn_okd F scPStep (fun ds d h => ?_) (fun cdv A outer s H E hr ds d h => ?_)
  · obtain ⟨_, _, _, rfl, _⟩ := h
    rfl
  · obtain ⟨xs, m, sq, rfl, hq, hx, hm, rfl⟩ := h
    refine jb_setN 1 (jn_lst ja_nil) ?_
    refine jb_setN 2 (jn_lst ja_nil) ?_
    refine jb_cons _ (js_forR3 (n := m) 3 (fun i l => l = [.val sq, .own (iL ((List.range i).map (sF xs))), .own (iL ((List.range i).map (dF xs))), .any, .any]) je_int (je_lenS (je_v 0) hq mlen) je_int ?_ rfl ?_ fun l h => h) ?_
    · have h := rgC_up (hi := ((iL xs).length : Int)) (c := 2) (by omega) (by rw [iL_len]; omega) (by decide) (by decide)
      rw [iL_len, hx, show ((((2 * m : Nat) : Int) + 2 - 1) / 2).toNat = m by omega] at h
      rw [iL_len, hx]
      exact h
    · rintro i _ hi rfl
      have ix0 : atI (iL xs) (0 + (i : Int) * 2) = some (.int (xs.getD (2 * i) 0)) := by rw [show 0 + (i : Int) * 2 = ((2 * i : Nat) : Int) by omega]; exact atI_iL (by omega)
      have ix1 : atI (iL xs) (0 + (i : Int) * 2 + 1) = some (.int (xs.getD (2 * i + 1) 0)) := by rw [show 0 + (i : Int) * 2 + 1 = ((2 * i + 1 : Nat) : Int) by omega]; exact atI_iL (by omega)
      have z1 : (iL ((List.range i).map (sF xs))).length < 1000000 := by rw [iL_len, List.length_map, List.length_range]; omega
      have z2 : (iL ((List.range i).map (dF xs))).length < 1000000 := by rw [iL_len, List.length_map, List.length_range]; omega
      refine jb_set 4 (je_sub (je_ixS (je_v 0) hq (je_v 3) ix0) (je_ixS (je_v 0) hq (je_add (je_v 3) je_int) ix1)) ?_
      refine jb_app 1 (je_add (je_ixS (je_v 0) hq (je_add (je_v 3) je_int) ix1) (je_fdiv (je_v 4) je_int)) rfl ?_ z1
      refine jb_app 2 (je_v 4) rfl ?_ z2
      refine jb_end [3, 4] ?_
      rw [← range_app, ← range_app, ← iL_app, ← iL_app]
      rfl
    · rintro _ rfl
      refine jb_ret (je_tupleL (JC.new (jn_cat (jc_v 1) (jc_v 2) (by simp only [iL_len, List.length_map, List.length_range]; omega))) mtuple) ?_
      show D.tup _ = _
      rw [iL_cat, show m = xs.length / 2 by omega]
      rfl

theorem scPBack : FnScope ["row", "half", "pairs", "middle", "difference", "second"] ["row"] (defScope sPBack) := ⟨rfl, rfl, rfl, by decide +kernel, rfl, by decide +kernel, by decide +kernel⟩
theorem ok_pback {f : Addr} {fd : FuncData} {k : Nat} (F : Fun K "stepped_back" "stepped_back" sPBack f fd) (mlen : mg "len" = none) (mzip : mg "zip" = none) (mtuple : mg "tuple" = none) : FnOk P w K mg base CX0 (k + 1) f fd ["row"] (spD K (det rPBack)) := by
  refine fn_okd F scPBack (fun ds d h => ?_) (fun cdv A outer s H E hr ds d h => ?_)
  · obtain ⟨_, _, _, rfl, _⟩ := h
    rfl
  · obtain ⟨xs, m, sq, rfl, hq, hx, hm, rfl⟩ := h
    have em : xs.length / 2 = m := by omega
    refine jb_set 1 ((je_fdiv (je_lenS (je_v 0) hq mlen) je_int).is (d' := .int (m : Int)) (by rw [iL_len]; congr 1; omega)) ?_
    refine jb_setN 2 (jn_lst ja_nil) ?_
    have c1 : cutD (iL xs) none (some (m : Int)) = iL (xs.take m) := by rw [cutD_iL, cutL_hi (by omega)]
    have c2 : cutD (iL xs) (some (m : Int)) none = iL (xs.drop m) := by rw [cutD_iL, cutL_lo (by omega)]
    have hl : (iL (xs.take m)).length = (iL (xs.drop m)).length := by rw [iL_len, iL_len, List.length_take, List.length_drop]; omega
    have hl2 : (iL (xs.take m)).length = m := by rw [iL_len, List.length_take]; omega
    have turn : ∀ (i : Nat) (d e : D), (iL (xs.take m))[i]? = some d → (iL (xs.drop m))[i]? = some e → i < m ∧ d = .int (xs.getD i 0) ∧ e = .int (xs.getD (m + i) 0) := fun i d e h1 h2 => by
      have hi : i < m := by
        have := (List.getElem?_eq_some_iff.mp h1).1
        rw [hl2] at this
        exact this
      rw [iL_get] at h1 h2
      rw [List.getElem?_take_of_lt hi, List.getElem?_eq_getElem (by omega)] at h1
      rw [List.getElem?_drop, List.getElem?_eq_getElem (by omega)] at h2
      refine ⟨hi, ?_, ?_⟩
      · rw [List.getD_eq_getElem?_getD, List.getElem?_eq_getElem (by omega)]
        exact (Option.some.inj h1).symm
      · rw [List.getD_eq_getElem?_getD, List.getElem?_eq_getElem (by omega)]
        exact (Option.some.inj h2).symm
    refine jb_cons (fun l => l = [.val sq, .val (.int (m : Int)), .own (iL (backTo xs m)), .any, .any, .any]) ?_ ?_
    · cases hq with
      | tup =>
        refine js_forZ 3 4 (fun i l => l = [.val (.tup (iL xs)), .val (.int (m : Int)), .own (iL (backTo xs i)), .any, .any, .any]) (ja_cons ((je_sliceA (je_v 0) jo_none (jo_some (je_v 1))).is (by rw [c1])) (ja_cons ((je_sliceA (je_v 0) (jo_some (je_v 1)) jo_none).is (by rw [c2])) ja_nil)) hl rfl (fun i d e l h1 h2 hP => ?_) (fun l h => by rw [hl2] at h; exact h) mzip
        obtain ⟨hi, rfl, rfl⟩ := turn i d e h1 h2
        subst hP
        have z1 : (iL (backTo xs i)).length < 1000000 := by rw [iL_len, backTo_len]; omega
        have z2 : (iL (backTo xs i) ++ [D.int (bF xs i + xs.getD (m + i) 0)]).length < 1000000 := by rw [List.length_append, iL_len, backTo_len, List.length_singleton]; omega
        have e5 : xs.getD i 0 - xs.getD (m + i) 0 / 2 = bF xs i := by unfold bF; rw [em]
        refine jb_set 5 ((je_sub (je_v 3) (je_fdiv (je_v 4) je_int)).is (by rw [e5])) ?_
        refine jb_app 2 (je_add (je_v 5) (je_v 4)) rfl ?_ z1
        refine jb_app 2 (je_v 5) rfl ?_ z2
        refine jb_end [3, 4, 5] ?_
        show _ = [Loc.val _, _, .own (iL (backTo xs (i + 1))), _, _, _]
        rw [show backTo xs (i + 1) = (backTo xs i ++ [bF xs i + xs.getD (xs.length / 2 + i) 0]) ++ [bF xs i] from rfl, em, ← iL_app, ← iL_app]
        rfl
      | lst =>
        refine js_forZL 3 4 (fun i l => l = [.val (.lst (iL xs)), .val (.int (m : Int)), .own (iL (backTo xs i)), .any, .any, .any]) (ja_cons ((JE.new (jn_slice (JC.je (je_v 0)) jo_none (jo_some (je_v 1)))).is (by rw [c1])) (ja_cons ((JE.new (jn_slice (JC.je (je_v 0)) (jo_some (je_v 1)) jo_none)).is (by rw [c2])) ja_nil)) hl rfl (fun i d e l h1 h2 hP => ?_) (fun l h => by rw [hl2] at h; exact h) mzip
        obtain ⟨hi, rfl, rfl⟩ := turn i d e h1 h2
        subst hP
        have z1 : (iL (backTo xs i)).length < 1000000 := by rw [iL_len, backTo_len]; omega
        have z2 : (iL (backTo xs i) ++ [D.int (bF xs i + xs.getD (m + i) 0)]).length < 1000000 := by rw [List.length_append, iL_len, backTo_len, List.length_singleton]; omega
        have e5 : xs.getD i 0 - xs.getD (m + i) 0 / 2 = bF xs i := by unfold bF; rw [em]
        refine jb_set 5 ((je_sub (je_v 3) (je_fdiv (je_v 4) je_int)).is (by rw [e5])) ?_
        refine jb_app 2 (je_add (je_v 5) (je_v 4)) rfl ?_ z1
        refine jb_app 2 (je_v 5) rfl ?_ z2
        refine jb_end [3, 4, 5] ?_
        show _ = [Loc.val _, _, .own (iL (backTo xs (i + 1))), _, _, _]
        rw [show backTo xs (i + 1) = (backTo xs i ++ [bF xs i + xs.getD (xs.length / 2 + i) 0]) ++ [bF xs i] from rfl, em, ← iL_app, ← iL_app]
        rfl
    · rintro _ rfl
      refine jb_ret (je_tupleL (jc_v 2) mtuple) ?_
      show D.tup _ = D.tup (iL (mBack xs))
      rw [show mBack xs = backTo xs m by unfold mBack; rw [em]]

theorem scPTurned : FnScope ["rows"] ["rows"] (defScope sPTurned) := ⟨rfl, rfl, rfl, by decide +kernel, rfl, by decide +kernel, by decide +kernel⟩
theorem scPRows : FnScope ["rows", "size", "change", "changed", "row"] ["rows", "size", "change"] (defScope sPRows) := ⟨rfl, rfl, rfl, by decide +kernel, rfl, by decide +kernel, by decide +kernel⟩
theorem scPCols : FnScope ["rows", "size", "change"] ["rows", "size", "change"] (defScope sPCols) := ⟨rfl, rfl, rfl, by decide +kernel, rfl, by decide +kernel, by decide +kernel⟩
theorem scPForward : FnScope ["square", "rows", "size"] ["square"] (defScope sPForward) := ⟨rfl, rfl, rfl, by decide +kernel, rfl, by decide +kernel, by decide +kernel⟩
theorem scPBackward : FnScope ["square", "rows", "size"] ["square"] (defScope sPBackward) := ⟨rfl, rfl, rfl, by decide +kernel, rfl, by decide +kernel, by decide +kernel⟩
theorem ok_pturned {f : Addr} {fd : FuncData} {k : Nat} (F : Fun K "turned" "turned" sPTurned f fd) (mzip : mg "zip" = none) (mtuple : mg "tuple" = none) : FnOk P w K mg base CX0 (k + 1) f fd ["rows"] (spD K (det rTurn)) := by
  refine fn_okd F scPTurned (fun ds d h => ?_) (fun cdv A outer s H E hr ds d h => ?_)
  · obtain ⟨_, _, rfl, _⟩ := h
    rfl
  · obtain ⟨n, q, rfl, hn, rfl⟩ := h
    exact jb_ret (je_zipT (rows := (gR n q).map iL) (m := n) ((je_v 0).is (tR_iL _)) (by rw [List.length_map, gR_len]; exact hn) (fun r hr => by
      obtain ⟨r0, h1, rfl⟩ := List.mem_map.mp hr
      obtain ⟨y, hy, rfl⟩ := List.mem_map.mp h1
      rw [iL_len, fL_len]) (by omega) (by omega)) (turn_gR n q)
theorem ok_prows {f fa : Addr} {fd : FuncData} {k : Nat} {r : List D → D → Prop} {G : Nat → (Nat → Int) → Nat → Int} (F : Fun K "with_rows_changed" "with_rows_changed" sPRows f fd) (mtuple : mg "tuple" = none) (GA : FnA P w K mg base k fa (det r))
    (hr : ∀ (m : Nat) (g : Nat → Int), (m = 2 ∨ m = 4 ∨ m = 8) → r [.tup (iL (fL m g))] (.tup (iL (fL m (G m g))))) (hG : ∀ (m : Nat) (g : Nat → Int) (x : Nat), m ≤ x → G m g x = g x) : FnOk P w K mg base CX0 (k + 1) f fd ["rows", "size", "change"] (spD K (det (rRowsBy G fa))) := by
  refine fn_okd F scPRows (fun ds d h => ?_) (fun cdv A outer s H E hr' ds d h => ?_)
  · obtain ⟨_, _, _, rfl, _⟩ := h
    rfl
  · obtain ⟨n, m, q, rfl, hm, hmn, hn, rfl⟩ := h
    have c1 : cutD ((gR n q).map fun z => D.tup (iL z)) none (some (m : Int)) = ((gR n q).take m).map fun z => D.tup (iL z) := by rw [cutD_map, cutL_hi (by rw [gR_len]; exact hmn)]
    have c2 : cutD ((gR n q).map fun z => D.tup (iL z)) (some (m : Int)) none = ((gR n q).drop m).map fun z => D.tup (iL z) := by rw [cutD_map, cutL_lo (by rw [gR_len]; exact hmn)]
    have lt : ((gR n q).take m).length = m := by rw [List.length_take, gR_len]; omega
    have at' : ∀ i, i < m → ((gR n q).take m).getD i [] = fL n (q i) := fun i hi => by
      rw [List.getD_eq_getElem?_getD, List.getElem?_take_of_lt hi, ← List.getD_eq_getElem?_getD]
      exact gR_getD (by omega)
    refine jb_setL 3 ((jl_T (xs := (gR n q).take m) (fun z => .tup (iL z)) [] 4 (fun _ => true) (fun i => .tup (iL (fL n (G m (q i))))) ((je_sliceA (je_v 0) jo_none (jo_some (je_v 1))).is (by rw [c1])) (by rw [lt]; omega) (fun i _ => ji_nil) (fun i hi _ => ?_) bok).is (ds' := (List.range m).map fun i => .tup (iL (fL n (G m (q i))))) ?_) ?_
    · rw [lt] at hi
      rw [at' i hi]
      refine (je_addT (je_callV 2 GA (ja_cons ((je_sliceA (je_v 4) jo_none (jo_some (je_v 1))).is (by rw [cut_lo hmn])) ja_nil) (hr m (q i) hm) (hk := Nat.le_refl _)) ((je_sliceA (je_v 4) (jo_some (je_v 1)) jo_none).is (by rw [cut_hi hmn])) ?_).is ?_
      · rw [iL_len, iL_len, fL_len, List.length_drop, fL_len]
        omega
      · rw [iL_cat, fL_put hmn fun x hx => hG m (q i) x hx]
    · rw [outs_all, lt]
    refine jb_ret (je_addT (je_tupleL (jc_v 3) mtuple) ((je_sliceA (je_v 0) (jo_some (je_v 1)) jo_none).is (by rw [c2])) ?_) (rows_gR hmn)
    rw [List.length_map, List.length_map, List.length_range, List.length_drop, gR_len]
    omega
theorem ok_pcols {f fa : Addr} {fd : FuncData} {k : Nat} {G : Nat → (Nat → Int) → Nat → Int} (F : Fun K "with_columns_changed" "with_columns_changed" sPCols f fd) (PT : Fn P w K mg base 1 "turned" (det rTurn)) (PR : Fn P w K mg base (k + 1) "with_rows_changed" (det (rRowsBy G fa))) : FnOk P w K mg base CX0 (k + 2) f fd ["rows", "size", "change"] (spD K (det (rColsBy G fa))) := by
  refine fn_okd F scPCols (fun ds d h => ?_) (fun cdv A outer s H E hr ds d h => ?_)
  · obtain ⟨_, _, _, rfl, _⟩ := h
    rfl
  · obtain ⟨n, m, q, rfl, hm, hmn, hn, rfl⟩ := h
    exact jb_ret (je_call PT (ja_cons (je_call PR (ja_cons (je_call PT (ja_cons (je_v 0) ja_nil) ⟨n, q, rfl, hn, rfl⟩ (Nat.le_add_left _ _)) (ja_cons (je_v 1) (ja_cons (je_v 2) ja_nil))) ⟨n, m, _, rfl, hm, hmn, by omega, rfl⟩ (Nat.le_refl _)) ja_nil) ⟨n, _, rfl, hn, rfl⟩ (Nat.le_add_left _ _)) rfl
theorem pow3 {k : Nat} (h1 : 1 ≤ k) (h3 : k ≤ 3) : 2 ^ k = 2 ∨ 2 ^ k = 4 ∨ 2 ^ k = 8 := by
  obtain h | h | h : k = 1 ∨ k = 2 ∨ k = 3 := by omega
  · rw [h]; decide
  · rw [h]; decide
  · rw [h]; decide
theorem ok_pforward {f fa : Addr} {fd : FuncData} {k : Nat} {t : Tok} (F : Fun K "forward" "forward" sPForward f fd) (mlen : mg "len" = none) (mL : mg "LEAST_SIZE" = some (.int 2 t)) (mS : mg "stepped" = some (.ref fa)) (PR : Fn P w K mg base (k + 1) "with_rows_changed" (det (rRowsBy stp fa))) (PC : Fn P w K mg base (k + 2) "with_columns_changed" (det (rColsBy stp fa))) : FnOk P w K mg base CX0 (k + 3) f fd ["square"] (spD K (det rFwd)) := by
  refine fn_okd F scPForward (fun ds d h => ?_) (fun cdv A outer s H E hr ds d h => ?_)
  · obtain ⟨_, _, rfl, _⟩ := h
    rfl
  · obtain ⟨e, q, rfl, he3, he1, rfl⟩ := h
    have h8 := pow3 he1 he3
    refine jb_set 1 (je_v 0) ?_
    refine jb_set 2 ((je_lenT (je_v 0) mlen).is (d' := .int ((2 ^ e : Nat) : Int)) (by rw [List.length_map, gR_len])) ?_
    refine jb_cons _ (js_while (fun j l => ∃ p : Sq, l = [.val (tR (gR (2 ^ e) q)), .val (tR (gR (2 ^ e) p)), .val (.int ((2 ^ j : Nat) : Int))] ∧ fwd j p = fwd e q ∧ j ≤ e) e ⟨q, rfl, rfl, Nat.le_refl _⟩ (fun j l hl => ?_)) fun l h => h
    obtain ⟨p, rfl, hp, hj⟩ := hl
    refine ⟨_, jt_ge (je_v 2) (je_globI mL), fun hk => ?_, fun hk => ?_⟩
    · have hk2 := of_decide_eq_true hk
      obtain ⟨j, rfl⟩ : ∃ i, j = i + 1 := by
        cases j with
        | zero => exact absurd hk2 (by decide)
        | succ i => exact ⟨i, rfl⟩
      have hm := pow3 (Nat.succ_pos j) (Nat.le_trans hj he3)
      have hmn : 2 ^ (j + 1) ≤ 2 ^ e := Nat.pow_le_pow_right (by decide) hj
      refine jb_set 1 (je_call PR (ja_cons (je_v 1) (ja_cons (je_v 2) (ja_cons (je_globF mS) ja_nil))) ⟨_, _, p, rfl, hm, hmn, by omega, rfl⟩ (Nat.le_succ _)) ?_
      refine jb_set 1 (je_call PC (ja_cons (je_v 1) (ja_cons (je_v 2) (ja_cons (je_globF mS) ja_nil))) ⟨_, _, _, rfl, hm, hmn, h8, rfl⟩ (Nat.le_refl _)) ?_
      refine jb_set 2 ((je_fdiv (je_v 2) je_int).is (d' := .int ((2 ^ j : Nat) : Int)) (by rw [Nat.pow_succ]; congr 1; omega)) ?_
      exact jb_nil ⟨j, Nat.lt_succ_self _, _, rfl, hp, Nat.le_of_succ_le hj⟩
    · have hk2 := of_decide_eq_false hk
      obtain rfl : j = 0 := by
        cases j with
        | zero => rfl
        | succ i =>
          exfalso
          apply hk2
          rw [Nat.pow_succ]
          have := two_pow_pos i
          omega
      refine jb_ret (je_v 1) ?_
      rw [← hp]
      rfl
theorem ok_pbackward {f fa : Addr} {fd : FuncData} {k : Nat} {t : Tok} (F : Fun K "backward" "backward" sPBackward f fd) (mlen : mg "len" = none) (mL : mg "LEAST_SIZE" = some (.int 2 t)) (mS : mg "stepped_back" = some (.ref fa)) (PR : Fn P w K mg base (k + 1) "with_rows_changed" (det (rRowsBy bck fa))) (PC : Fn P w K mg base (k + 2) "with_columns_changed" (det (rColsBy bck fa))) : FnOk P w K mg base CX0 (k + 3) f fd ["square"] (spD K (det rBwd)) := by
  refine fn_okd F scPBackward (fun ds d h => ?_) (fun cdv A outer s H E hr ds d h => ?_)
  · obtain ⟨_, _, rfl, _⟩ := h
    rfl
  · obtain ⟨e, q, rfl, he3, he1, rfl⟩ := h
    have h8 := pow3 he1 he3
    refine jb_set 1 (je_v 0) ?_
    refine jb_set 2 (je_globI mL) ?_
    refine jb_cons _ (js_while (fun m l => ∃ j, m = e - j ∧ j ≤ e ∧ l = [.val (tR (gR (2 ^ e) q)), .val (tR (gR (2 ^ e) (bwd j q))), .val (.int ((2 ^ (j + 1) : Nat) : Int))]) e ⟨0, rfl, Nat.zero_le _, rfl⟩ (fun m l hl => ?_)) fun l h => h
    obtain ⟨j, rfl, hj, rfl⟩ := hl
    refine ⟨_, jt_le (je_v 2) ((je_lenT (je_v 0) mlen).is (d' := .int ((2 ^ e : Nat) : Int)) (by rw [List.length_map, gR_len])), fun hk => ?_, fun hk => ?_⟩
    · have hk2 := of_decide_eq_true hk
      have hje : j + 1 ≤ e := by
        by_cases c : j + 1 ≤ e
        · exact c
        · exfalso
          obtain rfl : j = e := by omega
          rw [Nat.pow_succ] at hk2
          have := two_pow_pos j
          omega
      have hm := pow3 (Nat.succ_pos j) (Nat.le_trans hje he3)
      have hmn : 2 ^ (j + 1) ≤ 2 ^ e := Nat.pow_le_pow_right (by decide) hje
      refine jb_set 1 (je_call PC (ja_cons (je_v 1) (ja_cons (je_v 2) (ja_cons (je_globF mS) ja_nil))) ⟨_, _, _, rfl, hm, hmn, h8, rfl⟩ (Nat.le_refl _)) ?_
      refine jb_set 1 (je_call PR (ja_cons (je_v 1) (ja_cons (je_v 2) (ja_cons (je_globF mS) ja_nil))) ⟨_, _, _, rfl, hm, hmn, by omega, rfl⟩ (Nat.le_succ _)) ?_
      refine jb_set 2 ((je_mul je_int (je_v 2)).is (d' := .int ((2 ^ (j + 1 + 1) : Nat) : Int)) (by rw [Nat.pow_succ 2 (j + 1)]; congr 1; omega)) ?_
      exact jb_nil ⟨e - (j + 1), by omega, j + 1, rfl, hje, rfl⟩
    · have hk2 := of_decide_eq_false hk
      obtain rfl : j = e := by
        by_cases c : j + 1 ≤ e
        · exfalso
          have hmn : 2 ^ (j + 1) ≤ 2 ^ e := Nat.pow_le_pow_right (by decide) c
          omega
        · omega
      exact jb_ret (je_v 1) rfl

theorem pow_le8 {k : Nat} (h : k ≤ 3) : 2 ^ k ≤ 8 := by
  have := Nat.pow_le_pow_right (n := 2) (by decide) h
  exact this
theorem ok_isSq {f : Addr} {fd : FuncData} (F : Fun K "_law_is_square" "_law_is_square" sIsSq f fd) (mlen : mg "len" = none) (misi : mg "isinstance" = none) (mtuple : mg "tuple" = none) (mint : mg "int" = none) (mbool : mg "bool" = none) : FnOk P w K mg base CX0 1 f fd ["told", "n"] (spD K (det rIsSq)) := by
  refine fn_okd F scIsSq (fun ds d h => ?_) (fun cdv A outer s H E hr ds d h => ?_)
  · obtain ⟨_, _, rfl, _⟩ := h
    rfl
  · obtain ⟨n, q, rfl, hn, rfl⟩ := h
    refine jb_ifx (jt_w (jw_or (jt_not (jt_val (je_isTup (je_v 0)))) fun _ => jw_or1 (jt_ne (je_lenT (je_v 0)) (je_v 1)))) (fun hk => ?_) fun hk => ?_
    · rw [List.length_map, gR_len] at hk
      simp at hk
    refine jb_cons _ (js_forT 2 (fun i l => l = [.val (tR (gR n q)), .val (.int n), .any, .any]) (je_v 0) rfl ?_ fun l h => h) ?_
    · rintro i d _ hd rfl
      obtain ⟨hi, rfl⟩ := gR_mem hd
      refine jb_ifx (jt_w (jw_or (jt_not (jt_val (je_isTup (je_v 2)))) fun _ => jw_or1 (jt_ne (je_lenT (je_v 2)) (je_v 1)))) (fun hk => ?_) fun hk => ?_
      · rw [iL_len, fL_len] at hk
        simp at hk
      refine jb_cons _ (js_forT 3 (fun j l => l = [.val (tR (gR n q)), .val (.int n), .val (.tup (iL (fL n (q i)))), .any]) (je_v 2) rfl ?_ fun l h => h) ?_
      · rintro j d _ hd rfl
        obtain ⟨hj, rfl⟩ := fL_mem hd
        refine jb_ifx (jt_w (jw_or (jt_not (jt_val (je_isInt (je_v 3)))) fun _ => jw_or1 (jt_val (je_isBool (je_v 3))))) (fun hk => ?_) fun hk => ?_
        · simp at hk
        exact jb_end [3] rfl
      · rintro _ rfl
        exact jb_end [2] rfl
    · rintro _ rfl
      exact jb_ret je_bl rfl
theorem ok_same {f : Addr} {fd : FuncData} (F : Fun K "_law_same" "_law_same" sSame f fd) (mlen : mg "len" = none) (mrange : mg "range" = none) (GIs : Fn P w K mg base 1 "_law_is_square" (det rIsSq)) : FnOk P w K mg base CX0 2 f fd ["told", "due"] (spD K (det rSame)) := by
  refine fn_okd F scSame (fun ds d h => ?_) (fun cdv A outer s H E hr ds d h => ?_)
  · obtain ⟨_, _, _, rfl, _⟩ := h
    rfl
  · obtain ⟨n, p, q, rfl, he, hn, rfl⟩ := h
    refine jb_ifx (jt_not (jt_val (je_call GIs (ja_cons (je_v 0) (ja_cons ((je_lenT (je_v 1)).is (d' := .int (n : Int)) (by rw [List.length_map, gR_len])) ja_nil)) ⟨n, p, rfl, hn, rfl⟩))) (fun hk => ?_) fun hk => ?_
    · cases hk
    refine jb_cons _ (js_forR 2 (fun i l => l = [.val (tR (gR n p)), .val (tR (gR n q)), .any, .any]) ((je_lenT (je_v 1)).is (d' := .int (n : Int)) (by rw [List.length_map, gR_len])) (by omega) rfl ?_ fun l h => h) ?_
    · rintro y _ hy rfl
      have hy' : y < n := by omega
      refine jb_cons _ (js_forR 3 (fun i l => l = [.val (tR (gR n p)), .val (tR (gR n q)), .val (.int y), .any]) ((je_lenT (je_v 1)).is (d' := .int (n : Int)) (by rw [List.length_map, gR_len])) (by omega) rfl ?_ fun l h => h) ?_
      · rintro x _ hx rfl
        have hx' : x < n := by omega
        refine jb_ifx (jt_ne (je_ixT (je_ixT (je_v 0) (je_v 2) (atI_gR hy')) (je_v 3) (atI_fL hx')) (je_ixT (je_ixT (je_v 1) (je_v 2) (atI_gR hy')) (je_v 3) (atI_fL hx'))) (fun hk => ?_) fun hk => ?_
        · rw [he y x hy' hx'] at hk
          simp at hk
        exact jb_end [3] rfl
      · rintro _ rfl
        exact jb_end [2] rfl
    · rintro _ rfl
      exact jb_ret je_bl rfl
theorem ok_square {f : Addr} {fd : FuncData} (F : Fun K "_law_square" "_law_square" sSquare f fd) (mrange : mg "range" = none) (mtuple : mg "tuple" = none) (GInts : Fn P w K mg base 2 "_law_integers" rInts) : FnOk P w K mg base CX0 3 f fd ["cell", "n", "mode"] (spD K rSquare) := by
  refine fn_ok F scSquare (fun ds d h => ?_) (fun cdv A outer s H E hr ds Po h => ?_)
  · obtain ⟨_, _, _, rfl, _⟩ := h
    rfl
  · obtain ⟨cell, n, mode, rfl, hn8, rfl⟩ := h
    have hnn : n * n ≤ 64 := Nat.mul_le_mul hn8 hn8
    refine jb_setX 3 (jx_call1 GInts (ja_cons (je_v 0) (ja_cons (je_mul (je_v 1) (je_v 1)) (ja_cons (je_v 2) ja_nil))) ⟨_, n * n, _, by rw [Int.natCast_mul], by omega, rfl⟩) ?_
    rintro _ ⟨vs, rfl, hvl⟩
    refine jb_ret (je_tupleL (JC.new ((jn_lcR 4 (fun _ => true) (fun y => .tup (iL (fL n fun x => vs.getD (y * n + x) 0))) (je_v 1) (by omega) (fun i _ => ji_nil) (fun y hy _ => ?_) bok).is (outs_all _ _))) mtuple) ⟨fun y x => vs.getD (y * n + x) 0, ?_⟩
    · have hy' : y < n := by omega
      have h2 : (y + 1) * n ≤ n * n := Nat.mul_le_mul_right n hy'
      have h3 : (y + 1) * n = y * n + n := by rw [Nat.succ_mul]
      refine (je_tupleL (JC.new (jn_slice (JC.je (je_v 3)) (jo_some (je_mul (je_v 4) (je_v 1))) (jo_some (je_mul (je_add (je_v 4) je_int) (je_v 1))))) mtuple).is ?_
      rw [cutD_iL, show (y : Int) * (n : Int) = ((y * n : Nat) : Int) by rw [Int.natCast_mul], show ((y : Int) + 1) * (n : Int) = (((y + 1) * n : Nat) : Int) by rw [Int.natCast_mul]; rfl, cutL_nat (by omega) (by omega)]
      rw [show (y + 1) * n - y * n = n by omega]
      refine congrArg (fun l => D.tup (iL l)) (ext_getD (by rw [fL_len, List.length_take, List.length_drop]; omega) fun i hi => ?_)
      rw [List.length_take] at hi
      have hi' : i < n := by omega
      rw [fL_getD hi', List.getD_eq_getElem?_getD, List.getElem?_take_of_lt hi', List.getElem?_drop, ← List.getD_eq_getElem?_getD]
    · unfold tR gR
      rw [List.map_map, Int.toNat_natCast]
      rfl
theorem ok_forward {f : Addr} {fd : FuncData} (F : Fun K "_law_forward" "_law_forward" sForward f fd) (mlen : mg "len" = none) (mlist : mg "list" = none) (mrange : mg "range" = none) (mtuple : mg "tuple" = none) (GSt : Fn P w K mg base 1 "_law_stepped" (det rStepped)) : FnOk P w K mg base CX0 2 f fd ["one"] (spD K (det rFwd)) := by
  refine fn_okd F scForward (fun ds d h => ?_) (fun cdv A outer s H E hr ds d h => ?_)
  · obtain ⟨_, _, rfl, _⟩ := h
    rfl
  · obtain ⟨k, q, rfl, hk3, hk1, rfl⟩ := h
    have hn8 := pow_le8 hk3
    obtain ⟨n, hn⟩ : ∃ n, n = 2 ^ k := ⟨_, rfl⟩
    rw [← hn] at hn8 ⊢
    refine jb_setN2 1 ((jn2_lcT (xs := gR n q) (fun r => .tup (iL r)) [] 7 (fun i => iL ((gR n q).getD i [])) (je_v 0) (by rw [gR_len]; omega) (fun i hi => jn_listT (je_v 7)) bok).is (dss' := oR n q) ?_) ?_
    · rw [gR_len]
      exact List.map_congr_left fun i hi => by rw [gR_getD (List.mem_range.mp hi)]
    refine jb_set 2 ((je_lenO2 1).is (d' := .int (n : Int)) (by rw [oR_len])) ?_
    refine jb_cons _ (js_forR 3 (fun i l => ∃ (k' : Nat) (q' : Sq), l = [.val (tR (gR n q)), .own2 (oR n q'), .val (.int ((2 ^ k' : Nat) : Int)), .any, .any, .any, .any, .any] ∧ k' = k - i ∧ EqN n (fwd k' q') (fwd k q)) je_int (by decide) ⟨k, q, by rw [← hn]; rfl, rfl, EqN.refl _ _⟩ ?_ fun l h => h) ?_
    · rintro i _ hi ⟨k', q', rfl, hk', he⟩
      refine jb_if (fun l => ∃ (k' : Nat) (q' : Sq), l = [.val (tR (gR n q)), .own2 (oR n q'), .val (.int ((2 ^ k' : Nat) : Int)), .val (.int i), .any, .any, .any, .any] ∧ k' = k - (i + 1) ∧ EqN n (fwd k' q') (fwd k q)) (jt_ge (je_v 2) je_int) (fun hk => ?_) (fun hk => jb_nil ⟨k', q', rfl, ?_, he⟩) ?_
      · have hk2 := of_decide_eq_true hk
        obtain ⟨j, rfl⟩ : ∃ j, k' = j + 1 := by
          cases k' with
          | zero => exact absurd hk2 (by decide)
          | succ j => exact ⟨j, rfl⟩
        have hm := two_pow_half j
        have hmn : 2 ^ (j + 1) ≤ n := by rw [hn]; exact Nat.pow_le_pow_right (by decide) (by omega)
        have hm2 : 2 ^ (j + 1) / 2 = 2 ^ j := by rw [Nat.pow_succ]; omega
        have hun : lvlF (2 ^ (j + 1)) q' = colsF (2 ^ (j + 1)) (rowsF (2 ^ (j + 1)) q') := rfl
        have hfw : fwd (j + 1) q' = fwd j (lvlF (2 ^ (j + 1)) q') := rfl
        obtain ⟨m, hmd⟩ : ∃ m, m = 2 ^ (j + 1) := ⟨_, rfl⟩
        rw [← hmd] at hm hmn hm2 hun hfw ⊢
        refine jb_cons _ (js_forR 4 (fun y l => l = [.val (tR (gR n q)), .own2 (oR n fun y' x' => if y' < y then stp m (q' y') x' else q' y' x'), .val (.int (m : Int)), .val (.int i), .any, .any, .any, .any]) (je_v 2) (by omega) rfl ?_ fun l h => h) ?_
        · rintro y _ hy rfl
          have hy' : y < n := by omega
          have hrow : (oR n fun y' x' => if y' < y then stp m (q' y') x' else q' y' x')[y]? = some (iL (fL n (q' y))) := by
            rw [oR_at hy']
            refine congrArg (fun g => some (iL (fL n g))) (funext fun x' => ?_)
            rw [if_neg (Nat.lt_irrefl y)]
          have z1 : (cutD (iL (fL n (q' y))) none (some (m : Int))) = iL (fL m (q' y)) := cut_lo hmn _
          refine jb_cons (fun l => l = _) (js_setRow 1 ((jn_cat (JC.je (je_call GSt (ja_cons (JE.new ((jn_slice (jc_row 1 (je_v 4) hrow) jo_none (jo_some (je_v 2))).is z1)) ja_nil) ⟨fL m (q' y), rfl, by rw [fL_len]; omega, rfl⟩)) (JC.new ((jn_slice (jc_row 1 (je_v 4) hrow) (jo_some (je_v 2)) jo_none).is (cut_hi hmn _))) (by rw [iL_len, iL_len, mStep_len, fL_len, List.length_drop, fL_len]; omega)).is (ds' := iL (fL n (stp m (q' y)))) ?_) (je_v 4) rfl (by rw [oR_len]; exact hy') rfl) ?_
          · rw [iL_cat, mStep_fL hm, fL_put hmn fun x hx => by unfold stp; rw [if_neg (by omega), if_neg (by omega)]]
          rintro _ rfl
          refine jb_end [4] ?_
          show [_, Loc.own2 ((oR n _).set y (iL (fL n (stp m (q' y))))), _, _, _, _, _, _] = _
          rw [oR_set]
          congr 3
          refine oR_congr fun a b _ _ => ?_
          by_cases e : a = y
          · subst e
            rw [if_pos rfl, if_pos (by omega)]
          · rw [if_neg e]
            by_cases e2 : a < y
            · rw [if_pos e2, if_pos (by omega)]
            · rw [if_neg e2, if_neg (by omega)]
        rintro _ rfl
        rw [show (oR n fun y' x' => if y' < ((m : Int)).toNat then stp m (q' y') x' else q' y' x') = oR n (rowsF m q') from rfl]
        obtain ⟨r, hr⟩ : ∃ r, r = rowsF m q' := ⟨_, rfl⟩
        rw [← hr] at hun ⊢
        refine jb_cons _ (js_forR 5 (fun x l => l = [.val (tR (gR n q)), .own2 (oR n fun y' x' => if x' < x then stp m (fun z => r z x') y' else r y' x'), .val (.int (m : Int)), .val (.int i), .any, .any, .any, .any]) (je_v 2) (by omega) rfl ?_ fun l h => h) ?_
        · rintro x _ hx rfl
          have hx' : x < n := by omega
          obtain ⟨p, hp⟩ : ∃ p : Sq, p = fun y' x' => if x' < x then stp m (fun z => r z x') y' else r y' x' := ⟨_, rfl⟩
          have hpx : ∀ y, p y x = r y x := fun y => by rw [hp]; simp only [if_neg (Nat.lt_irrefl x)]
          rw [← hp]
          refine jb_set 6 (je_call GSt (ja_cons (JE.new ((jn_lcR 4 (fun _ => true) (fun y => .int (r y x)) (je_v 2) (by omega) (fun i _ => ji_nil) (fun y hy _ => ?_) bok).is ((outs_all _ _).trans (outs_fL _ fun y => r y x)))) ja_nil) ⟨fL m fun y => r y x, rfl, by rw [fL_len]; omega, rfl⟩) ?_
          · rw [← hpx y]
            exact je_ixL (jc_row 1 (je_v 4) (oR_at (by omega))) (je_v 5) (atI_fL hx')
          rw [mStep_fL hm]
          refine jb_cons _ (js_forR 4 (fun y l => l = [.val (tR (gR n q)), .own2 (oR n fun y' x' => if x' = x ∧ y' < y then stp m (fun z => r z x) y' else p y' x'), .val (.int (m : Int)), .val (.int i), .any, .val (.int x), .val (.lst (iL (fL m (stp m fun z => r z x)))), .any]) (je_v 2) (by omega) ?_ ?_ fun l h => h) ?_
          · show [_, Loc.own2 (oR n p), _, _, _, _, _, _] = _
            congr 3
            refine oR_congr fun a b _ _ => ?_
            rw [if_neg (by omega)]
          · rintro y _ hy rfl
            have hy' : y < n := by omega
            refine jb_cons (fun l => l = _) (js_setCell 1 (je_ixL (JC.je (je_v 6)) (je_v 4) (atI_fL (by omega))) (je_v 4) (je_v 5) rfl (oR_at hy') (by rw [iL_len, fL_len]; exact hx') rfl) ?_
            rintro _ rfl
            refine jb_end [4] ?_
            show [_, Loc.own2 ((oR n _).set y _), _, _, _, _, _, _] = _
            rw [oR_cell n (fun y' x' => if x' = x ∧ y' < y then stp m (fun z => r z x) y' else p y' x')]
            congr 3
            refine oR_congr fun a b _ _ => ?_
            by_cases e : a = y ∧ b = x
            · obtain ⟨rfl, rfl⟩ := e
              rw [if_pos ⟨rfl, rfl⟩, if_pos ⟨rfl, by omega⟩]
            · rw [if_neg e]
              by_cases e2 : b = x ∧ a < y
              · rw [if_pos e2, if_pos ⟨e2.1, by omega⟩]
              · rw [if_neg e2, if_neg (by omega)]
          · rintro _ rfl
            refine jb_end [4, 5, 6] ?_
            show [_, Loc.own2 (oR n _), _, _, _, _, _, _] = _
            congr 3
            refine oR_congr fun a b ha hb => ?_
            rw [hp]
            by_cases e : b = x
            · subst e
              by_cases e2 : a < ((m : Int)).toNat
              · rw [if_pos ⟨rfl, e2⟩, if_pos (by omega)]
              · rw [if_neg (by omega)]
                simp only [if_neg (Nat.lt_irrefl b)]
                rw [if_pos (by omega)]
                unfold stp
                rw [if_neg (by omega), if_neg (by omega)]
            · rw [if_neg (by omega)]
              by_cases e2 : b < x
              · simp only [if_pos e2]
                rw [if_pos (by omega)]
              · simp only [if_neg e2]
                rw [if_neg (by omega)]
        rintro _ rfl
        refine jb_one (js_set 2 (je_fdiv (je_v 2) je_int) ⟨j, colsF m r, ?_, by omega, by rw [← hun, ← hfw]; exact he⟩)
        rw [← hm2, Int.natCast_ediv]
        rfl
      · have hk2 := of_decide_eq_false hk
        cases k' with
        | zero => omega
        | succ j =>
          have := Nat.one_le_two_pow (n := j)
          rw [Nat.pow_succ] at hk2
          omega
      rintro _ ⟨k2, q2, rfl, h1, h2⟩
      exact jb_end [3] ⟨k2, q2, rfl, h1, h2⟩
    · rintro _ ⟨k', q', rfl, hk', he⟩
      have h0 : k' = 0 := by
        have : ((3 : Int)).toNat = 3 := rfl
        omega
      subst h0
      refine jb_thaw2 1 rfl (jb_ret (je_tupleL (JC.new ((jn_lcL (xs := oR n q') D.lst [] 7 (fun _ => true) (fun y => .tup ((oR n q').getD y [])) (je_v 1) (by rw [oR_len]; omega) (fun i _ => ji_nil) (fun y hy _ => ?_) bok).is (outs_listD (oR n q') [] D.tup rfl rfl rfl))) mtuple) ?_)
      · exact je_tupleL (JC.je (je_v 7)) mtuple
      · show D.tup _ = _
        rw [tR_oR, gR_congr (show EqN n q' (fwd k q) from he)]
def rAsked : Rel := rLaw
theorem ok_asked {f : Addr} {fd : FuncData} (F : Fun K "_law_asked" "_law_asked" sAsked f fd) (mint : mg "int" = none)
    (GC : Fn P w K mg base 1 "_law_cell" (det rCell)) (GD : Fn P w K mg base 1 "_law_draws" (det rDraws)) (GSq : Fn P w K mg base 3 "_law_square" rSquare) (GF : Fn P w K mg base 2 "_law_forward" (det rFwd)) (GIs : Fn P w K mg base 1 "_law_is_square" (det rIsSq)) (GSame : Fn P w K mg base 2 "_law_same" (det rSame))
    (PF : Fn P w K mg base 4 "forward" (det rFwd)) (PFK : Fk P w K mg base 4 "forward" 0 ["square"] [0] (det rFwd)) (PB : Fn P w K mg base 4 "backward" (det rBwd)) (PBK : Fk P w K mg base 4 "backward" 0 ["square"] [0] (det rBwd)) :
    FnOk P w K mg base CX0 5 f fd ["script"] (spD K rAsked) := by
  refine fn_ok F scAsked (fun ds d h => ?_) (fun cdv A outer s H E hr ds Po h => ?_)
  · obtain ⟨_, _, rfl, _⟩ := h
    rfl
  · obtain ⟨ns, hns, rfl, rfl⟩ := h
    refine jb_set 1 (je_call GD (ja_cons (je_call GC (ja_cons (je_v 0) (ja_cons je_int ja_nil)) ⟨ns, 0, rfl, rfl⟩) (ja_cons je_int (ja_cons (je_powL 10000 je_int je_int) ja_nil))) ⟨_, 3, _, rfl, by decide, by decide, by decide, rfl⟩) ?_
    have hd : ∀ i, i < 3 → ∃ v : Int, atI (iL (draws (mCell ns 0) 3 10000)) (i : Nat) = some (.int v) ∧ 0 ≤ v := fun i hi => ⟨_, atI_iL (by rw [draws_len]; exact hi), (draws_mem (by decide) hi).1⟩
    generalize draws (mCell ns 0) 3 10000 = hs at *
    obtain ⟨v0, a0, b0⟩ := hd 0 (by decide)
    obtain ⟨v1, a1, b1⟩ := hd 1 (by decide)
    obtain ⟨v2, a2, b2⟩ := hd 2 (by decide)
    clear hd
    refine jb_setX 2 (jx_ixI (xs := [2, 4, 8, 8]) (fun x => ∃ k : Nat, x = ((2 ^ k : Nat) : Int) ∧ 1 ≤ k ∧ k ≤ 3) (JC.new (jn_lst (ja_cons je_int (ja_cons je_int (ja_cons je_int (ja_cons je_int ja_nil)))))) (je_mod (je_intI (je_ixL (JC.je (je_v 1)) je_int a0) mint) je_int) ?_ (all_cons ⟨1, by decide⟩ (all_cons ⟨2, by decide⟩ (all_cons ⟨3, by decide⟩ (all_cons ⟨3, by decide⟩ all_nil))))) ?_
    · show 0 ≤ _ ∧ _ < (4 : Int)
      omega
    rintro _ ⟨_, rfl, k, rfl, hk1, hk3⟩
    have hn8 := pow_le8 hk3
    refine jb_setX 3 (jx_call1 GSq (ja_cons (je_call GC (ja_cons (je_v 0) (ja_cons je_int ja_nil)) ⟨ns, 1, rfl, rfl⟩) (ja_cons (je_v 2) (ja_cons (je_mod (je_intI (je_ixL (JC.je (je_v 1)) je_int a1) mint) je_int) ja_nil))) ⟨_, 2 ^ k, _, rfl, hn8, rfl⟩) ?_
    rintro _ ⟨q1, rfl⟩
    refine jb_setX 4 (jx_call1 GSq (ja_cons (je_call GC (ja_cons (je_v 0) (ja_cons je_int ja_nil)) ⟨ns, 2, rfl, rfl⟩) (ja_cons (je_v 2) (ja_cons (je_mod (je_intI (je_ixL (JC.je (je_v 1)) je_int a2) mint) je_int) ja_nil))) ⟨_, 2 ^ k, _, rfl, hn8, rfl⟩) ?_
    rintro _ ⟨q2, rfl⟩
    refine jb_set 5 (je_call GF (ja_cons (je_v 3) ja_nil) ⟨k, q1, rfl, hk3, hk1, rfl⟩) ?_
    have E1 := EqN.refl (2 ^ k) (fwd k q1)
    have E2 : EqN (2 ^ k) (bwd k (fwd k q1)) q1 := by rw [bwd_fwd]; exact EqN.refl _ _
    have E3 : EqN (2 ^ k) (fwd k (bwd k q2)) q2 := by rw [fwd_bwd]; exact EqN.refl _ _
    refine jb_ifx (jt_w (jw_or (jt_not (jt_val (je_call GSame (ja_cons (je_call PF (ja_cons (je_v 3) ja_nil) ⟨k, q1, rfl, hk3, hk1, rfl⟩) (ja_cons (je_v 5) ja_nil)) ⟨_, _, _, rfl, E1, hn8, rfl⟩))) fun _ => jw_or1 (jt_not (jt_val (je_call GSame (ja_cons (je_callK0 PBK (jk_cons (je_v 5) jk_nil) rfl ⟨k, _, rfl, hk3, hk1, rfl⟩) (ja_cons (je_v 3) ja_nil)) ⟨_, _, _, rfl, E2, hn8, rfl⟩))))) (fun hk => ?_) fun hk => ?_
    · cases hk
    refine jb_set 6 (je_call PB (ja_cons (je_v 4) ja_nil) ⟨k, q2, rfl, hk3, hk1, rfl⟩) ?_
    refine jb_ifx (jt_w (jw_or (jt_not (jt_val (je_call GIs (ja_cons (je_v 6) (ja_cons (je_v 2) ja_nil)) ⟨_, _, rfl, hn8, rfl⟩))) fun _ => jw_or1 (jt_not (jt_val (je_call GSame (ja_cons (je_call GF (ja_cons (je_v 6) ja_nil) ⟨k, _, rfl, hk3, hk1, rfl⟩) (ja_cons (je_v 4) ja_nil)) ⟨_, _, _, rfl, E3, hn8, rfl⟩))))) (fun hk => ?_) fun hk => ?_
    · cases hk
    refine jb_ifx (jt_w (jw_or (jt_not (jt_val (je_call GSame (ja_cons (je_call PF (ja_cons (je_v 6) ja_nil) ⟨k, _, rfl, hk3, hk1, rfl⟩) (ja_cons (je_v 4) ja_nil)) ⟨_, _, _, rfl, E3, hn8, rfl⟩))) fun _ => jw_or1 (jt_not (jt_val (je_call GSame (ja_cons (je_call PB (ja_cons (je_call PF (ja_cons (je_v 3) ja_nil) ⟨k, _, rfl, hk3, hk1, rfl⟩) ja_nil) ⟨k, _, rfl, hk3, hk1, rfl⟩) (ja_cons (je_v 3) ja_nil)) ⟨_, _, _, rfl, E2, hn8, rfl⟩))))) (fun hk => ?_) fun hk => ?_
    · cases hk
    exact jb_ret (je_call GSame (ja_cons (je_callK0 PFK (jk_cons (je_v 3) jk_nil) rfl ⟨k, _, rfl, hk3, hk1, rfl⟩) (ja_cons (je_v 5) ja_nil)) ⟨_, _, _, rfl, E1, hn8, rfl⟩) rfl
theorem ok_law {f : Addr} {fd : FuncData} (F : Fun K "law" "law" sLaw f fd) (GA : Fn P w K mg base 5 "_law_asked" rAsked) : FnOk P w K mg base CX0 6 f fd ["script"] (spD K rLaw) := by
  refine fn_ok F scLaw (fun ds d h => ?_) (fun cdv A outer s H E hr ds Po h => ?_)
  · obtain ⟨_, _, rfl, _⟩ := h
    rfl
  · obtain ⟨ns, hns, rfl, rfl⟩ := h
    exact jb_one (js_try (jb_retX (jx_call1 GA (ja_cons (je_v 0) ja_nil) ⟨ns, hns, rfl, rfl⟩) fun d hd => hd))
end
theorem pstep_call (m : Nat) (g : Nat → Int) (hm : m = 2 ∨ m = 4 ∨ m = 8) : rPStep [.tup (iL (fL m g))] (.tup (iL (fL m (stp m g)))) := ⟨fL m g, m / 2, _, rfl, .tup _, by rw [fL_len]; omega, by omega, by rw [mStep_fL (by omega)]⟩
theorem pback_call (m : Nat) (g : Nat → Int) (hm : m = 2 ∨ m = 4 ∨ m = 8) : rPBack [.tup (iL (fL m g))] (.tup (iL (fL m (bck m g)))) := ⟨fL m g, m / 2, _, rfl, .tup _, by rw [fL_len]; omega, by omega, by rw [mBack_fL (by omega)]⟩
theorem stp_far (m : Nat) (g : Nat → Int) (x : Nat) (h : m ≤ x) : stp m g x = g x := by unfold stp; rw [if_neg (by omega), if_neg (by omega)]
theorem bck_far (m : Nat) (g : Nat → Int) (x : Nat) (h : m ≤ x) : bck m g x = g x := by unfold bck; rw [if_neg (by omega)]
theorem all_ok {lp : Program} {w : World} {K : Fg} {mg : Str → Option Value} {fa : Addr} {tk : Tok} (hfa : mg "law" = some (.ref fa)) (zL : mg "LEAST_SIZE" = some (.int 2 tk)) (t2 : FT K mg "stepped" sPStep) (t3 : FT K mg "stepped_back" sPBack) (t4 : FT K mg "turned" sPTurned) (t5 : FT K mg "with_rows_changed" sPRows) (t6 : FT K mg "with_columns_changed" sPCols) (t7 : FT K mg "forward" sPForward) (t8 : FT K mg "backward" sPBackward) (t12 : FT K mg "_law_cell" sCell) (t13 : FT K mg "_law_draws" sDraws) (t14 : FT K mg "_law_integers" sInts) (t15 : FT K mg "_law_is_square" sIsSq) (t16 : FT K mg "_law_same" sSame) (t17 : FT K mg "_law_square" sSquare) (t18 : FT K mg "_law_stepped" sStepped) (t19 : FT K mg "_law_forward" sForward) (t20 : FT K mg "_law_asked" sAsked) (t21 : FT K mg "law" sLaw)
    (zabs : mg "abs" = none) (zint : mg "int" = none) (zlen : mg "len" = none) (zrange : mg "range" = none) (zisi : mg "isinstance" = none) (ztuple : mg "tuple" = none) (zlist : mg "list" = none) (zbool : mg "bool" = none) (zzip : mg "zip" = none) :
    ∃ fd : FuncData, (∀ (s : Shared) (u : Value), BindsTo s fd ⟨[u], []⟩ [("script", u)]) ∧ ∀ base : Heap, K.In base → base.Ns mainGlobals mg → FnOk lp w K mg base CX0 6 fa fd ["script"] (spD K rLaw) := by
  refine t21.law hfa (fun base {f fd} F => ?_) fun _ _ _ _ _ _ _ => rfl
  have GC : Fn lp w K mg base 1 "_law_cell" (det rCell) := t12.fn (fun F => ok_cell F zabs zlen zint) fun _ _ _ _ _ _ us hl => match us, hl with | [_, _], _ => rfl
  have GD : Fn lp w K mg base 1 "_law_draws" (det rDraws) := t13.fn (fun F => ok_draws F zrange zint) fun _ _ _ _ _ _ us hl => match us, hl with | [_, _, _], _ => rfl
  have GInts : Fn lp w K mg base 2 "_law_integers" rInts := t14.fn (fun F => ok_ints F zint GD) fun _ _ _ _ _ _ us hl => match us, hl with | [_, _, _], _ => rfl
  have GIs : Fn lp w K mg base 1 "_law_is_square" (det rIsSq) := t15.fn (fun F => ok_isSq F zlen zisi ztuple zint zbool) fun _ _ _ _ _ _ us hl => match us, hl with | [_, _], _ => rfl
  have GSame : Fn lp w K mg base 2 "_law_same" (det rSame) := t16.fn (fun F => ok_same F zlen zrange GIs) fun _ _ _ _ _ _ us hl => match us, hl with | [_, _], _ => rfl
  have GSq : Fn lp w K mg base 3 "_law_square" rSquare := t17.fn (fun F => ok_square F zrange ztuple GInts) fun _ _ _ _ _ _ us hl => match us, hl with | [_, _, _], _ => rfl
  have GSt : Fn lp w K mg base 1 "_law_stepped" (det rStepped) := t18.fn (fun F => ok_stepped F zlen zrange) fun _ _ _ _ _ _ us hl => match us, hl with | [_], _ => rfl
  have GF : Fn lp w K mg base 2 "_law_forward" (det rFwd) := t19.fn (fun F => ok_forward F zlen zlist zrange ztuple GSt) fun _ _ _ _ _ _ us hl => match us, hl with | [_], _ => rfl
  have PSt : Fn lp w K mg base 1 "stepped" (det rPStep) := t2.fn (fun F => ok_pstep F zlen zrange ztuple) fun _ _ _ _ _ _ us hl => match us, hl with | [_], _ => rfl
  have PBk : Fn lp w K mg base 1 "stepped_back" (det rPBack) := t3.fn (fun F => ok_pback F zlen zzip ztuple) fun _ _ _ _ _ _ us hl => match us, hl with | [_], _ => rfl
  obtain ⟨fs, ms, As⟩ := PSt.at
  obtain ⟨fb, mb, Ab⟩ := PBk.at
  have PT : Fn lp w K mg base 1 "turned" (det rTurn) := t4.fn (fun F => ok_pturned F zzip ztuple) fun _ _ _ _ _ _ us hl => match us, hl with | [_], _ => rfl
  have PR1 : Fn lp w K mg base 2 "with_rows_changed" (det (rRowsBy stp fs)) := t5.fn (fun F => ok_prows F ztuple As pstep_call stp_far) fun _ _ _ _ _ _ us hl => match us, hl with | [_, _, _], _ => rfl
  have PR2 : Fn lp w K mg base 2 "with_rows_changed" (det (rRowsBy bck fb)) := t5.fn (fun F => ok_prows F ztuple Ab pback_call bck_far) fun _ _ _ _ _ _ us hl => match us, hl with | [_, _, _], _ => rfl
  have PC1 : Fn lp w K mg base 3 "with_columns_changed" (det (rColsBy stp fs)) := t6.fn (fun F => ok_pcols F PT PR1) fun _ _ _ _ _ _ us hl => match us, hl with | [_, _, _], _ => rfl
  have PC2 : Fn lp w K mg base 3 "with_columns_changed" (det (rColsBy bck fb)) := t6.fn (fun F => ok_pcols F PT PR2) fun _ _ _ _ _ _ us hl => match us, hl with | [_, _, _], _ => rfl
  have PF : Fn lp w K mg base 4 "forward" (det rFwd) := t7.fn (fun F => ok_pforward F zlen zL ms PR1 PC1) fun _ _ _ _ _ _ us hl => match us, hl with | [_], _ => rfl
  have PFK : Fk lp w K mg base 4 "forward" 0 ["square"] [0] (det rFwd) := t7.fk (ps := ["square"]) (fun F => ok_pforward F zlen zL ms PR1 PC1) (by decide) fun _ _ _ _ _ _ us ws h1 h2 => match us, ws, h1, h2 with | [], [_], _, _ => rfl
  have PB : Fn lp w K mg base 4 "backward" (det rBwd) := t8.fn (fun F => ok_pbackward F zlen zL mb PR2 PC2) fun _ _ _ _ _ _ us hl => match us, hl with | [_], _ => rfl
  have PBK : Fk lp w K mg base 4 "backward" 0 ["square"] [0] (det rBwd) := t8.fk (ps := ["square"]) (fun F => ok_pbackward F zlen zL mb PR2 PC2) (by decide) fun _ _ _ _ _ _ us ws h1 h2 => match us, ws, h1, h2 with | [], [_], _, _ => rfl
  have GA : Fn lp w K mg base 5 "_law_asked" rAsked := t20.fn (fun F => ok_asked F zint GC GD GSq GF GIs GSame PF PFK PB PBK) fun _ _ _ _ _ _ us hl => match us, hl with | [_], _ => rfl
  exact ok_law F GA
end T5
open PySem PySem.W PyProof.Rows
set_option maxHeartbeats 0 in
theorem PySem.Challenge.cw_picturetide_k05_whole_transforms_inverte_holds : PySem.Challenge.rw_picturetide_k05_whole_transforms_inverte.Holds := by
  w_on; o_law; k_head; (case hw => w_witness2)
  k_fill
  refine Qp.law_end (l := PySem.Challenge.rw_picturetide_k05_whole_transforms_inverte) (k := 6) (x := "script") rfl rfl ⟨rfl, by decide, by decide⟩ (fun w h Y => PySem.W.kIn_of Y) ?F
  case F =>
    intro w mg fa h KX G hmg
    refine' T5.all_ok hmg (PySem.W.mg_of KX G ?zl) ?_ ?_ ?_ ?_ ?_ ?_ ?_ ?_ ?_ ?_ ?_ ?_ ?_ ?_ ?_ ?_ ?_ ?_ ?_ ?_ ?_ ?_ ?_ ?_ ?_ ?_
    case zl => k_is
    iterate 17 (refine' Qp.ft_mk KX G ?a ?l ?c ?k; (case a => k_is); (case l => k_is); (case c => k_is); (case k => k_is))
    all_goals (refine PySem.W.mg_none_of KX G ?_; k_is)
