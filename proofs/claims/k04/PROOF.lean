import PyProof.Rows.All
import Wide.All
import OpenK.AllK
import Wide.FinOn
import PyProof.EqAt
import PyProof.EqKinds
import PyProof.TupleCall
import KE.OsGo
import HandS.ForSpec
import HandS.Comp
import HandS.Iter
import HandS.Text
import HandS.Dict
import HandS.Evl
import HandS.Zip
import HandS.TupAny
import HandS.IsInst
import HandS.Style
import HandS.Lambda
import HandS.AnyAll
import HandS.Nested
import HandS.Deep
import HandS.SetFor
import PyProof.Rows.SortShellAny
import HandS.ExcIs
import HandS.ForMost
import HandS.EndOwn
import PySem.Challenge.RW_soundborder_k04_whole_types
section
set_option Elab.async false
set_option linter.all false
set_option maxRecDepth 100000
set_option maxHeartbeats 2000000
/-! Data level: readings told over plain data and a memory of the objects that change. -/
namespace DL
open PySem PySem.Spec PyProof.Rows L2

/-- a value as plain data; ref: an object that changes (or any address) -/
inductive D where
  | non | bl (b : Bool) | int (i : Int) | str (x : Str) | ty (n : String) | ref (a : Addr)
  | tup (ds : List D) | lst (ds : List D) | flst (ds : List D)

/-- a lambda made in the def: its words, the cells that it captured, its code object, its defaults -/
structure LF where
  qual : Str
  params : Arguments
  body : Expr
  scope : Scope
  cl : List (Str × Addr)
  c : Addr
  dV : Value
  dvs : List V
/-- the object at f is the lambda F -/
def LamO (f : Addr) (F : LF) : HO := .ext fun h => ∃ (od : Option Addr) (sl : Array (Option Value)) (doc pm ctv : Value), h.get? f = some (⟨.type "function", od, .func (PySem.W.kdv_fn "<lambda>" F.qual F.params (.expr F.body) F.scope F.cl F.dV doc pm (.ref F.c) ctv), sl⟩ : Obj)
/-- an object that may change, or that is no data -/
inductive MO where
  | lst (ds : List D)
  | dk (kvs : List (Key × D))
  | ins (C : Addr) (fs : List (Str × D))
  | raw (o : HO)
  | tab
  | tabN (nm : Nat → Nat → Str)
  | fn (F : LF)

abbrev Mem := Addr → Option MO
abbrev Blk := Addr → Prop
abbrev Env := List (Option D)
def Mem.set (m : Mem) (a : Addr) (o : MO) : Mem := fun b => if b = a then some o else m b
theorem Mem.set_same {m : Mem} {a : Addr} {o : MO} : m.set a o a = some o := by unfold Mem.set; rw [if_pos rfl]
theorem Mem.set_ne {m : Mem} {a b : Addr} {o : MO} (h : b ≠ a) : m.set a o b = m b := by unfold Mem.set; rw [if_neg h]
theorem Mem.set_set {m : Mem} {a : Addr} {o u : MO} : (m.set a o).set a u = m.set a u := by
  funext b
  unfold Mem.set
  split <;> rfl

def KT (K : PySem.W.Frag) (a : Addr) (xs : List V) : Prop := SqT K (fun _ => none) a xs
def KL (K : PySem.W.Frag) (a : Addr) (xs : List V) : Prop := SqL K (fun _ => none) a xs
theorem KT.sq {K : PySem.W.Frag} {H : Hp} {a : Addr} {xs : List V} (h : KT K a xs) : SqT K H a xs := by
  rcases h with (h | ⟨o, h⟩) | h
  · cases h
  · cases h
  · exact .inr h
theorem KL.sq {K : PySem.W.Frag} {H : Hp} {a : Addr} {xs : List V} (h : KL K a xs) : SqL K H a xs := by
  rcases h with (h | ⟨o, h⟩) | h
  · cases h
  · cases h
  · exact .inr h

mutual
inductive Rp (K : PySem.W.Frag) (m : Mem) (b : Blk) (H : Hp) : V → D → Prop where
  | non : Rp K m b H .non .non
  | bl (x : Bool) : Rp K m b H (.bl x) (.bl x)
  | int (i : Int) : Rp K m b H (.int i) (.int i)
  | str (x : Str) : Rp K m b H (.str x) (.str x)
  | ty (n : String) : Rp K m b H (.ty n) (.ty n)
  | ref (a : Addr) : Rp K m b H (.ref a) (.ref a)
  | tup {a : Addr} {xs : List V} {ds : List D} (h : (Rd H a (.tup xs) ∧ m a = none ∧ ¬ b a) ∨ KT K a xs) (hs : Rps K m b H xs ds) : Rp K m b H (.ref a) (.tup ds)
  | lst {a : Addr} {xs : List V} {ds : List D} (h : H a = some (.lst xs) ∧ m a = none ∧ ¬ b a) (hs : Rps K m b H xs ds) : Rp K m b H (.ref a) (.lst ds)
  | flst {a : Addr} {xs : List V} {ds : List D} (h : (Rd H a (.lst xs) ∧ m a = none ∧ ¬ b a) ∨ KL K a xs) (hs : Rps K m b H xs ds) : Rp K m b H (.ref a) (.flst ds)
inductive Rps (K : PySem.W.Frag) (m : Mem) (b : Blk) (H : Hp) : List V → List D → Prop where
  | nil : Rps K m b H [] []
  | cons {v : V} {d : D} {vs : List V} {ds : List D} (h : Rp K m b H v d) (hs : Rps K m b H vs ds) : Rps K m b H (v :: vs) (d :: ds)
end

/-- what no step touches: all that stands and is no changing object -/
structure Step (m : Mem) (H : Hp) (m' : Mem) (H' : Hp) : Prop where
  keep : ∀ a o, H a = some o → m a = none → H' a = some o ∧ m' a = none
theorem Step.refl (m : Mem) (H : Hp) : Step m H m H := ⟨fun _ _ h1 h2 => ⟨h1, h2⟩⟩
theorem Step.trans {m m1 m2 : Mem} {H H1 H2 : Hp} (a : Step m H m1 H1) (b : Step m1 H1 m2 H2) : Step m H m2 H2 := ⟨fun c o h1 h2 => b.keep c o (a.keep c o h1 h2).1 (a.keep c o h1 h2).2⟩

section
variable {K : PySem.W.Frag} {m m' m1 m2 : Mem} {b b' : Blk} {H H' H1 H2 : Hp} {v : V} {d : D} {vs : List V} {ds : List D}
theorem rd_step (st : Step m H m' H') {a : Addr} {o : HO} (h : Rd H a o) (hm : m a = none) : Rd H' a o ∧ m' a = none := by
  rcases h with h | ⟨q, h⟩
  · exact ⟨.inl (st.keep _ _ h hm).1, (st.keep _ _ h hm).2⟩
  · exact ⟨.inr ⟨q, (st.keep _ _ h hm).1⟩, (st.keep _ _ h hm).2⟩
mutual
theorem Rp.step (st : Step m H m' H') (hb : ∀ a, b' a → b a) : ∀ {v : V} {d : D}, Rp K m b H v d → Rp K m' b' H' v d
  | _, _, .non => .non
  | _, _, .bl x => .bl x
  | _, _, .int i => .int i
  | _, _, .str x => .str x
  | _, _, .ty n => .ty n
  | _, _, .ref a => .ref a
  | _, _, .tup h hs => .tup (h.imp (fun h => ⟨(rd_step st h.1 h.2.1).1, (rd_step st h.1 h.2.1).2, fun z => h.2.2 (hb _ z)⟩) id) (Rps.step st hb hs)
  | _, _, .lst h hs => .lst ⟨(st.keep _ _ h.1 h.2.1).1, (st.keep _ _ h.1 h.2.1).2, fun z => h.2.2 (hb _ z)⟩ (Rps.step st hb hs)
  | _, _, .flst h hs => .flst (h.imp (fun h => ⟨(rd_step st h.1 h.2.1).1, (rd_step st h.1 h.2.1).2, fun z => h.2.2 (hb _ z)⟩) id) (Rps.step st hb hs)
theorem Rps.step (st : Step m H m' H') (hb : ∀ a, b' a → b a) : ∀ {vs : List V} {ds : List D}, Rps K m b H vs ds → Rps K m' b' H' vs ds
  | _, _, .nil => .nil
  | _, _, .cons h hs => .cons (Rp.step st hb h) (Rps.step st hb hs)
end
theorem Rps.length : ∀ {vs : List V} {ds : List D}, Rps K m b H vs ds → vs.length = ds.length
  | _, _, .nil => rfl
  | _, _, .cons _ hs => by rw [List.length_cons, List.length_cons, Rps.length hs]
theorem Rps.get : ∀ {vs : List V} {ds : List D} {i : Nat} {d : D}, Rps K m b H vs ds → ds[i]? = some d → ∃ v, vs[i]? = some v ∧ Rp K m b H v d
  | _, _, _, _, .nil, e => by simp at e
  | _, _, 0, _, .cons h _, e => by
    simp at e
    subst e
    exact ⟨_, rfl, h⟩
  | _, _, i + 1, d, .cons _ hs, e => by
    obtain ⟨v, h1, h2⟩ := Rps.get (i := i) (d := d) hs (by simpa using e)
    exact ⟨v, by simpa using h1, h2⟩
theorem Rps.get' : ∀ {vs : List V} {ds : List D} {i : Nat} {v : V}, Rps K m b H vs ds → vs[i]? = some v → ∃ d, ds[i]? = some d ∧ Rp K m b H v d
  | _, _, _, _, .nil, e => by simp at e
  | _, _, 0, _, .cons h _, e => by
    simp at e
    subst e
    exact ⟨_, rfl, h⟩
  | _, _, i + 1, d, .cons _ hs, e => by
    obtain ⟨v, h1, h2⟩ := Rps.get' (i := i) hs (by simpa using e)
    exact ⟨v, by simpa using h1, h2⟩
theorem Rps.append : ∀ {vs ws : List V} {ds es : List D}, Rps K m b H vs ds → Rps K m b H ws es → Rps K m b H (vs ++ ws) (ds ++ es)
  | _, _, _, _, .nil, s => s
  | _, _, _, _, .cons h hs, s => .cons h (Rps.append hs s)
theorem Rps.set {v : V} {d : D} (r : Rp K m b H v d) : ∀ {vs : List V} {ds : List D} (i : Nat), Rps K m b H vs ds → Rps K m b H (vs.set i v) (ds.set i d)
  | _, _, _, .nil => .nil
  | _, _, 0, .cons _ t => .cons r t
  | _, _, i + 1, .cons q t => .cons q (Rps.set r i t)
theorem Rps.drop : ∀ {vs : List V} {ds : List D} (n : Nat), Rps K m b H vs ds → Rps K m b H (vs.drop n) (ds.drop n)
  | _, _, 0, h => h
  | _, _, n + 1, .nil => .nil
  | _, _, n + 1, .cons _ hs => Rps.drop n hs
theorem Rps.take : ∀ {vs : List V} {ds : List D} (n : Nat), Rps K m b H vs ds → Rps K m b H (vs.take n) (ds.take n)
  | _, _, 0, h => .nil
  | _, _, n + 1, .nil => .nil
  | _, _, n + 1, .cons h hs => .cons h (Rps.take n hs)
theorem Rps.ints : ∀ ns : List Int, Rps K m b H (ns.map V.int) (ns.map D.int)
  | [] => .nil
  | _ :: ns => .cons (.int _) (Rps.ints ns)
theorem Rps.strs : ∀ ns : List Str, Rps K m b H (ns.map V.str) (ns.map D.str)
  | [] => .nil
  | _ :: ns => .cons (.str _) (Rps.strs ns)
theorem Rps.strs_inv : ∀ {xs : List V} {ns : List Str}, Rps K m b H xs (ns.map D.str) → xs = ns.map V.str
  | _, [], .nil => rfl
  | _, _ :: ns, .cons h hs => by
    cases h
    rw [Rps.strs_inv hs]
    rfl
theorem Rps.ints_inv : ∀ {xs : List V} {ns : List Int}, Rps K m b H xs (ns.map D.int) → xs = ns.map V.int
  | _, [], .nil => rfl
  | _, _ :: ns, .cons h hs => by
    cases h
    rw [Rps.ints_inv hs]
    rfl
theorem Rps.bls_inv : ∀ {xs : List V} {ns : List Bool}, Rps K m b H xs (ns.map D.bl) → xs = ns.map V.bl
  | _, [], .nil => rfl
  | _, _ :: ns, .cons h hs => by
    cases h
    rw [Rps.bls_inv hs]
    rfl
theorem Rp.tup_sq {a : Addr} (h : Rp K m b H (.ref a) (.tup ds)) : ∃ xs, SqT K H a xs ∧ Rps K m b H xs ds := by
  cases h with
  | tup h hs =>
    rcases h with h | h
    · exact ⟨_, .inl h.1, hs⟩
    · exact ⟨_, h.sq, hs⟩
theorem Rp.flst_sq {a : Addr} (h : Rp K m b H (.ref a) (.flst ds)) : ∃ xs, SqL K H a xs ∧ Rps K m b H xs ds := by
  cases h with
  | flst h hs =>
    rcases h with h | h
    · exact ⟨_, .inl h.1, hs⟩
    · exact ⟨_, h.sq, hs⟩
theorem Rp.tup_ref (h : Rp K m b H v (.tup ds)) : ∃ a xs, v = .ref a ∧ SqT K H a xs ∧ Rps K m b H xs ds := by
  have h' := h
  cases h with
  | tup q hs =>
    obtain ⟨xs, h1, h2⟩ := h'.tup_sq
    exact ⟨_, xs, rfl, h1, h2⟩
theorem Rp.lst_ref (h : Rp K m b H v (.lst ds)) : ∃ a xs, v = .ref a ∧ SqL K H a xs ∧ Rps K m b H xs ds := by
  cases h with
  | lst q hs => exact ⟨_, _, rfl, .inl (.inl q.1), hs⟩
theorem Rp.lst_at (h : Rp K m b H v (.lst ds)) : ∃ a xs, v = .ref a ∧ H a = some (.lst xs) ∧ m a = none ∧ ¬ b a ∧ Rps K m b H xs ds := by
  cases h with
  | lst q hs => exact ⟨_, _, rfl, q.1, q.2.1, q.2.2, hs⟩
theorem Rp.flst_ref (h : Rp K m b H v (.flst ds)) : ∃ a xs, v = .ref a ∧ SqL K H a xs ∧ Rps K m b H xs ds := by
  have h' := h
  cases h with
  | flst q hs =>
    obtain ⟨xs, h1, h2⟩ := h'.flst_sq
    exact ⟨_, xs, rfl, h1, h2⟩

/-- a dict's pairs -/
def Rpk (K : PySem.W.Frag) (m : Mem) (b : Blk) (H : Hp) (xs : List (Key × V)) (ds : List (Key × D)) : Prop := xs.map (·.1) = ds.map (·.1) ∧ Rps K m b H (xs.map (·.2)) (ds.map (·.2))
def Rpf (K : PySem.W.Frag) (m : Mem) (b : Blk) (H : Hp) (xs : List (Str × V)) (ds : List (Str × D)) : Prop := xs.map (·.1) = ds.map (·.1) ∧ Rps K m b H (xs.map (·.2)) (ds.map (·.2))

/-- what stands at a changing object's address -/
def Has (K : PySem.W.Frag) (m : Mem) (b : Blk) (H : Hp) (a : Addr) : MO → Prop
  | .lst ds => ∃ xs, H a = some (.lst xs) ∧ Rps K m b H xs ds
  | .dk kvs => ∃ xs, H a = some (.dK xs) ∧ Rpk K m b H xs kvs
  | .ins C fs => ∃ dx xs, H a = some (.ins C dx xs) ∧ Rpf K m b H xs fs
  | .raw o => H a = some o
  | .tab => GxR.TabG H a
  | .tabN nm => ∃ ps : Array Value, H a = some (.tbl ps) ∧ TriplesOk ps.toList ∧ ∀ (pos : Pos) (cv : Value), codeAmong pos ps.toList = some cv → ∃ c, cv = .ref c ∧ H c = some (LamX.CodeO c (nm pos.line pos.col)) ∧ m c = none
  | .fn F => H a = some (LamO a F) ∧ (H F.c = some (LamX.CodeO F.c F.qual) ∧ m F.c = none) ∧ (F.dV = .none ∨ ∃ d, F.dV = .ref d ∧ H d = some (.tup F.dvs) ∧ m d = none)
structure Ok (K : PySem.W.Frag) (m : Mem) (b : Blk) (H : Hp) : Prop where
  has : ∀ a o, m a = some o → Has K m b H a o
  blk : ∀ a, b a → m a = none ∧ H a ≠ none
theorem Has.there {a : Addr} {o : MO} (h : Has K m b H a o) : H a ≠ none := by
  cases o with
  | lst ds => obtain ⟨_, e, _⟩ := h; rw [e]; exact fun z => nomatch z
  | dk ds => obtain ⟨_, e, _⟩ := h; rw [e]; exact fun z => nomatch z
  | ins C ds => obtain ⟨_, _, e, _⟩ := h; rw [e]; exact fun z => nomatch z
  | raw o => rw [show H a = some o from h]; exact fun z => nomatch z
  | tab => obtain ⟨_, e, _⟩ := h; rw [e]; exact fun z => nomatch z
  | tabN nm => obtain ⟨_, e, _⟩ := h; rw [e]; exact fun z => nomatch z
  | fn F => obtain ⟨e, _⟩ := h; rw [e]; exact fun z => nomatch z
theorem Has.step (st : Step m H m' H') (hb : ∀ a, b' a → b a) {a : Addr} {o : MO} (e : H' a = H a) (h : Has K m b H a o) : Has K m' b' H' a o := by
  cases o with
  | lst ds =>
    obtain ⟨xs, q, r⟩ := h
    exact ⟨xs, e.trans q, r.step st hb⟩
  | dk ds =>
    obtain ⟨xs, q, r⟩ := h
    exact ⟨xs, e.trans q, r.1, r.2.step st hb⟩
  | ins C ds =>
    obtain ⟨dx, xs, q, r⟩ := h
    exact ⟨dx, xs, e.trans q, r.1, r.2.step st hb⟩
  | raw o => exact e.trans h
  | tab =>
    obtain ⟨ps, q, r⟩ := h
    exact ⟨ps, e.trans q, r⟩
  | tabN nm =>
    obtain ⟨ps, q, r, s⟩ := h
    refine ⟨ps, e.trans q, r, fun pos cv hc => ?_⟩
    obtain ⟨c, h1, h2, h3⟩ := s pos cv hc
    exact ⟨c, h1, (st.keep _ _ h2 h3).1, (st.keep _ _ h2 h3).2⟩
  | fn F =>
    obtain ⟨q, ⟨h2, h3⟩, q4⟩ := h
    exact ⟨e.trans q, st.keep _ _ h2 h3, q4.imp id fun ⟨d, a1, a2, a3⟩ => ⟨d, a1, st.keep _ _ a2 a3⟩⟩
/-- a new object, no changing one -/
theorem step_new {p : Addr} {o : HO} (hp : H p = none) : Step m H m (upd H p o) := ⟨fun a u h1 h2 => ⟨by rw [upd_ne (ne_of_none h1 hp)]; exact h1, h2⟩⟩
theorem Ok.fresh (ok : Ok K m b H) {p : Addr} (hp : H p = none) : m p = none ∧ ¬ b p := by
  refine ⟨?_, fun z => (ok.blk p z).2 hp⟩
  cases e : m p with
  | none => rfl
  | some o => exact absurd hp (ok.has p o e).there
theorem Ok.new (ok : Ok K m b H) {p : Addr} {o : HO} (hp : H p = none) : Ok K m b (upd H p o) := by
  refine ⟨fun a u e => ?_, fun a hb => ⟨(ok.blk a hb).1, ?_⟩⟩
  · have h := ok.has a u e
    refine h.step (step_new hp) (fun _ z => z) (upd_ne ?_)
    intro z
    subst z
    exact h.there hp
  · intro z
    refine (ok.blk a hb).2 ?_
    unfold upd at z
    split at z
    · cases z
    · exact z
/-- a changing object is written -/
theorem step_set {p : Addr} {o : HO} {u u' : MO} (hp : m p = some u) : Step m H (m.set p u') (upd H p o) := ⟨fun a q h1 h2 => by
  have ne : a ≠ p := fun z => by
    rw [z, hp] at h2
    cases h2
  exact ⟨by rw [upd_ne ne]; exact h1, by rw [Mem.set_ne ne]; exact h2⟩⟩
theorem Ok.set (ok : Ok K m b H) {p : Addr} {o : HO} {u u' : MO} (hp : m p = some u) (h : Has K (m.set p u') b (upd H p o) p u') : Ok K (m.set p u') b (upd H p o) := by
  refine ⟨fun a q e => ?_, fun a hb => ?_⟩
  · by_cases ne : a = p
    · subst ne
      rw [Mem.set_same] at e
      cases e
      exact h
    · rw [Mem.set_ne ne] at e
      exact (ok.has a q e).step (step_set hp) (fun _ z => z) (upd_ne ne)
  · have ne : a ≠ p := fun z => by
      rw [z] at hb
      rw [(ok.blk p hb).1] at hp
      cases hp
    rw [Mem.set_ne ne, upd_ne ne]
    exact ok.blk a hb
/-- a new changing object -/
theorem step_make {p : Addr} {o : HO} {u' : MO} (hp : H p = none) : Step m H (m.set p u') (upd H p o) := ⟨fun a q h1 h2 => by
  have ne : a ≠ p := ne_of_none h1 hp
  exact ⟨by rw [upd_ne ne]; exact h1, by rw [Mem.set_ne ne]; exact h2⟩⟩
theorem Ok.make (ok : Ok K m b H) {p : Addr} {o : HO} {u' : MO} (hp : H p = none) (h : Has K (m.set p u') b (upd H p o) p u') : Ok K (m.set p u') b (upd H p o) := by
  refine ⟨fun a q e => ?_, fun a hb => ?_⟩
  · by_cases ne : a = p
    · subst ne
      rw [Mem.set_same] at e
      cases e
      exact h
    · rw [Mem.set_ne ne] at e
      exact (ok.has a q e).step (step_make hp) (fun _ z => z) (upd_ne ne)
  · have ne : a ≠ p := fun z => (ok.blk a hb).2 (by rw [z]; exact hp)
    rw [Mem.set_ne ne, upd_ne ne]
    exact ok.blk a hb

/-! ### slots -/
structure Sl (K : PySem.W.Frag) (m : Mem) (b : Blk) (H : Hp) (σ : L2.St) (ρ : Env) : Prop where
  len : σ.length = ρ.length
  at_ : ∀ (i : Nat) (d : D), ρ[i]? = some (some d) → ∃ v, σ[i]? = some (some v) ∧ Rp K m b H v d
variable {σ : L2.St} {ρ : Env}
theorem Sl.step (s : Sl K m b H σ ρ) (st : Step m H m' H') (hb : ∀ a, b' a → b a) : Sl K m' b' H' σ ρ := ⟨s.len, fun i d e => by
  obtain ⟨v, h1, h2⟩ := s.at_ i d e
  exact ⟨v, h1, h2.step st hb⟩⟩
theorem Sl.set (s : Sl K m b H σ ρ) {v : V} {d : D} (i : Nat) (r : Rp K m b H v d) : Sl K m b H (σ.set i (some v)) (ρ.set i (some d)) := by
  refine ⟨by rw [List.length_set, List.length_set]; exact s.len, fun j e h => ?_⟩
  by_cases hj : i = j
  · subst hj
    have hl : i < ρ.length := by
      have q := (List.getElem?_eq_some_iff.mp h).1
      rw [List.length_set] at q
      exact q
    rw [List.getElem?_set_self hl] at h
    cases h
    exact ⟨v, List.getElem?_set_self (by rw [s.len]; exact hl), r⟩
  · rw [List.getElem?_set_ne hj] at h
    obtain ⟨w, h1, h2⟩ := s.at_ j e h
    exact ⟨w, by rw [List.getElem?_set_ne hj]; exact h1, h2⟩
theorem Sl.setN (s : Sl K m b H σ ρ) (i : Nat) : Sl K m b H (σ.set i none) (ρ.set i none) := by
  refine ⟨by rw [List.length_set, List.length_set]; exact s.len, fun j e h => ?_⟩
  by_cases hj : i = j
  · subst hj
    have hl : i < ρ.length := by
      have q := (List.getElem?_eq_some_iff.mp h).1
      rw [List.length_set] at q
      exact q
    rw [List.getElem?_set_self hl] at h
    cases h
  · rw [List.getElem?_set_ne hj] at h
    obtain ⟨w, h1, h2⟩ := s.at_ j e h
    exact ⟨w, by rw [List.getElem?_set_ne hj]; exact h1, h2⟩
def wipeD (ρ : Env) : List Nat → Env
  | [] => ρ
  | v :: vs => (wipeD ρ vs).set v none
theorem Sl.wipe (s : Sl K m b H σ ρ) : ∀ vs : List Nat, Sl K m b H (wipe σ vs) (wipeD ρ vs)
  | [] => s
  | v :: vs => (s.wipe vs).setN v
theorem wipe_len (σ : L2.St) : ∀ vs : List Nat, (L2.wipe σ vs).length = σ.length := L2.wipe_length σ
theorem wipe_at {σ : L2.St} {j : Nat} : ∀ {vs : List Nat}, j ∈ vs → j < σ.length → (L2.wipe σ vs)[j]? = some none
  | v :: vs, h, hl => by
    show ((L2.wipe σ vs).set v none)[j]? = some none
    by_cases e : v = j
    · subst e
      exact List.getElem?_set_self (by rw [L2.wipe_length]; exact hl)
    · rw [List.getElem?_set_ne e]
      rcases List.mem_cons.mp h with z | z
      · exact absurd z.symm e
      · exact wipe_at z hl
theorem wipe_wipe {σ : L2.St} {j : Nat} {x : Option V} {vs : List Nat} (hj : j ∈ vs) : L2.wipe ((L2.wipe σ vs).set j x) vs = L2.wipe σ vs := by
  refine List.ext_getElem? fun k => ?_
  have key : ∀ (τ : L2.St) (us : List Nat), (L2.wipe τ us)[k]? = if k ∈ us then (if k < τ.length then some none else none) else τ[k]? := by
    intro τ us
    induction us with
    | nil => simp [L2.wipe]
    | cons u us ih =>
      show ((L2.wipe τ us).set u none)[k]? = _
      rw [List.getElem?_set]
      by_cases e : u = k
      · subst e
        simp [L2.wipe_length]
      · rw [if_neg e, ih]
        by_cases hk : k ∈ us
        · rw [if_pos hk, if_pos (List.mem_cons_of_mem _ hk)]
        · rw [if_neg hk, if_neg (fun z => (List.mem_cons.mp z).elim (fun z => e z.symm) hk)]
  rw [key, key, List.length_set, L2.wipe_length]
  by_cases hk : k ∈ vs
  · rw [if_pos hk, if_pos hk]
  · rw [if_neg hk, if_neg hk, List.getElem?_set_ne (fun z => hk (by rw [← z]; exact hj)), key, if_neg hk]
end

/-! ### readings over data -/
section
variable (K : PySem.W.Frag)
def W (te : TE) (ρ : Env) (m : Mem) (P : D → Mem → Prop) : Prop :=
  ∀ (b : Blk) (σ : L2.St) (H : Hp), Sl K m b H σ ρ → Ok K m b H → ∀ Q : VK, (∀ v d m' H', P d m' → Step m H m' H' → Ok K m' b H' → Rp K m' b H' v d → Q v H') → te σ H Q
def WT (tt : TT) (ρ : Env) (m : Mem) (P : Bool → Mem → Prop) : Prop :=
  ∀ (b : Blk) (σ : L2.St) (H : Hp), Sl K m b H σ ρ → Ok K m b H → ∀ Q : Bool → Hp → Prop, (∀ c m' H', P c m' → Step m H m' H' → Ok K m' b H' → Q c H') → tt σ H Q
def WA (ta : TA) (ρ : Env) (m : Mem) (P : List D → Mem → Prop) : Prop :=
  ∀ (b : Blk) (σ : L2.St) (H : Hp), Sl K m b H σ ρ → Ok K m b H → ∀ Q : List V → Hp → Prop, (∀ vs ds m' H', P ds m' → Step m H m' H' → Ok K m' b H' → Rps K m' b H' vs ds → Q vs H') → ta σ H Q
/-- an operation of two values -/
def WR (r : R2) (x y : D) (m : Mem) (P : D → Mem → Prop) : Prop :=
  ∀ (b : Blk) (H : Hp) (v w : V), Ok K m b H → Rp K m b H v x → Rp K m b H w y → ∀ Q : VK, (∀ v d m' H', P d m' → Step m H m' H' → Ok K m' b H' → Rp K m' b H' v d → Q v H') → r v w H Q
def WU (r : V → Hp → VK → Prop) (x : D) (m : Mem) (P : D → Mem → Prop) : Prop :=
  ∀ (b : Blk) (H : Hp) (v : V), Ok K m b H → Rp K m b H v x → ∀ Q : VK, (∀ v d m' H', P d m' → Step m H m' H' → Ok K m' b H' → Rp K m' b H' v d → Q v H') → r v H Q
/-- a call by values -/
def WC (r : List V → Hp → VK → Prop) (xs : List D) (m : Mem) (P : D → Mem → Prop) : Prop :=
  ∀ (b : Blk) (H : Hp) (vs : List V), Ok K m b H → Rps K m b H vs xs → ∀ Q : VK, (∀ v d m' H', P d m' → Step m H m' H' → Ok K m' b H' → Rp K m' b H' v d → Q v H') → r vs H Q
structure WE (N : Env → Mem → Prop) (R : D → Mem → Prop) (B C : Env → Mem → Prop) (b : Blk) (m : Mem) (H : Hp) (E : Ends) : Prop where
  nx : ∀ σ' ρ' m' H', N ρ' m' → Step m H m' H' → Ok K m' b H' → Sl K m' b H' σ' ρ' → E.nx σ' H'
  rt : ∀ v d m' H', R d m' → Step m H m' H' → Ok K m' b H' → Rp K m' b H' v d → E.rt v H'
  bk : ∀ σ' ρ' m' H', B ρ' m' → Step m H m' H' → Ok K m' b H' → Sl K m' b H' σ' ρ' → E.bk σ' H'
  ct : ∀ σ' ρ' m' H', C ρ' m' → Step m H m' H' → Ok K m' b H' → Sl K m' b H' σ' ρ' → E.ct σ' H'
def WS (t : TS) (ρ : Env) (m : Mem) (N : Env → Mem → Prop) (R : D → Mem → Prop) (B C : Env → Mem → Prop) : Prop :=
  ∀ (b : Blk) (σ : L2.St) (H : Hp), Sl K m b H σ ρ → Ok K m b H → ∀ E : Ends, WE K N R B C b m H E → t E σ H
end
end DL
end
section
set_option Elab.async false
set_option linter.all false
set_option maxRecDepth 100000
set_option maxHeartbeats 2000000
namespace DL
open PySem PySem.Spec PyProof.Rows L2
section
variable {K : PySem.W.Frag} {ρ : Env} {m : Mem} {P : D → Mem → Prop} {ta tb te : TE} {x y d : D}

/-! ### names, constants -/
theorem w_var {i : Nat} {d : D} (h : ρ[i]? = some (some d)) (k : P d m) : W K (tVar i) ρ m P := fun b σ H s ok Q q => by
  obtain ⟨v, h1, h2⟩ := s.at_ i d h
  exact ⟨v, h1, q v d m H k (Step.refl _ _) ok h2⟩
theorem w_cint {i : Int} (k : P (.int i) m) : W K (tC (.int i)) ρ m P := fun b σ H s ok Q q => q _ _ m H k (Step.refl _ _) ok (.int i)
theorem w_cbl {i : Bool} (k : P (.bl i) m) : W K (tC (.bl i)) ρ m P := fun b σ H s ok Q q => q _ _ m H k (Step.refl _ _) ok (.bl i)
theorem w_cstr {i : Str} (k : P (.str i) m) : W K (tC (.str i)) ρ m P := fun b σ H s ok Q q => q _ _ m H k (Step.refl _ _) ok (.str i)
theorem w_cnon (k : P .non m) : W K (tC .non) ρ m P := fun b σ H s ok Q q => q _ _ m H k (Step.refl _ _) ok .non
theorem w_cty {n : String} (k : P (.ty n) m) : W K (tC (.ty n)) ρ m P := fun b σ H s ok Q q => q _ _ m H k (Step.refl _ _) ok (.ty n)
theorem w_cref {a : Addr} (k : P (.ref a) m) : W K (tC (.ref a)) ρ m P := fun b σ H s ok Q q => q _ _ m H k (Step.refl _ _) ok (.ref a)
/-- data of the written part -/
def KData (K : PySem.W.Frag) (v : V) (d : D) : Prop := ∀ m b H, Rp K m b H v d
theorem w_cK {v : V} {d : D} (h : KData K v d) (k : P d m) : W K (tC v) ρ m P := fun b σ H s ok Q q => q _ _ m H k (Step.refl _ _) ok (h m b H)
theorem KData.strs {a : Addr} {ns : List Str} (h : KT K a (ns.map V.str)) : KData K (.ref a) (.tup (ns.map D.str)) := fun m b H => .tup (.inr h) (Rps.strs ns)

/-! ### operations -/
theorem w_op {r : R2} (h : W K ta ρ m fun x m1 => W K tb ρ m1 fun y m2 => WR K r x y m2 P) : W K (tOp r ta tb) ρ m P := fun b σ H s ok Q q =>
  h b σ H s ok _ fun v x m1 H1 h1 st1 ok1 r1 => h1 b σ H1 (s.step st1 fun _ z => z) ok1 _ fun w y m2 H2 h2 st2 ok2 r2 =>
    h2 b H2 v w ok2 (r1.step st2 fun _ z => z) r2 Q fun u d m3 H3 h3 st3 ok3 r3 => q u d m3 H3 h3 ((st1.trans st2).trans st3) ok3 r3
theorem w_un {r : V → Hp → VK → Prop} (h : W K ta ρ m fun x m1 => WU K r x m1 P) : W K (tUn r ta) ρ m P := fun b σ H s ok Q q =>
  h b σ H s ok _ fun v x m1 H1 h1 st1 ok1 r1 => h1 b H1 v ok1 r1 Q fun u d m3 H3 h3 st3 ok3 r3 => q u d m3 H3 h3 (st1.trans st3) ok3 r3
theorem wr_I0 {g : Int → Int → Int} {i j : Int} (k : P (.int (g i j)) m) : WR K (rI0 fun i j => .int (g i j)) (.int i) (.int j) m P := fun b H v w ok r1 r2 Q q => by
  cases r1
  cases r2
  exact ⟨i, j, rfl, rfl, q _ _ m H k (Step.refl _ _) ok (.int _)⟩
theorem wr_B0 {g : Int → Int → Bool} {i j : Int} (k : P (.bl (g i j)) m) : WR K (rI0 fun i j => .bl (g i j)) (.int i) (.int j) m P := fun b H v w ok r1 r2 Q q => by
  cases r1
  cases r2
  exact ⟨i, j, rfl, rfl, q _ _ m H k (Step.refl _ _) ok (.bl _)⟩
theorem wr_I {C : Int → Int → Prop} {g : Int → Int → Int} {i j : Int} (hc : C i j) (k : P (.int (g i j)) m) : WR K (rI C fun i j => .int (g i j)) (.int i) (.int j) m P := fun b H v w ok r1 r2 Q q => by
  cases r1
  cases r2
  exact ⟨i, j, rfl, rfl, hc, q _ _ m H k (Step.refl _ _) ok (.int _)⟩
/-- scalars -/
def flatD : D → Bool
  | .non => true
  | .bl _ => true
  | .int _ => true
  | .str _ => true
  | _ => false
def vOf : D → V
  | .non => .non
  | .bl x => .bl x
  | .int i => .int i
  | .str s => .str s
  | .ty n => .ty n
  | .ref a => .ref a
  | _ => .non
theorem Rp.flat {m : Mem} {b : Blk} {H : Hp} {v : V} {d : D} (h : Rp K m b H v d) (f : flatD d = true) : v = vOf d := by
  cases h <;> first | rfl | cases f
theorem flatV_of {d : D} (f : flatD d = true) : flatV (vOf d) = true := by cases d <;> first | rfl | cases f
theorem wr_strEq {i j : Str} (k : P (.bl (decide (i = j))) m) : WR K rEq (.str i) (.str j) m P := fun b H v w ok r1 r2 Q q => by
  cases r1
  cases r2
  refine ⟨rfl, ?_⟩
  have e : decide (V.str i = V.str j) = decide (i = j) := by
    by_cases h : i = j
    · subst h
      simp
    · simp [h]
  rw [e]
  exact q _ _ m H k (Step.refl _ _) ok (.bl _)
/-! deep == -/
mutual
def toPy : D → PyData
  | .non => .none
  | .bl x => .bool x
  | .int i => .int i
  | .str s => .str s
  | .ty n => .none
  | .ref a => .none
  | .tup ds => .tuple (toPys ds)
  | .lst ds => .list (toPys ds)
  | .flst ds => .list (toPys ds)
def toPys : List D → List PyData
  | [] => []
  | d :: ds => toPy d :: toPys ds
end
mutual
def pure : D → Bool
  | .ty _ => false
  | .ref _ => false
  | .tup ds => pures ds
  | .lst ds => pures ds
  | .flst ds => pures ds
  | _ => true
def pures : List D → Bool
  | [] => true
  | d :: ds => pure d && pures ds
end
mutual
theorem Rp.dp {m : Mem} {b : Blk} {H : Hp} : ∀ {v : V} {d : D}, Rp K m b H v d → pure d = true → Dp K H v (toPy d)
  | _, _, .non, _ => .non
  | _, _, .bl x, _ => .bl x
  | _, _, .int i, _ => .int i
  | _, _, .str x, _ => .str x
  | _, _, .ty n, h => nomatch h
  | _, _, .ref a, h => nomatch h
  | _, _, .tup (a := a) (xs := xs) (ds := ds) h hs, p => .tup (xs := xs) (h.elim (fun h => .inl h.1) fun h => h.sq) (Rps.dp hs p)
  | _, _, .lst (a := a) (xs := xs) (ds := ds) h hs, p => .lst (xs := xs) (.inl (.inl h.1)) (Rps.dp hs p)
  | _, _, .flst (a := a) (xs := xs) (ds := ds) h hs, p => .lst (xs := xs) (h.elim (fun h => .inl h.1) fun h => h.sq) (Rps.dp hs p)
theorem Rps.dp {m : Mem} {b : Blk} {H : Hp} : ∀ {v : List V} {d : List D}, Rps K m b H v d → pures d = true → DpAll K H v (toPys d)
  | _, _, .nil, _ => .nil
  | _, _, .cons (d := d) (ds := ds) h hs, p => .cons (Rp.dp h (by
      have q : (pure d && pures ds) = true := p
      rw [Bool.and_eq_true] at q
      exact q.1)) (Rps.dp hs (by
      have q : (pure d && pures ds) = true := p
      rw [Bool.and_eq_true] at q
      exact q.2))
end
/-- data that may be compared: no addresses, not too deep -/
def Cmp (d : D) : Prop := pure d = true ∧ SeqAt.shaped (toPy d) = true
theorem wr_eqD {x y : D} (h1 : Cmp x) (h2 : Cmp y) (k : P (.bl (PyData.eqv (toPy x) (toPy y))) m) : WR K (rEqD K) x y m P := fun b H v w ok r1 r2 Q q =>
  ⟨toPy x, toPy y, r1.dp h1.1, r2.dp h2.1, h1.2, h2.2, q _ _ m H k (Step.refl _ _) ok (.bl _)⟩
theorem wr_neD {x y : D} (h1 : Cmp x) (h2 : Cmp y) (k : P (.bl (!PyData.eqv (toPy x) (toPy y))) m) : WR K (rNeD K) x y m P := fun b H v w ok r1 r2 Q q =>
  ⟨toPy x, toPy y, r1.dp h1.1, r2.dp h2.1, h1.2, h2.2, q _ _ m H k (Step.refl _ _) ok (.bl _)⟩
/-- subscripts -/
theorem atI_map {xs : List V} {ds : List D} {b : Blk} {H : Hp} {i : Int} {d : D} (hs : Rps K m b H xs ds) (h : atI ds i = some d) : ∃ v, atI xs i = some v ∧ Rp K m b H v d := by
  unfold atI at h ⊢
  rw [hs.length]
  cases e : ixN ds.length i with
  | none => rw [e] at h; cases h
  | some j =>
    rw [e] at h
    have h : ds[j]? = some d := h
    obtain ⟨v, h1, h2⟩ := hs.get h
    exact ⟨v, h1, h2⟩
theorem wr_ixT {ds : List D} {i : Int} {d : D} (h : atI ds i = some d) (k : P d m) : WR K (rIx K) (.tup ds) (.int i) m P := fun b H v w ok r1 r2 Q q => by
  obtain ⟨a, xs, rfl, h1, h2⟩ := r1.tup_ref
  cases r2
  obtain ⟨z, h3, h4⟩ := atI_map h2 h
  exact .inr (.inl ⟨a, xs, i, z, rfl, rfl, h1, h3, q _ _ m H k (Step.refl _ _) ok h4⟩)
theorem wr_ixL {ds : List D} {i : Int} {d : D} (h : atI ds i = some d) (k : P d m) : WR K (rIx K) (.lst ds) (.int i) m P := fun b H v w ok r1 r2 Q q => by
  obtain ⟨a, xs, rfl, h1, h2⟩ := r1.lst_ref
  cases r2
  obtain ⟨z, h3, h4⟩ := atI_map h2 h
  exact .inl ⟨a, xs, i, z, rfl, rfl, h1, h3, q _ _ m H k (Step.refl _ _) ok h4⟩
theorem wr_ixF {ds : List D} {i : Int} {d : D} (h : atI ds i = some d) (k : P d m) : WR K (rIx K) (.flst ds) (.int i) m P := fun b H v w ok r1 r2 Q q => by
  obtain ⟨a, xs, rfl, h1, h2⟩ := r1.flst_ref
  cases r2
  obtain ⟨z, h3, h4⟩ := atI_map h2 h
  exact .inl ⟨a, xs, i, z, rfl, rfl, h1, h3, q _ _ m H k (Step.refl _ _) ok h4⟩
theorem wr_ixM {a : Addr} {ds : List D} {i : Int} {d : D} (hm : m a = some (.lst ds)) (h : atI ds i = some d) (k : P d m) : WR K (rIx K) (.ref a) (.int i) m P := fun b H v w ok r1 r2 Q q => by
  cases r1
  cases r2
  obtain ⟨xs, h1, h2⟩ := ok.has a _ hm
  obtain ⟨z, h3, h4⟩ := atI_map h2 h
  exact .inl ⟨a, xs, i, z, rfl, rfl, .inl (.inl h1), h3, q _ _ m H k (Step.refl _ _) ok h4⟩
theorem wr_ixS {z : Str} {i : Int} {c : Nat} (hz : z.length ≤ sizeLine) (h : atI z.cps.toList i = some c) (k : P (.str ⟨#[c]⟩) m) : WR K (rIx K) (.str z) (.int i) m P := fun b H v w ok r1 r2 Q q => by
  cases r1
  cases r2
  exact .inr (.inr ⟨z, i, c, rfl, rfl, hz, h, q _ _ m H k (Step.refl _ _) ok (.str _)⟩)
/-- in, not in, over flat data -/
def inD (x : D) (ds : List D) : Bool := inV (vOf x) (ds.map vOf)
theorem Rps.flat {b : Blk} {H : Hp} : ∀ {xs : List V} {ds : List D}, Rps K m b H xs ds → ds.all flatD = true → xs = ds.map vOf
  | _, _, .nil, _ => rfl
  | _, _, .cons h hs, f => by
    rw [List.all_cons, Bool.and_eq_true] at f
    rw [h.flat f.1, Rps.flat hs f.2]
    rfl
theorem all_flat {ds : List D} (h : ds.all flatD = true) : (ds.map vOf).all flatV = true := by
  rw [List.all_map]
  rw [List.all_eq_true] at h ⊢
  exact fun x hx => flatV_of (h x hx)
theorem wr_inT {neg : Bool} {x : D} {ds : List D} (hx : flatD x = true) (hd : ds.all flatD = true) (k : P (.bl (if neg then !inD x ds else inD x ds)) m) : WR K (rIn K neg) x (.tup ds) m P := fun b H v w ok r1 r2 Q q => by
  obtain ⟨a, xs, rfl, h1, h2⟩ := r2.tup_ref
  have e1 := r1.flat hx
  have e2 := h2.flat hd
  subst e1 e2
  exact ⟨a, _, rfl, .inr h1, flatV_of hx, all_flat hd, q _ _ m H k (Step.refl _ _) ok (.bl _)⟩
theorem wr_inL {neg : Bool} {x : D} {ds : List D} (hx : flatD x = true) (hd : ds.all flatD = true) (k : P (.bl (if neg then !inD x ds else inD x ds)) m) : WR K (rIn K neg) x (.lst ds) m P := fun b H v w ok r1 r2 Q q => by
  obtain ⟨a, xs, rfl, h1, h2⟩ := r2.lst_ref
  have e1 := r1.flat hx
  have e2 := h2.flat hd
  subst e1 e2
  exact ⟨a, _, rfl, .inl h1, flatV_of hx, all_flat hd, q _ _ m H k (Step.refl _ _) ok (.bl _)⟩
theorem wr_inT0 {x : D} {ds : List D} (hx : flatD x = true) (hd : ds.all flatD = true) (k : P (.bl (inD x ds)) m) : WR K (rIn K false) x (.tup ds) m P := wr_inT hx hd k
theorem wr_inT1 {x : D} {ds : List D} (hx : flatD x = true) (hd : ds.all flatD = true) (k : P (.bl (!inD x ds)) m) : WR K (rIn K true) x (.tup ds) m P := wr_inT hx hd k
theorem wr_inL0 {x : D} {ds : List D} (hx : flatD x = true) (hd : ds.all flatD = true) (k : P (.bl (inD x ds)) m) : WR K (rIn K false) x (.lst ds) m P := wr_inL hx hd k
theorem wr_inL1 {x : D} {ds : List D} (hx : flatD x = true) (hd : ds.all flatD = true) (k : P (.bl (!inD x ds)) m) : WR K (rIn K true) x (.lst ds) m P := wr_inL hx hd k
abbrev rAddStr : R2 := fun x y H Q => ∃ i j, x = .str i ∧ y = .str j ∧ i.length + j.length ≤ sizeLine ∧ Q (.str (i ++ j)) H
theorem wr_addStr {i j : Str} (hz : i.length + j.length ≤ sizeLine) (k : P (.str (i ++ j)) m) : WR K rAddStr (.str i) (.str j) m P := fun b H v w ok r1 r2 Q q => by
  cases r1
  cases r2
  exact ⟨i, j, rfl, rfl, hz, q _ _ m H k (Step.refl _ _) ok (.str _)⟩
abbrev rLtStr : R2 := fun x y H Q => ∃ i j, x = .str i ∧ y = .str j ∧ Q (.bl (decide (i.cps.toList < j.cps.toList))) H
theorem wr_ltStr {i j : Str} (k : P (.bl (decide (i.cps.toList < j.cps.toList))) m) : WR K rLtStr (.str i) (.str j) m P := fun b H v w ok r1 r2 Q q => by
  cases r1
  cases r2
  exact ⟨i, j, rfl, rfl, q _ _ m H k (Step.refl _ _) ok (.bl _)⟩
abbrev rIsNon : R2 := fun x y H Q => y = .non ∧ Q (.bl (decide (x = .non))) H
def isNonD : D → Bool
  | .non => true
  | _ => false
theorem wr_isNon {x : D} (k : P (.bl (isNonD x)) m) : WR K rIsNon x .non m P := fun b H v w ok r1 r2 Q q => by
  cases r2
  refine ⟨rfl, ?_⟩
  have e : decide (v = .non) = isNonD x := by cases r1 <;> rfl
  rw [e]
  exact q _ _ m H k (Step.refl _ _) ok (.bl _)
abbrev rNotNon : R2 := fun x y H Q => y = .non ∧ Q (.bl (!decide (x = .non))) H
theorem wr_notNon {x : D} (k : P (.bl (!isNonD x)) m) : WR K rNotNon x .non m P := fun b H v w ok r1 r2 Q q => by
  cases r2
  refine ⟨rfl, ?_⟩
  have e : decide (v = .non) = isNonD x := by cases r1 <;> rfl
  rw [e]
  exact q _ _ m H k (Step.refl _ _) ok (.bl _)
theorem wr_isB {x y : Bool} (k : P (.bl (decide (x = y))) m) : WR K rIsB (.bl x) (.bl y) m P := fun b H v w ok r1 r2 Q q => by
  cases r1
  cases r2
  exact ⟨x, y, rfl, rfl, q _ _ m H k (Step.refl _ _) ok (.bl _)⟩
theorem wr_notB {x y : Bool} (k : P (.bl (!decide (x = y))) m) : WR K rNotB (.bl x) (.bl y) m P := fun b H v w ok r1 r2 Q q => by
  cases r1
  cases r2
  exact ⟨x, y, rfl, rfl, q _ _ m H k (Step.refl _ _) ok (.bl _)⟩

/-! ### tests, and, or, not -/
variable {PT : Bool → Mem → Prop} {tt tu : TT}
theorem wt_test (h : W K te ρ m fun x m1 => ∃ c, x = .bl c ∧ PT c m1) : WT K (tTest te) ρ m PT := fun b σ H s ok Q q =>
  h b σ H s ok _ fun v d m1 H1 h1 st ok1 r => by
    obtain ⟨c, rfl, h2⟩ := h1
    cases r
    exact ⟨c, rfl, q c m1 H1 h2 st ok1⟩
theorem wt_B (h : W K te ρ m fun x m1 => ∃ c, x = .bl c ∧ PT c m1) : WT K (tB te) ρ m PT := wt_test h
theorem wt_and (h : WT K tt ρ m fun c m1 => if c = true then WT K tu ρ m1 PT else PT false m1) : WT K (tAnd tt tu) ρ m PT := fun b σ H s ok Q q =>
  h b σ H s ok _ fun c m1 H1 h1 st ok1 => by
    cases c with
    | true => exact h1 b σ H1 (s.step st fun _ z => z) ok1 Q fun c m2 H2 h2 st2 ok2 => q c m2 H2 h2 (st.trans st2) ok2
    | false => exact q false m1 H1 h1 st ok1
theorem wt_or (h : WT K tt ρ m fun c m1 => if c = true then PT true m1 else WT K tu ρ m1 PT) : WT K (tOr tt tu) ρ m PT := fun b σ H s ok Q q =>
  h b σ H s ok _ fun c m1 H1 h1 st ok1 => by
    cases c with
    | false => exact h1 b σ H1 (s.step st fun _ z => z) ok1 Q fun c m2 H2 h2 st2 ok2 => q c m2 H2 h2 (st.trans st2) ok2
    | true => exact q true m1 H1 h1 st ok1
theorem wt_not (h : WT K tt ρ m fun c m1 => PT (!c) m1) : WT K (tNot tt) ρ m PT := fun b σ H s ok Q q =>
  h b σ H s ok _ fun c m1 H1 h1 st ok1 => q _ m1 H1 h1 st ok1
theorem wt_yes (h : PT true m) : WT K tYes ρ m PT := fun b σ H s ok Q q => q true m H h (Step.refl _ _) ok
theorem w_and (h : W K ta ρ m fun x m1 => ∃ c, x = .bl c ∧ if c = true then W K tb ρ m1 P else P (.bl false) m1) : W K (tAndV ta tb) ρ m P := fun b σ H s ok Q q =>
  h b σ H s ok _ fun v d m1 H1 h1 st ok1 r => by
    obtain ⟨c, rfl, h2⟩ := h1
    cases r
    refine ⟨c, rfl, ?_⟩
    cases c with
    | true => exact h2 b σ H1 (s.step st fun _ z => z) ok1 Q fun v c m2 H2 h2 st2 ok2 => q v c m2 H2 h2 (st.trans st2) ok2
    | false => exact q _ _ m1 H1 h2 st ok1 (.bl _)
theorem w_or (h : W K ta ρ m fun x m1 => ∃ c, x = .bl c ∧ if c = true then P (.bl true) m1 else W K tb ρ m1 P) : W K (tOrV ta tb) ρ m P := fun b σ H s ok Q q =>
  h b σ H s ok _ fun v d m1 H1 h1 st ok1 r => by
    obtain ⟨c, rfl, h2⟩ := h1
    cases r
    refine ⟨c, rfl, ?_⟩
    cases c with
    | false => exact h2 b σ H1 (s.step st fun _ z => z) ok1 Q fun v c m2 H2 h2 st2 ok2 => q v c m2 H2 h2 (st.trans st2) ok2
    | true => exact q _ _ m1 H1 h2 st ok1 (.bl _)
theorem w_not (h : W K ta ρ m fun x m1 => ∃ c, x = .bl c ∧ P (.bl (!c)) m1) : W K (tNotV ta) ρ m P := fun b σ H s ok Q q =>
  h b σ H s ok _ fun v d m1 H1 h1 st ok1 r => by
    obtain ⟨c, rfl, h2⟩ := h1
    cases r
    exact ⟨c, rfl, q _ _ m1 H1 h2 st ok1 (.bl _)⟩
theorem w_if (h : WT K tt ρ m fun c m1 => if c = true then W K ta ρ m1 P else W K tb ρ m1 P) : W K (tIf tt ta tb) ρ m P := fun b σ H s ok Q q =>
  h b σ H s ok _ fun c m1 H1 h1 st ok1 => by
    cases c with
    | true => exact h1 b σ H1 (s.step st fun _ z => z) ok1 Q fun v c m2 H2 h2 st2 ok2 => q v c m2 H2 h2 (st.trans st2) ok2
    | false => exact h1 b σ H1 (s.step st fun _ z => z) ok1 Q fun v c m2 H2 h2 st2 ok2 => q v c m2 H2 h2 (st.trans st2) ok2

/-! ### arguments, displays -/
variable {PA : List D → Mem → Prop} {tr : TA}
theorem wa_nil (h : PA [] m) : WA K tNil ρ m PA := fun b σ H s ok Q q => q [] [] m H h (Step.refl _ _) ok .nil
theorem wa_cons (h : W K ta ρ m fun x m1 => WA K tr ρ m1 fun xs m2 => PA (x :: xs) m2) : WA K (tCons ta tr) ρ m PA := fun b σ H s ok Q q =>
  h b σ H s ok _ fun v x m1 H1 h1 st1 ok1 r1 => h1 b σ H1 (s.step st1 fun _ z => z) ok1 _ fun vs xs m2 H2 h2 st2 ok2 r2 =>
    q (v :: vs) (x :: xs) m2 H2 h2 (st1.trans st2) ok2 (.cons (r1.step st2 fun _ z => z) r2)
theorem w_tup (h : WA K tr ρ m fun xs m1 => xs.length ≤ sizeLine ∧ P (.tup xs) m1) : W K (tTup tr) ρ m P := fun b σ H s ok Q q =>
  h b σ H s ok _ fun vs xs m1 H1 h1 st1 ok1 r1 => by
    refine ⟨by rw [r1.length]; exact h1.1, fun p hp => ?_⟩
    have st2 : Step m1 H1 m1 (upd H1 p (.tup vs)) := step_new hp
    exact q _ _ m1 _ h1.2 (st1.trans st2) (ok1.new hp) (.tup (.inl ⟨.inl upd_same, ok1.fresh hp⟩) (r1.step st2 fun _ z => z))
theorem w_lst (h : WA K tr ρ m fun xs m1 => xs.length ≤ sizeLine ∧ P (.lst xs) m1) : W K (tLst tr) ρ m P := fun b σ H s ok Q q =>
  h b σ H s ok _ fun vs xs m1 H1 h1 st1 ok1 r1 => by
    refine ⟨by rw [r1.length]; exact h1.1, fun p hp => ?_⟩
    have st2 : Step m1 H1 m1 (upd H1 p (.lst vs)) := step_new hp
    exact q _ _ m1 _ h1.2 (st1.trans st2) (ok1.new hp) (.lst ⟨upd_same, ok1.fresh hp⟩ (r1.step st2 fun _ z => z))
/-- the new list is to change -/
theorem w_lstM (h : WA K tr ρ m fun xs m1 => xs.length ≤ sizeLine ∧ ∀ p, m1 p = none → P (.ref p) (m1.set p (.lst xs))) : W K (tLst tr) ρ m P := fun b σ H s ok Q q =>
  h b σ H s ok _ fun vs xs m1 H1 h1 st1 ok1 r1 => by
    refine ⟨by rw [r1.length]; exact h1.1, fun p hp => ?_⟩
    have st2 : Step m1 H1 (m1.set p (.lst xs)) (upd H1 p (.lst vs)) := step_make hp
    exact q _ _ _ _ (h1.2 p (ok1.fresh hp).1) (st1.trans st2) (ok1.make hp ⟨vs, upd_same, r1.step st2 fun _ z => z⟩) (.ref p)

/-! ### calls of built-ins -/
theorem w_cb {r : List V → Hp → VK → Prop} (h : WA K tr ρ m fun xs m1 => WC K r xs m1 P) : W K (tCB r tr) ρ m P := fun b σ H s ok Q q =>
  h b σ H s ok _ fun vs xs m1 H1 h1 st1 ok1 r1 => h1 b H1 vs ok1 r1 Q fun v d m2 H2 h2 st2 ok2 r2 => q v d m2 H2 h2 (st1.trans st2) ok2 r2
abbrev rLenA (K : PySem.W.Frag) : List V → Hp → VK → Prop := fun xs H Q => ∃ x n, xs = [x] ∧ LenV K x H n ∧ Q (.int n) H
theorem wc_lenT {ds : List D} (k : P (.int ds.length) m) : WC K (rLenA K) [.tup ds] m P := fun b H vs ok r Q q => by
  cases r with
  | cons r1 r2 =>
    cases r2
    obtain ⟨a, xs, rfl, h1, h2⟩ := r1.tup_ref
    refine ⟨_, ds.length, rfl, .inr ⟨xs, h1, h2.length.symm⟩, q _ _ m H k (Step.refl _ _) ok (.int _)⟩
theorem wc_lenL {ds : List D} (k : P (.int ds.length) m) : WC K (rLenA K) [.lst ds] m P := fun b H vs ok r Q q => by
  cases r with
  | cons r1 r2 =>
    cases r2
    obtain ⟨a, xs, rfl, h1, h2⟩ := r1.lst_ref
    refine ⟨_, ds.length, rfl, .inl ⟨xs, h1, h2.length.symm⟩, q _ _ m H k (Step.refl _ _) ok (.int _)⟩
theorem wc_lenF {ds : List D} (k : P (.int ds.length) m) : WC K (rLenA K) [.flst ds] m P := fun b H vs ok r Q q => by
  cases r with
  | cons r1 r2 =>
    cases r2
    obtain ⟨a, xs, rfl, h1, h2⟩ := r1.flst_ref
    refine ⟨_, ds.length, rfl, .inl ⟨xs, h1, h2.length.symm⟩, q _ _ m H k (Step.refl _ _) ok (.int _)⟩
theorem wc_lenS {z : Str} (hz : z.length ≤ sizeLine) (k : P (.int z.length) m) : WC K (rLenA K) [.str z] m P := fun b H vs ok r Q q => by
  cases r with
  | cons r1 r2 =>
    cases r2
    cases r1
    exact ⟨_, z.length, rfl, ⟨hz, rfl⟩, q _ _ m H k (Step.refl _ _) ok (.int _)⟩
abbrev rInt1 : List V → Hp → VK → Prop := fun xs H Q => (∃ i, xs = [.int i] ∧ Q (.int i) H) ∨ ∃ k, xs = [.bl k] ∧ Q (.int (if k then 1 else 0)) H
theorem wc_int {i : Int} (k : P (.int i) m) : WC K rInt1 [.int i] m P := fun b H vs ok r Q q => by
  cases r with
  | cons r1 r2 =>
    cases r2
    cases r1
    exact .inl ⟨i, rfl, q _ _ m H k (Step.refl _ _) ok (.int _)⟩
theorem wc_intB {i : Bool} (k : P (.int (if i then 1 else 0)) m) : WC K rInt1 [.bl i] m P := fun b H vs ok r Q q => by
  cases r with
  | cons r1 r2 =>
    cases r2
    cases r1
    exact .inr ⟨i, rfl, q _ _ m H k (Step.refl _ _) ok (.int _)⟩
abbrev rTupleOf (K : PySem.W.Frag) : List V → Hp → VK → Prop := fun xs H Q => ∃ p ys, xs = [.ref p] ∧ ((SqL K H p ys ∧ ∀ l, H l = none → Q (.ref l) (upd H l (.tup ys))) ∨ (SqT K H p ys ∧ Q (.ref p) H))
theorem wc_tupleL {ds : List D} (k : P (.tup ds) m) : WC K (rTupleOf K) [.lst ds] m P := fun b H vs ok r Q q => by
  cases r with
  | cons r1 r2 =>
    cases r2
    obtain ⟨a, xs, rfl, h1, h2⟩ := r1.lst_ref
    refine ⟨a, xs, rfl, .inl ⟨h1, fun l hl => ?_⟩⟩
    have st : Step m H m (upd H l (.tup xs)) := step_new hl
    exact q _ _ m _ k st (ok.new hl) (.tup (.inl ⟨.inl upd_same, ok.fresh hl⟩) (h2.step st fun _ z => z))
theorem wc_tupleT {ds : List D} (k : P (.tup ds) m) : WC K (rTupleOf K) [.tup ds] m P := fun b H vs ok r Q q => by
  cases r with
  | cons r1 r2 =>
    cases r2
    have r1' := r1
    obtain ⟨a, xs, rfl, h1, h2⟩ := r1.tup_ref
    exact ⟨a, xs, rfl, .inr ⟨h1, q _ _ m _ k (Step.refl _ _) ok r1'⟩⟩
abbrev rListOf (K : PySem.W.Frag) : List V → Hp → VK → Prop := fun xs H Q => ∃ p ys, xs = [.ref p] ∧ (SqL K H p ys ∨ SqT K H p ys) ∧ ∀ l, H l = none → Q (.ref l) (upd H l (.lst ys))
theorem wc_listT {ds : List D} (k : P (.lst ds) m) : WC K (rListOf K) [.tup ds] m P := fun b H vs ok r Q q => by
  cases r with
  | cons r1 r2 =>
    cases r2
    obtain ⟨a, xs, rfl, h1, h2⟩ := r1.tup_ref
    refine ⟨a, xs, rfl, .inr h1, fun l hl => ?_⟩
    have st : Step m H m (upd H l (.lst xs)) := step_new hl
    exact q _ _ m _ k st (ok.new hl) (.lst ⟨upd_same, ok.fresh hl⟩ (h2.step st fun _ z => z))
theorem wc_all {bs : List Bool} (k : P (.bl (bs.all id)) m) : WC K (rAll K) [.lst (bs.map D.bl)] m P := fun b H vs ok r Q q => by
  cases r with
  | cons r1 r2 =>
    cases r2
    obtain ⟨a, xs, rfl, h1, h2⟩ := r1.lst_ref
    have e := h2.bls_inv
    subst e
    exact ⟨a, bs, rfl, h1, q _ _ m _ k (Step.refl _ _) ok (.bl _)⟩
/-- xs + ys, lists -/
theorem wr_cat {ds es : List D} (hz : ds.length + es.length ≤ sizeLine) (k : P (.lst (ds ++ es)) m) : WR K rCat (.lst ds) (.lst es) m P := fun b H v w ok r1 r2 Q q => by
  obtain ⟨a1, x1, rfl, h1, _, _, q1⟩ := r1.lst_at
  obtain ⟨a2, x2, rfl, h2, _, _, q2⟩ := r2.lst_at
  refine ⟨a1, a2, x1, x2, rfl, rfl, h1, h2, by rw [q1.length, q2.length]; exact hz, fun p hp => ?_⟩
  have st : Step m H m (upd H p (.lst (x1 ++ x2))) := step_new hp
  exact q _ _ m _ k st (ok.new hp) (.lst ⟨upd_same, ok.fresh hp⟩ ((q1.append q2).step st fun _ z => z))

/-! ### isinstance -/
def tyD : D → String
  | .non => "NoneType"
  | .bl _ => "bool"
  | .int _ => "int"
  | .str _ => "str"
  | .tup _ => "tuple"
  | .lst _ => "list"
  | .flst _ => "list"
  | .ty _ => "type"
  | .ref _ => "?"
theorem Rp.tyX {b : Blk} {H : Hp} {v : V} {d : D} (h : Rp K m b H v d) (hp : pure d = true) : TyX K H v (.type (tyD d)) := by
  cases h with
  | non => exact .base .non
  | bl x => exact .base (.bl x)
  | int i => exact .base (.int i)
  | str x => exact .base (.str x)
  | ty n => cases hp
  | ref a => cases hp
  | tup h hs =>
    rcases h with ⟨h | ⟨o, h⟩, _⟩ | h
    · exact .base (.tup h)
    · exact .fTuple h
    · rcases h with (h | ⟨o, h⟩) | ⟨o, its, n, h1, h2, _⟩
      · cases h
      · cases h
      · exact .kTuple h1 h2
  | lst h hs => exact .base (.lst h.1)
  | flst h hs =>
    rcases h with ⟨h | ⟨o, h⟩, _⟩ | h
    · exact .base (.lst h)
    · exact .base (.frz h)
    · rcases h with (h | ⟨o, h⟩) | ⟨o, its, n, h1, h2, _⟩
      · cases h
      · cases h
      · exact .kList h1 h2
theorem wc_isi {d : D} {t : String} {r : Bool} (hp : pure d = true) (h : kitB (tyD d) t = some r) (k : P (.bl r) m) : WC K (rIsi K) [d, .ty t] m P := fun b H vs ok rr Q q => by
  cases rr with
  | cons r1 r2 =>
    cases r2 with
    | cons r2 r3 =>
      cases r3
      cases r2
      exact ⟨_, _, _, _, r, rfl, .ty t, r1.tyX hp, kit_ty h, q _ _ m H k (Step.refl _ _) ok (.bl _)⟩
end
end DL
end
section
set_option Elab.async false
set_option linter.all false
set_option maxRecDepth 100000
set_option maxHeartbeats 2000000
namespace DL
open PySem PySem.Spec PyProof.Rows L2
section
variable {K : PySem.W.Frag} {ρ : Env} {m : Mem} {P : D → Mem → Prop} {ta tb te : TE} {x y d : D} {PO : Option Int → Mem → Prop}
/-! ### slices -/
def WO (K : PySem.W.Frag) (to : TO) (ρ : Env) (m : Mem) (P : Option Int → Mem → Prop) : Prop :=
  ∀ (b : Blk) (σ : L2.St) (H : Hp), Sl K m b H σ ρ → Ok K m b H → ∀ Q : Option Int → Hp → Prop, (∀ c m' H', P c m' → Step m H m' H' → Ok K m' b H' → Q c H') → to σ H Q
theorem wo_none (k : PO none m) : WO K tNoPart ρ m PO := fun b σ H s ok Q q => q none m H k (Step.refl _ _) ok
theorem wo_some (h : W K te ρ m fun d m1 => ∃ i, d = .int i ∧ PO (some i) m1) : WO K (tPart te) ρ m PO := fun b σ H s ok Q q =>
  h b σ H s ok _ fun v d m1 H1 h1 st ok1 r => by
    obtain ⟨i, rfl, h2⟩ := h1
    cases r
    exact ⟨i, rfl, q _ m1 H1 h2 st ok1⟩
def WSl (K : PySem.W.Frag) (r : V → Option Int → Option Int → Hp → VK → Prop) (x : D) (lo hi : Option Int) (m : Mem) (P : D → Mem → Prop) : Prop :=
  ∀ (b : Blk) (H : Hp) (v : V), Ok K m b H → Rp K m b H v x → ∀ Q : VK, (∀ v d m' H', P d m' → Step m H m' H' → Ok K m' b H' → Rp K m' b H' v d → Q v H') → r v lo hi H Q
theorem w_sl {r : V → Option Int → Option Int → Hp → VK → Prop} {tl th : TO} (h : W K te ρ m fun x m1 => WO K tl ρ m1 fun lo m2 => WO K th ρ m2 fun hi m3 => WSl K r x lo hi m3 P) : W K (tSl r te tl th) ρ m P := fun b σ H s ok Q q =>
  h b σ H s ok _ fun v x m1 H1 h1 st1 ok1 r1 => h1 b σ H1 (s.step st1 fun _ z => z) ok1 _ fun lo m2 H2 h2 st2 ok2 => h2 b σ H2 (s.step (st1.trans st2) fun _ z => z) ok2 _ fun hi m3 H3 h3 st3 ok3 =>
    h3 b H3 v ok3 (r1.step (st2.trans st3) fun _ z => z) Q fun u d m4 H4 h4 st4 ok4 r4 => q u d m4 H4 h4 (((st1.trans st2).trans st3).trans st4) ok4 r4
def cutD (xs : List D) (lo hi : Option Int) : List D := (xs.drop (HT.sIx xs.length 0 lo)).take (HT.sIx xs.length xs.length hi - HT.sIx xs.length 0 lo)
theorem cut_rps {b : Blk} {H : Hp} {xs : List V} {ds : List D} {lo hi : Option Int} (h : Rps K m b H xs ds) : Rps K m b H (cutV xs lo hi) (cutD ds lo hi) := by
  unfold cutV cutD
  rw [h.length]
  exact (h.drop _).take _
theorem wsl_tup {ds : List D} {lo hi : Option Int} (k : P (.tup (cutD ds lo hi)) m) : WSl K (rSlA K) (.tup ds) lo hi m P := fun b H v ok r Q q => by
  have r0 := r
  obtain ⟨a, xs, rfl, h1, h2⟩ := r.tup_ref
  refine ⟨a, xs, rfl, h1, fun hw => ?_, fun _ p hp => ?_⟩
  · have e : cutD ds lo hi = ds := by
      unfold cutD
      rw [← h2.length, hw.1, hw.2, List.drop_zero, Nat.sub_zero, h2.length, List.take_length]
    rw [e] at k
    exact q _ _ m H k (Step.refl _ _) ok r0
  · have st : Step m H m (upd H p (.tup (cutV xs lo hi))) := step_new hp
    exact q _ _ m _ k st (ok.new hp) (.tup (.inl ⟨.inl upd_same, ok.fresh hp⟩) ((cut_rps h2).step st fun _ z => z))
theorem wsl_lst {ds : List D} {lo hi : Option Int} (k : P (.lst (cutD ds lo hi)) m) : WSl K (rSlL K) (.lst ds) lo hi m P := fun b H v ok r Q q => by
  obtain ⟨a, xs, rfl, h1, h2⟩ := r.lst_ref
  refine ⟨a, xs, rfl, h1, fun p hp => ?_⟩
  have st : Step m H m (upd H p (.lst (cutV xs lo hi))) := step_new hp
  exact q _ _ m _ k st (ok.new hp) (.lst ⟨upd_same, ok.fresh hp⟩ ((cut_rps h2).step st fun _ z => z))

/-! ### statements -/
variable {N : Env → Mem → Prop} {R : D → Mem → Prop} {B C : Env → Mem → Prop} {t u : TS} {tt : TT} {tr : TA}
theorem ws_next (h : N ρ m) : WS K tNext ρ m N R B C := fun b σ H s ok E e => e.nx σ ρ m H h (Step.refl _ _) ok s
theorem WE.mono {b : Blk} {H : Hp} {m' : Mem} {H' : Hp} {E : Ends} (e : WE K N R B C b m H E) (st : Step m H m' H') : WE K N R B C b m' H' E :=
  ⟨fun σ' ρ' m2 H2 h st2 => e.nx σ' ρ' m2 H2 h (st.trans st2), fun v d m2 H2 h st2 => e.rt v d m2 H2 h (st.trans st2), fun σ' ρ' m2 H2 h st2 => e.bk σ' ρ' m2 H2 h (st.trans st2), fun σ' ρ' m2 H2 h st2 => e.ct σ' ρ' m2 H2 h (st.trans st2)⟩
theorem ws_seq (h : WS K t ρ m (fun ρ1 m1 => WS K u ρ1 m1 N R B C) R B C) : WS K (tSeq t u) ρ m N R B C := fun b σ H s ok E e =>
  h b σ H s ok _ ⟨fun σ' ρ' m' H' h' st ok' s' => h' b σ' H' s' ok' E (e.mono st), e.rt, e.bk, e.ct⟩
theorem ws_if (h : WT K tt ρ m fun c m1 => if c = true then WS K t ρ m1 N R B C else WS K u ρ m1 N R B C) : WS K (tIfS tt t u) ρ m N R B C := fun b σ H s ok E e =>
  h b σ H s ok _ fun c m1 H1 h1 st ok1 => by
    cases c with
    | true => exact h1 b σ H1 (s.step st fun _ z => z) ok1 E (e.mono st)
    | false => exact h1 b σ H1 (s.step st fun _ z => z) ok1 E (e.mono st)
theorem ws_ret (h : W K te ρ m R) : WS K (tRet te) ρ m N R B C := fun b σ H s ok E e => h b σ H s ok _ e.rt
theorem ws_drop (h : W K te ρ m fun _ m1 => N ρ m1) : WS K (tDrop te) ρ m N R B C := fun b σ H s ok E e =>
  h b σ H s ok _ fun v d m1 H1 h1 st ok1 _ => e.nx σ ρ m1 H1 h1 st ok1 (s.step st fun _ z => z)
theorem ws_set {i : Nat} (h : W K te ρ m fun d m1 => N (ρ.set i (some d)) m1) : WS K (tAsg te (gName i)) ρ m N R B C := fun b σ H s ok E e =>
  h b σ H s ok _ fun v d m1 H1 h1 st ok1 r => e.nx _ _ m1 H1 h1 st ok1 ((s.step st fun _ z => z).set i r)
theorem ws_par {i j : Nat} (h : WA K tr ρ m fun ds m1 => ∃ d1 d2, ds = [d1, d2] ∧ N ((ρ.set i (some d1)).set j (some d2)) m1) : WS K (tPar i j tr) ρ m N R B C := fun b σ H s ok E e =>
  h b σ H s ok _ fun vs ds m1 H1 h1 st ok1 r => by
    obtain ⟨d1, d2, rfl, h2⟩ := h1
    cases r with
    | cons r1 r2 =>
      cases r2 with
      | cons r2 r3 =>
        cases r3
        exact ⟨_, _, rfl, e.nx _ _ m1 H1 h2 st ok1 (((s.step st fun _ z => z).set i r1).set j r2)⟩
theorem ws_tup2 {i j n : Nat} (hn : n = 2) (h : W K te ρ m fun d m1 => ∃ d1 d2, d = .tup [d1, d2] ∧ N ((ρ.set i (some d1)).set j (some d2)) m1) : WS K (tAsg te (gTup K n (gCons (gName i) (gCons (gName j) gNil)))) ρ m N R B C := fun b σ H s ok E e =>
  h b σ H s ok _ fun v d m1 H1 h1 st ok1 r => by
    obtain ⟨d1, d2, rfl, h2⟩ := h1
    obtain ⟨a, xs, rfl, q1, q2⟩ := r.tup_ref
    cases q2 with
    | cons r1 r2 =>
      cases r2 with
      | cons r2 r3 =>
        cases r3
        exact ⟨a, _, rfl, q1, hn.symm, _, _, rfl, _, _, rfl, rfl, e.nx _ _ m1 H1 h2 st ok1 (((s.step st fun _ z => z).set i r1).set j r2)⟩
/-- row[k] = e -/
theorem ws_sub {to ti : TE} (h : W K te ρ m fun d m1 => W K to ρ m1 fun o m2 => W K ti ρ m2 fun i m3 => ∃ a k j ds, o = .ref a ∧ i = .int k ∧ m3 a = some (.lst ds) ∧ ixN ds.length k = some j ∧ N ρ (m3.set a (.lst (ds.set j d)))) :
    WS K (tAsg te (gSub to ti rSetL)) ρ m N R B C := fun b σ H s ok E e =>
  h b σ H s ok _ fun v d m1 H1 h1 st1 ok1 r1 => h1 b σ H1 (s.step st1 fun _ z => z) ok1 _ fun vo o m2 H2 h2 st2 ok2 r2 => h2 b σ H2 (s.step (st1.trans st2) fun _ z => z) ok2 _ fun vi i m3 H3 h3 st3 ok3 r3 => by
    obtain ⟨a, k, j, ds, rfl, rfl, hm, hj, h4⟩ := h3
    cases r2
    cases r3
    obtain ⟨xs, q1, q2⟩ := ok3.has a _ hm
    have r1' := r1.step (st2.trans st3) fun _ z => z
    have st4 : Step m3 H3 (m3.set a (.lst (ds.set j d))) (upd H3 a (.lst (xs.set j v))) := step_set hm
    refine ⟨a, xs, k, j, rfl, rfl, q1, by rw [q2.length]; exact hj, e.nx σ ρ _ _ h4 (((st1.trans st2).trans st3).trans st4) (ok3.set hm ⟨_, upd_same, (q2.set r1' j).step st4 fun _ z => z⟩) (s.step (((st1.trans st2).trans st3).trans st4) fun _ z => z)⟩
/-- for x in range(n) -/
theorem ws_forR {j : Nat} (Iv : Nat → Env → Mem → Prop)
    (h : WA K tr ρ m fun ds m1 => ∃ n : Nat, ds = [.int n] ∧ n ≤ 1000000 ∧ Iv 0 ρ m1 ∧ (∀ i ρ' m', i < n → Iv i ρ' m' → WS K t (ρ'.set j (some (.int (i : Int)))) m' (Iv (i + 1)) R N (Iv (i + 1))) ∧ ∀ ρ' m', Iv n ρ' m' → N ρ' m') :
    WS K (tFor (iRng1 tr) (gName j) t) ρ m N R B C := fun b σ H s ok E e =>
  h b σ H s ok _ fun vs ds m1 H1 h1 st1 ok1 r => by
    obtain ⟨n, rfl, hn, h0, hs, hd⟩ := h1
    cases r with
    | cons r1 r2 =>
      cases r2
      cases r1
      refine ⟨n, rfl, by omega, by omega, ?_⟩
      rw [Int.toNat_natCast]
      refine for_range (lo := 0) (n := n) (fun i σ' H' => ∃ ρ' m', Iv i ρ' m' ∧ Step m H m' H' ∧ Ok K m' b H' ∧ Sl K m' b H' σ' ρ') ⟨ρ, m1, h0, st1, ok1, s.step st1 fun _ z => z⟩ (fun i σ' H' hi ⟨ρ', m', iv, st', ok', s'⟩ => ?_) (fun σ' H' ⟨ρ', m', iv, st', ok', s'⟩ => ?_)
      · have e0 : (0 : Int) + (i : Int) = (i : Int) := Int.zero_add _
        show t _ (σ'.set j (some (.int ((0 : Int) + (i : Int))))) H'
        rw [e0]
        refine hs i ρ' m' hi iv b _ H' (s'.set j (.int _)) ok' _ ⟨fun σ2 ρ2 m2 H2 h2 st2 ok2 s2 => ⟨ρ2, m2, h2, st'.trans st2, ok2, s2⟩, fun v d m2 H2 h2 st2 => e.rt v d m2 H2 h2 (st'.trans st2), fun σ2 ρ2 m2 H2 h2 st2 => e.nx σ2 ρ2 m2 H2 h2 (st'.trans st2), fun σ2 ρ2 m2 H2 h2 st2 ok2 s2 => ⟨ρ2, m2, h2, st'.trans st2, ok2, s2⟩⟩
      · exact e.nx σ' ρ' m' H' (hd ρ' m' iv) st' ok' s'

/-! ### comprehensions -/
section
variable {j : Nat} {vs : List Nat} {Dl : Addr} {b : Blk}
/-- the turns' word -/
def LcP (K : PySem.W.Frag) (b : Blk) (Iv : Nat → Mem → List D → Prop) (m1 : Mem) (H1 : Hp) (Dl : Addr) (i : Nat) (H' : Hp) : Prop :=
  ∃ m' acc vacc, Iv i m' acc ∧ acc.length ≤ i ∧ Step m1 H1 m' H' ∧ Ok K m' (fun a => b a ∨ a = Dl) H' ∧ H' Dl = some (.lst vacc) ∧ Rps K m' (fun a => b a ∨ a = Dl) H' vacc acc
theorem blk_upd {m : Mem} {H : Hp} {vacc : List V} (hD : H Dl = some (.lst vacc)) (ok : Ok K m (fun a => b a ∨ a = Dl) H) (vs' : List V) : Ok K m (fun a => b a ∨ a = Dl) (upd H Dl (.lst vs')) ∧ ∀ v d, Rp K m (fun a => b a ∨ a = Dl) H v d → Rp K m (fun a => b a ∨ a = Dl) (upd H Dl (.lst vs')) v d := by
  -- the memory in which Dl stands as a changing object
  have hm : m Dl = none := (ok.blk Dl (.inr rfl)).1
  have key : (∀ v d, Rp K m (fun a => b a ∨ a = Dl) H v d → Rp K m (fun a => b a ∨ a = Dl) (upd H Dl (.lst vs')) v d) ∧ ∀ xs ds, Rps K m (fun a => b a ∨ a = Dl) H xs ds → Rps K m (fun a => b a ∨ a = Dl) (upd H Dl (.lst vs')) xs ds := by
    refine ⟨fun v d h => ?_, fun xs ds h => ?_⟩
    · refine Rp.rec (motive_1 := fun v d _ => Rp K m (fun a => b a ∨ a = Dl) (upd H Dl (.lst vs')) v d) (motive_2 := fun xs ds _ => Rps K m (fun a => b a ∨ a = Dl) (upd H Dl (.lst vs')) xs ds) .non .bl .int .str .ty .ref (fun {a xs ds} h _ ih => ?_) (fun {a xs ds} h _ ih => ?_) (fun {a xs ds} h _ ih => ?_) .nil (fun _ _ ih1 ih2 => .cons ih1 ih2) h
      · refine .tup (h.imp (fun q => ⟨?_, q.2⟩) id) ih
        have ne : a ≠ Dl := fun z => q.2.2 (.inr z)
        exact q.1.imp (fun z => (upd_ne ne).trans z) fun ⟨o, z⟩ => ⟨o, (upd_ne ne).trans z⟩
      · have ne : a ≠ Dl := fun z => h.2.2 (.inr z)
        exact .lst ⟨(upd_ne ne).trans h.1, h.2⟩ ih
      · refine .flst (h.imp (fun q => ⟨?_, q.2⟩) id) ih
        have ne : a ≠ Dl := fun z => q.2.2 (.inr z)
        exact q.1.imp (fun z => (upd_ne ne).trans z) fun ⟨o, z⟩ => ⟨o, (upd_ne ne).trans z⟩
    · refine Rps.rec (motive_1 := fun v d _ => Rp K m (fun a => b a ∨ a = Dl) (upd H Dl (.lst vs')) v d) (motive_2 := fun xs ds _ => Rps K m (fun a => b a ∨ a = Dl) (upd H Dl (.lst vs')) xs ds) .non .bl .int .str .ty .ref (fun {a xs ds} h _ ih => ?_) (fun {a xs ds} h _ ih => ?_) (fun {a xs ds} h _ ih => ?_) .nil (fun _ _ ih1 ih2 => .cons ih1 ih2) h
      · refine .tup (h.imp (fun q => ⟨?_, q.2⟩) id) ih
        have ne : a ≠ Dl := fun z => q.2.2 (.inr z)
        exact q.1.imp (fun z => (upd_ne ne).trans z) fun ⟨o, z⟩ => ⟨o, (upd_ne ne).trans z⟩
      · have ne : a ≠ Dl := fun z => h.2.2 (.inr z)
        exact .lst ⟨(upd_ne ne).trans h.1, h.2⟩ ih
      · refine .flst (h.imp (fun q => ⟨?_, q.2⟩) id) ih
        have ne : a ≠ Dl := fun z => q.2.2 (.inr z)
        exact q.1.imp (fun z => (upd_ne ne).trans z) fun ⟨o, z⟩ => ⟨o, (upd_ne ne).trans z⟩
  refine ⟨⟨fun a o' e => ?_, fun a ha => ⟨(ok.blk a ha).1, ?_⟩⟩, key.1⟩
  · have ne : a ≠ Dl := fun z => by
      rw [z, hm] at e
      cases e
    have h := ok.has a o' e
    cases o' with
    | lst ds =>
      obtain ⟨xs, q, r⟩ := h
      exact ⟨xs, (upd_ne ne).trans q, key.2 _ _ r⟩
    | dk ds =>
      obtain ⟨xs, q, r⟩ := h
      exact ⟨xs, (upd_ne ne).trans q, r.1, key.2 _ _ r.2⟩
    | ins C ds =>
      obtain ⟨dx, xs, q, r⟩ := h
      exact ⟨dx, xs, (upd_ne ne).trans q, r.1, key.2 _ _ r.2⟩
    | raw o => exact (upd_ne ne).trans h
    | tab =>
      obtain ⟨ps, q, r⟩ := h
      exact ⟨ps, (upd_ne ne).trans q, r⟩
    | tabN nm =>
      obtain ⟨ps, q, r, s⟩ := h
      refine ⟨ps, (upd_ne ne).trans q, r, fun pos cv hc => ?_⟩
      obtain ⟨c, h1, h2, h3⟩ := s pos cv hc
      refine ⟨c, h1, (upd_ne fun z => ?_).trans h2, h3⟩
      rw [z, hD] at h2
      unfold LamX.CodeO at h2
      cases h2
    | fn F =>
      obtain ⟨q, ⟨h2, h3⟩, q4⟩ := h
      refine ⟨(upd_ne ne).trans q, ⟨(upd_ne fun z => ?_).trans h2, h3⟩, q4.imp id fun ⟨d, a1, a2, a3⟩ => ⟨d, a1, (upd_ne fun z => ?_).trans a2, a3⟩⟩
      · rw [z, hD] at h2
        unfold LamX.CodeO at h2
        cases h2
      · rw [z, hD] at a2
        cases a2
  · by_cases ne : a = Dl
    · rw [ne, upd_same]
      exact fun z => nomatch z
    · rw [upd_ne ne]
      exact (ok.blk a ha).2
theorem Sl.blk {m : Mem} {H : Hp} {σ : L2.St} {ρ : Env} {m' : Mem} {H' : Hp} (s : Sl K m b H σ ρ) (hD : H Dl = none) (st : Step m H m' H') : Sl K m' (fun a => b a ∨ a = Dl) H' σ ρ := by
  refine Sl.step (m := m) (H := H) (b := fun a => b a ∨ a = Dl) ⟨s.len, fun i d e => ?_⟩ st (fun _ z => z)
  obtain ⟨v, h1, h2⟩ := s.at_ i d e
  refine ⟨v, h1, ?_⟩
  refine Rp.rec (motive_1 := fun v d _ => Rp K m (fun a => b a ∨ a = Dl) H v d) (motive_2 := fun xs ds _ => Rps K m (fun a => b a ∨ a = Dl) H xs ds) .non .bl .int .str .ty .ref (fun {a xs ds} h _ ih => ?_) (fun {a xs ds} h _ ih => ?_) (fun {a xs ds} h _ ih => ?_) .nil (fun _ _ ih1 ih2 => .cons ih1 ih2) h2
  · refine .tup (h.imp (fun q => ⟨q.1, q.2.1, fun z => z.elim q.2.2 fun z => ?_⟩) id) ih
    rw [z] at q
    rcases q.1 with q | ⟨o, q⟩ <;> (rw [hD] at q; cases q)
  · refine .lst ⟨h.1, h.2.1, fun z => z.elim h.2.2 fun z => ?_⟩ ih
    rw [z, hD] at h
    cases h.1
  · refine .flst (h.imp (fun q => ⟨q.1, q.2.1, fun z => z.elim q.2.2 fun z => ?_⟩) id) ih
    rw [z] at q
    rcases q.1 with q | ⟨o, q⟩ <;> (rw [hD] at q; cases q)
theorem Ok.blkd {m : Mem} {H : Hp} (ok : Ok K m b H) (hD : H Dl = none) (xs : List V) : Ok K m (fun a => b a ∨ a = Dl) (upd H Dl (.lst xs)) := by
  have f := ok.fresh hD
  have ok1 := ok.new (o := .lst xs) hD
  refine ⟨fun a o e => ?_, fun a ha => ?_⟩
  · have ne : a ≠ Dl := fun z => by
      rw [z, f.1] at e
      cases e
    have h := ok.has a o e
    have up : ∀ v d, Rp K m b H v d → Rp K m (fun a => b a ∨ a = Dl) (upd H Dl (.lst xs)) v d := fun v d h => by
      have s : Sl K m b H [some v] [some d] := ⟨rfl, fun i e q => by
        cases i with
        | zero =>
          simp at q
          subst q
          exact ⟨v, rfl, h⟩
        | succ i => simp at q⟩
      obtain ⟨w, h1, h2⟩ := (s.blk (m' := m) hD (step_new (o := .lst xs) hD)).at_ 0 d rfl
      simp at h1
      subst h1
      exact h2
    have ups : ∀ vs ds, Rps K m b H vs ds → Rps K m (fun a => b a ∨ a = Dl) (upd H Dl (.lst xs)) vs ds := fun vs ds h => by
      induction vs generalizing ds with
      | nil =>
        cases h
        exact .nil
      | cons v vs ih =>
        cases h with
        | cons h1 h2 => exact .cons (up _ _ h1) (ih _ h2)
    cases o with
    | lst ds =>
      obtain ⟨ys, q, r⟩ := h
      exact ⟨ys, (upd_ne ne).trans q, ups _ _ r⟩
    | dk ds =>
      obtain ⟨ys, q, r⟩ := h
      exact ⟨ys, (upd_ne ne).trans q, r.1, ups _ _ r.2⟩
    | ins C ds =>
      obtain ⟨dx, ys, q, r⟩ := h
      exact ⟨dx, ys, (upd_ne ne).trans q, r.1, ups _ _ r.2⟩
    | raw o => exact (upd_ne ne).trans h
    | tab =>
      obtain ⟨ps, q, r⟩ := h
      exact ⟨ps, (upd_ne ne).trans q, r⟩
    | tabN nm =>
      obtain ⟨ps, q, r, s⟩ := h
      refine ⟨ps, (upd_ne ne).trans q, r, fun pos cv hc => ?_⟩
      obtain ⟨c, h1, h2, h3⟩ := s pos cv hc
      exact ⟨c, h1, (upd_ne (ne_of_none h2 hD)).trans h2, h3⟩
    | fn F =>
      obtain ⟨q, ⟨h2, h3⟩, q4⟩ := h
      exact ⟨(upd_ne ne).trans q, ⟨(upd_ne (ne_of_none h2 hD)).trans h2, h3⟩, q4.imp id fun ⟨d, a1, a2, a3⟩ => ⟨d, a1, (upd_ne (ne_of_none a2 hD)).trans a2, a3⟩⟩
  · rcases ha with ha | ha
    · exact ⟨(ok1.blk a ha).1, (ok1.blk a ha).2⟩
    · rw [ha, upd_same]
      exact ⟨f.1, fun z => nomatch z⟩
/-- the blocked address is let go -/
theorem Rps.unblk {m : Mem} {H : Hp} {xs : List V} {ds : List D} (h : Rps K m (fun a => b a ∨ a = Dl) H xs ds) : Rps K m b H xs ds := h.step (Step.refl _ _) fun _ z => .inl z
theorem Ok.unblk {m : Mem} {H : Hp} (ok : Ok K m (fun a => b a ∨ a = Dl) H) : Ok K m b H := ⟨fun a o e => (ok.has a o e).step (Step.refl _ _) (fun _ z => .inl z) rfl, fun a z => ok.blk a (.inl z)⟩
end
variable {j : Nat} {vs : List Nat}
/-- one turn -/
theorem lc_turn {Iv : Nat → Mem → List D → Prop} {b : Blk} {Dl : Addr} {m1 : Mem} {H1 H' : Hp} {i : Nat} {σ : L2.St} {x : D} {v : V} (s : Sl K m1 b H1 σ ρ) (hD : H1 Dl = none) (hi : i < 100000) (p : LcP K b Iv m1 H1 Dl i H')
    (hx : ∀ m' H', Step m1 H1 m' H' → Rp K m' (fun a => b a ∨ a = Dl) H' v x) (hj : j ∈ vs)
    (hs : ∀ m' acc, Iv i m' acc → WT K tt ((wipeD ρ vs).set j (some x)) m' fun c m2 => if c = true then W K te ((wipeD ρ vs).set j (some x)) m2 fun y m3 => Iv (i + 1) m3 (acc ++ [y]) else Iv (i + 1) m2 acc) :
    gName j v (L2.wipe σ vs) H' fun σ2 H2 => L2.wipe σ2 vs = L2.wipe σ vs ∧ tt σ2 H2 fun c H3 => if c = true then te σ2 H3 fun y H4 => ∃ acc, H4 Dl = some (.lst acc) ∧ acc.length < sizeLine ∧ LcP K b Iv m1 H1 Dl (i + 1) (upd H4 Dl (.lst (acc ++ [y]))) else LcP K b Iv m1 H1 Dl (i + 1) H3 := by
  obtain ⟨m', acc, vacc, iv, hl, st, ok, hD', rs⟩ := p
  refine ⟨wipe_wipe hj, ?_⟩
  have s' : Sl K m' (fun a => b a ∨ a = Dl) H' ((L2.wipe σ vs).set j (some v)) ((wipeD ρ vs).set j (some x)) := ((s.blk hD st).wipe vs).set j (hx m' H' st)
  refine hs m' acc iv _ _ H' s' ok _ fun c m2 H2 h2 st2 ok2 => ?_
  cases c with
  | false => exact ⟨m2, acc, vacc, h2, Nat.le_succ_of_le hl, st.trans st2, ok2, (st2.keep _ _ hD' (ok.blk Dl (.inr rfl)).1).1, rs.step st2 fun _ z => z⟩
  | true =>
    refine h2 _ _ H2 (s'.step st2 fun _ z => z) ok2 _ fun y d m3 H3 h3 st3 ok3 r3 => ?_
    have hD3 := ((st2.trans st3).keep _ _ hD' (ok.blk Dl (.inr rfl)).1).1
    have lenv := rs.length
    refine ⟨vacc, hD3, Nat.lt_of_le_of_lt (by rw [lenv]; exact hl) (Nat.lt_of_lt_of_le hi (by decide)), ?_⟩
    obtain ⟨ok4, up⟩ := blk_upd hD3 ok3 (vacc ++ [y])
    have ups : ∀ vs ds, Rps K m3 (fun a => b a ∨ a = Dl) H3 vs ds → Rps K m3 (fun a => b a ∨ a = Dl) (upd H3 Dl (.lst (vacc ++ [y]))) vs ds := fun vs ds h => by
      induction vs generalizing ds with
      | nil =>
        cases h
        exact .nil
      | cons v vs ih =>
        cases h with
        | cons h1 h2 => exact .cons (up _ _ h1) (ih _ h2)
    refine ⟨m3, acc ++ [d], vacc ++ [y], h3, by simp only [List.length_append, List.length_singleton]; omega, ⟨fun a o e1 e2 => ?_⟩, ok4, upd_same, (ups _ _ (rs.step (st2.trans st3) fun _ z => z)).append (.cons (up _ _ r3) .nil)⟩
    have k := ((st.trans st2).trans st3).keep a o e1 e2
    exact ⟨(upd_ne (ne_of_none e1 hD)).trans k.1, k.2⟩
theorem w_lcL {tl : TE} (Iv : Nat → Mem → List D → Prop) (hj : j ∈ vs)
    (h : W K tl ρ m fun d m1 => ∃ ds, (d = .lst ds ∨ d = .flst ds) ∧ ds.length ≤ 100000 ∧ Iv 0 m1 [] ∧
      (∀ i x m' acc, ds[i]? = some x → Iv i m' acc → WT K tt ((wipeD ρ vs).set j (some x)) m' fun c m2 => if c = true then W K te ((wipeD ρ vs).set j (some x)) m2 fun y m3 => Iv (i + 1) m3 (acc ++ [y]) else Iv (i + 1) m2 acc) ∧ ∀ m' acc, Iv ds.length m' acc → P (.lst acc) m') :
    W K (tLc (iList K tl) (gName j) tt te vs) ρ m P := fun b σ H s ok Q q =>
  h b σ H s ok _ fun v d m1 H1 h1 st1 ok1 r => by
    obtain ⟨ds, hd, hlen, h0, hs, hend⟩ := h1
    obtain ⟨a, xs, rfl, sq, rs, stays⟩ : ∃ a xs, v = .ref a ∧ SqL K H1 a xs ∧ Rps K m1 b H1 xs ds ∧ ∀ m' H', Step m1 H1 m' H' → SqL K H' a xs := by
      rcases hd with rfl | rfl
      · obtain ⟨a, xs, e, h1, h2, h3, h4⟩ := r.lst_at
        exact ⟨a, xs, e, .inl (.inl h1), h4, fun m' H' st => .inl (.inl (st.keep _ _ h1 h2).1)⟩
      · cases r with
        | flst h hs =>
          refine ⟨_, _, rfl, ?_, hs, fun m' H' st => ?_⟩
          · exact h.elim (fun h => .inl h.1) fun h => h.sq
          · exact h.elim (fun h => .inl (rd_step st h.1 h.2.1).1) fun h => h.sq
    refine ⟨a, rfl, ⟨xs, sq⟩, fun Dl hD => ?_⟩
    have s1 := s.step st1 fun _ z => z
    refine lc_list (K := K) (a := a) (xs := xs) (LcP K b Iv m1 H1 Dl) ⟨m1, [], [], h0, Nat.zero_le _, step_new hD, ok1.blkd hD [], upd_same, .nil⟩ (fun i H' _ p => ?_) (fun i x H' hi p => ?_) (fun H' p => ?_)
    · obtain ⟨m', _, _, _, _, st, _⟩ := p
      exact stays m' H' st
    · obtain ⟨y, hy, ry⟩ := rs.get' hi
      refine lc_turn s1 hD ?_ p (fun m' H' st => ?_) hj fun m' acc iv => hs i y m' acc hy iv
      · have := (List.getElem?_eq_some_iff.mp hi).1
        rw [rs.length] at this
        omega
      · have sx : Sl K m1 b H1 [some x] [some y] := ⟨rfl, fun i e q => by
          cases i with
          | zero =>
            simp at q
            subst q
            exact ⟨x, rfl, ry⟩
          | succ i => simp at q⟩
        obtain ⟨w, h1, h2⟩ := (sx.blk hD st).at_ 0 y rfl
        simp at h1
        subst h1
        exact h2
    · obtain ⟨m', acc, vacc, iv, _, st, ok', hD', rs'⟩ := p
      rw [rs.length] at iv
      have f := ok1.fresh hD
      exact q _ _ m' H' (hend m' acc iv) (st1.trans st) ok'.unblk (.lst ⟨hD', (ok'.blk Dl (.inr rfl)).1, f.2⟩ rs'.unblk)
theorem w_lcT {tl : TE} (Iv : Nat → Mem → List D → Prop) (hj : j ∈ vs)
    (h : W K tl ρ m fun d m1 => ∃ ds, d = .tup ds ∧ ds.length ≤ 100000 ∧ Iv 0 m1 [] ∧
      (∀ i x m' acc, ds[i]? = some x → Iv i m' acc → WT K tt ((wipeD ρ vs).set j (some x)) m' fun c m2 => if c = true then W K te ((wipeD ρ vs).set j (some x)) m2 fun y m3 => Iv (i + 1) m3 (acc ++ [y]) else Iv (i + 1) m2 acc) ∧ ∀ m' acc, Iv ds.length m' acc → P (.lst acc) m') :
    W K (tLc (iTup K tl) (gName j) tt te vs) ρ m P := fun b σ H s ok Q q =>
  h b σ H s ok _ fun v d m1 H1 h1 st1 ok1 r => by
    obtain ⟨ds, hd, hlen, h0, hs, hend⟩ := h1
    subst hd
    obtain ⟨a, xs, rfl, sq, rs, stays⟩ : ∃ a xs, v = .ref a ∧ SqT K H1 a xs ∧ Rps K m1 b H1 xs ds ∧ ∀ m' H', Step m1 H1 m' H' → SqT K H' a xs := by
      cases r with
      | tup h hs =>
        refine ⟨_, _, rfl, ?_, hs, fun m' H' st => ?_⟩
        · exact h.elim (fun h => .inl h.1) fun h => h.sq
        · exact h.elim (fun h => .inl (rd_step st h.1 h.2.1).1) fun h => h.sq
    refine ⟨a, rfl, ⟨xs, sq⟩, fun Dl hD => ?_⟩
    have s1 := s.step st1 fun _ z => z
    refine lc_tup (K := K) (a := a) (xs := xs) (LcP K b Iv m1 H1 Dl) ⟨m1, [], [], h0, Nat.zero_le _, step_new hD, ok1.blkd hD [], upd_same, .nil⟩ (fun i H' _ p => ?_) (fun i x H' hi p => ?_) (fun H' p => ?_)
    · obtain ⟨m', _, _, _, _, st, _⟩ := p
      exact stays m' H' st
    · obtain ⟨y, hy, ry⟩ := rs.get' hi
      refine lc_turn s1 hD ?_ p (fun m' H' st => ?_) hj fun m' acc iv => hs i y m' acc hy iv
      · have := (List.getElem?_eq_some_iff.mp hi).1
        rw [rs.length] at this
        omega
      · have sx : Sl K m1 b H1 [some x] [some y] := ⟨rfl, fun i e q => by
          cases i with
          | zero =>
            simp at q
            subst q
            exact ⟨x, rfl, ry⟩
          | succ i => simp at q⟩
        obtain ⟨w, h1, h2⟩ := (sx.blk hD st).at_ 0 y rfl
        simp at h1
        subst h1
        exact h2
    · obtain ⟨m', acc, vacc, iv, _, st, ok', hD', rs'⟩ := p
      rw [rs.length] at iv
      have f := ok1.fresh hD
      exact q _ _ m' H' (hend m' acc iv) (st1.trans st) ok'.unblk (.lst ⟨hD', (ok'.blk Dl (.inr rfl)).1, f.2⟩ rs'.unblk)
theorem w_lcR (Iv : Nat → Mem → List D → Prop) (hj : j ∈ vs)
    (h : WA K tr ρ m fun ds m1 => ∃ n : Nat, ds = [.int n] ∧ n ≤ 100000 ∧ Iv 0 m1 [] ∧
      (∀ i m' acc, i < n → Iv i m' acc → WT K tt ((wipeD ρ vs).set j (some (.int (i : Int)))) m' fun c m2 => if c = true then W K te ((wipeD ρ vs).set j (some (.int (i : Int)))) m2 fun y m3 => Iv (i + 1) m3 (acc ++ [y]) else Iv (i + 1) m2 acc) ∧ ∀ m' acc, Iv n m' acc → P (.lst acc) m') :
    W K (tLc (iRng1 tr) (gName j) tt te vs) ρ m P := fun b σ H s ok Q q =>
  h b σ H s ok _ fun vs' d m1 H1 h1 st1 ok1 r => by
    obtain ⟨n, hd, hlen, h0, hs, hend⟩ := h1
    subst hd
    cases r with
    | cons r1 r2 =>
      cases r2
      cases r1
      refine ⟨n, rfl, by omega, by omega, fun Dl hD => ?_⟩
      rw [Int.toNat_natCast]
      have s1 := s.step st1 fun _ z => z
      refine lc_range (lo := 0) (n := n) (LcP K b Iv m1 H1 Dl) ⟨m1, [], [], h0, Nat.zero_le _, step_new hD, ok1.blkd hD [], upd_same, .nil⟩ (fun i H' hi p => ?_) (fun H' p => ?_)
      · have e0 : (0 : Int) + (i : Int) = (i : Int) := Int.zero_add _
        rw [e0]
        exact lc_turn s1 hD (by omega) p (fun m' H' st => .int _) hj fun m' acc iv => hs i m' acc hi iv
      · obtain ⟨m', acc, vacc, iv, _, st, ok', hD', rs'⟩ := p
        have f := ok1.fresh hD
        exact q _ _ m' H' (hend m' acc iv) (st1.trans st) ok'.unblk (.lst ⟨hD', (ok'.blk Dl (.inr rfl)).1, f.2⟩ rs'.unblk)

/-! ### defs -/
/-- a def's promise over data -/
abbrev Sd := List D → Mem → (D → Mem → Prop) → Prop
def spOf (K : PySem.W.Frag) (R : Sd) : Sp := fun vs H Q _ => ∃ (ds : List D) (m : Mem) (b : Blk) (P : D → Mem → Prop), Rps K m b H vs ds ∧ Ok K m b H ∧ R ds m P ∧ ∀ v d m' H', P d m' → Step m H m' H' → Ok K m' b H' → Rp K m' b H' v d → Q v H'
/-- .. that may raise: X what is wanted of the class raised -/
abbrev SdX := List D → Mem → (D → Mem → Prop) → (Value → Mem → Prop) → Prop
def spOfX (K : PySem.W.Frag) (R : SdX) : Sp := fun vs H Q E => ∃ (ds : List D) (m : Mem) (b : Blk) (P : D → Mem → Prop) (X : Value → Mem → Prop), Rps K m b H vs ds ∧ Ok K m b H ∧ R ds m P X ∧ (∀ v d m' H', P d m' → Step m H m' H' → Ok K m' b H' → Rp K m' b H' v d → Q v H') ∧
  ∀ cls m' H', X cls m' → Step m H m' H' → Ok K m' b H' → E cls none H'
theorem w_call {R : Sd} {E : XK} (h : WA K tr ρ m fun ds m1 => R ds m1 P) : W K (tCall (spOf K R) [] E tr) ρ m P := fun b σ H s ok Q q =>
  h b σ H s ok _ fun vs ds m1 H1 h1 st1 ok1 r => by
    show spOf K R (vs ++ []) H1 Q E
    rw [List.append_nil]
    exact ⟨ds, m1, b, P, r, ok1, h1, fun v d m' H' p st ok' r' => q v d m' H' p (st1.trans st) ok' r'⟩
end
/-- a def that stands, with what it promises -/
structure Cal (P : Program) (w : World) (K : PySem.W.Frag) (mg : Str → Option Value) (base : Heap) (CX : CXT) (k : Nat) (x : Str) (ps : List Str) (sp : Sp) : Prop where
  ex : ∃ (f : Addr) (fd : FuncData), FnOk P w K mg base CX k f fd ps sp ∧ mg x = some (.ref f) ∧ PySem.W.keepIn K (.ref f) = true ∧ Binds K fd ps []
theorem Cal.mono {P : Program} {w : World} {K : PySem.W.Frag} {mg : Str → Option Value} {base : Heap} {CX : CXT} {j k : Nat} {x : Str} {ps : List Str} {sp : Sp} (c : Cal P w K mg base CX j x ps sp) (h : j ≤ k) : Cal P w K mg base CX k x ps sp := by
  obtain ⟨f, fd, h1, h2⟩ := c.ex
  exact ⟨f, fd, h1.mono h, h2⟩
theorem Cal.imp {P : Program} {w : World} {K : PySem.W.Frag} {mg : Str → Option Value} {base : Heap} {CX : CXT} {k : Nat} {x : Str} {ps : List Str} {sp sp' : Sp} (c : Cal P w K mg base CX k x ps sp) (h : ∀ vs H Q E, sp' vs H Q E → sp vs H Q E) : Cal P w K mg base CX k x ps sp' := by
  obtain ⟨f, fd, h1, h2⟩ := c.ex
  exact ⟨f, fd, h1.imp h, h2⟩
section
variable {X : Cx} {CX : CXT} {k : Nat} {ps : List Str} {sp : Sp} {E : XK} {x : Str} {p pos : Pos} {e : Expr} {es : List Expr} {t : TA}
theorem pe_cal (c : Cal X.prog X.w X.K X.mg X.base CX k x ps sp) (hr : Room k X.A) (hx : Passes CX X E) (ha : PA X (e :: es) t) (hg : Gl X x := by rfl) (hdb : (x == ("__debug__" : Str)) = false := by decide)
    (he : starEach (e :: es) X.env = (false, eval e X.env) :: starEach es X.env := by rfl) (hpl : (backTo pos (starEach es X.env)).any (·.1) = false := by rfl) : PE X (.Call (.Name x p) (e :: es) [] pos) (tCall sp [] E t) := by
  obtain ⟨f, fd, F, hm, hk, hb⟩ := c.ex
  exact pe_call F hr hg hm hk hb .nil hx ha hdb he hpl
theorem pe_cal0 (c : Cal X.prog X.w X.K X.mg X.base CX k x ps sp) (hr : Room k X.A) (hx : Passes CX X E) (hg : Gl X x := by rfl) (hdb : (x == ("__debug__" : Str)) = false := by decide) : PE X (.Call (.Name x p) [] [] pos) (tCall sp [] E tNil) := by
  obtain ⟨f, fd, F, hm, hk, hb⟩ := c.ex
  exact pe_call0 F hr hg hm hk hb .nil hx hdb
end
/-- the text's def stands under its name -/
structure Def (K : PySem.W.Frag) (mg : Str → Option Value) (x : Str) (st : Stmt) (ps : List Str) : Prop where
  ex : ∃ (f : Addr) (fd : FuncData), Fun K x x st f fd ∧ mg x = some (.ref f) ∧ Binds K fd ps []
section
variable {P : Program} {w : World} {K : PySem.W.Frag} {mg : Str → Option Value} {base : Heap}
/-- THE RULE: a def by its body, over data -/
theorem Def.ok {x : Str} {st : Stmt} {N ps : List Str} {k : Nat} {R : Sd} (F : Def K mg x st ps) (S : FnScope N ps (defScope st)) (len : ∀ ds m P, R ds m P → ds.length = ps.length)
    (hbody : ∀ (f : Addr) (cdv : Value) (A : Around) (outer : List PySem.Env) (s : Shared) (H : Hp), Room k (A.deeper (envOfC x (defScope st) s.heap.objs.size f cdv)) →
      ∃ t, PSs (cxOf CX0 P w K mg base N x (defScope st) f cdv A outer s H (fun _ _ _ => False)).nox (defBody st) t ∧ ∀ ds m PD, R ds m PD → WS K t (ds.map some ++ List.replicate (N.length - ds.length) none) m (fun _ m' => PD .non m') PD (fun _ _ => False) (fun _ _ => False)) :
    Cal P w K mg base CX0 (k + 1) x ps (spOf K R) := by
  obtain ⟨f, fd, F, hm, hb⟩ := F.ex
  refine ⟨f, fd, F.ok S (fun vs H Q E h => ?_) (fun cdv A outer s H vs Q E hr h => ?_), hm, F.kp, hb⟩
  · obtain ⟨ds, m, b, PD, r, ok, hR, _⟩ := h
    rw [r.length, len _ _ _ hR]
  · obtain ⟨t, h1, h2⟩ := hbody f cdv A outer s H hr
    refine ⟨t, h1, ?_⟩
    obtain ⟨ds, m, b, PD, r, ok, hR, hQ⟩ := h
    refine h2 ds m PD hR b _ H ?_ ok _ ⟨fun σ' ρ' m' H' h st ok' s' => hQ .non .non m' H' h st ok' .non, fun v d m' H' h st ok' r' => hQ v d m' H' h st ok' r', fun _ _ _ _ h => h.elim, fun _ _ _ _ h => h.elim⟩
    unfold L2.start
    refine ⟨?_, fun i d e => ?_⟩
    · simp only [List.length_append, List.length_map, List.length_replicate, r.length]
    · by_cases hi : i < ds.length
      · rw [List.getElem?_append_left (by simpa using hi), List.getElem?_map] at e
        have e' : ds[i]? = some d := by
          cases q : ds[i]? with
          | none => rw [q] at e; cases e
          | some z => rw [q] at e; cases e; rfl
        obtain ⟨v, h3, h4⟩ := r.get e'
        refine ⟨v, ?_, h4⟩
        rw [List.getElem?_append_left (by rw [List.length_map, r.length]; exact hi), List.getElem?_map, h3]
        rfl
      · rw [List.getElem?_append_right (by simpa using hi), List.getElem?_replicate] at e
        split at e <;> cases e
end
end DL
end
section
set_option Elab.async false
set_option linter.all false
set_option maxRecDepth 100000
set_option maxHeartbeats 2000000
/-! types, and when one lies within another -/
namespace DL
open PySem PySem.Spec PyProof.Rows L2
inductive Ty where
  | num | small | big | any
  | cell (t : Ty)
  | fn (t u : Ty)
  deriving DecidableEq
def tyd : Ty → D
  | .num => .str "num"
  | .small => .str "small"
  | .big => .str "big"
  | .any => .str "any"
  | .cell t => .tup [.str "cell", tyd t]
  | .fn t u => .tup [.str "fun", tyd t, tyd u]
def Ty.depth : Ty → Nat
  | .cell t => t.depth + 1
  | .fn t u => max t.depth u.depth + 1
  | _ => 0
theorem ty_pure : ∀ t : Ty, pure (tyd t) = true
  | .num => rfl
  | .small => rfl
  | .big => rfl
  | .any => rfl
  | .cell t => by
    show (pure (.str "cell") && (pure (tyd t) && true)) = true
    rw [ty_pure t]
    rfl
  | .fn t u => by
    show (pure (.str "fun") && (pure (tyd t) && (pure (tyd u) && true))) = true
    rw [ty_pure t, ty_pure u]
    rfl
theorem ty_lay : ∀ t : Ty, (toPy (tyd t)).canLay0 = true
  | .num => by decide +kernel
  | .small => by decide +kernel
  | .big => by decide +kernel
  | .any => by decide +kernel
  | .cell t => by
    show (PyData.canLay0 (.str "cell") && (PyData.canLay0 (toPy (tyd t)) && true)) = true
    rw [ty_lay t]
    decide +kernel
  | .fn t u => by
    show (PyData.canLay0 (.str "fun") && (PyData.canLay0 (toPy (tyd t)) && (PyData.canLay0 (toPy (tyd u)) && true))) = true
    rw [ty_lay t, ty_lay u]
    decide +kernel
theorem ty_depth : ∀ t : Ty, (toPy (tyd t)).depth ≤ t.depth
  | .num => by decide +kernel
  | .small => by decide +kernel
  | .big => by decide +kernel
  | .any => by decide +kernel
  | .cell t => by
    have h := ty_depth t
    simp [tyd, toPy, toPys, PyData.depth, PyData.depthAll, Ty.depth] at h ⊢
    omega
  | .fn t u => by
    have h := ty_depth t
    have h2 := ty_depth u
    simp [tyd, toPy, toPys, PyData.depth, PyData.depthAll, Ty.depth] at h h2 ⊢
    omega
theorem ty_cmp {t : Ty} (h : t.depth ≤ 64) : Cmp (tyd t) := by
  refine ⟨ty_pure t, ?_⟩
  unfold SeqAt.shaped
  rw [ty_lay t, decide_eq_true (Nat.le_trans (ty_depth t) h)]
  rfl
/-- a plain type's text -/
def Ty.word : Ty → Option Str
  | .num => some "num"
  | .small => some "small"
  | .big => some "big"
  | .any => some "any"
  | _ => none
theorem eqv_tt {xs ys : List PyData} : PyData.eqv (.tuple xs) (.tuple ys) = PyData.eqvAll xs ys := rfl
theorem ty_eqv : ∀ s t : Ty, PyData.eqv (toPy (tyd s)) (toPy (tyd t)) = decide (s = t)
  | .num, t => by cases t <;> first | rfl | decide +kernel | (simp [tyd, toPy, PyData.eqv])
  | .small, t => by cases t <;> first | rfl | decide +kernel | (simp [tyd, toPy, PyData.eqv])
  | .big, t => by cases t <;> first | rfl | decide +kernel | (simp [tyd, toPy, PyData.eqv])
  | .any, t => by cases t <;> first | rfl | decide +kernel | (simp [tyd, toPy, PyData.eqv])
  | .cell s, t => by
    cases t with
    | cell t =>
      have h := ty_eqv s t
      show (PyData.eqv (.str "cell") (.str "cell") && (PyData.eqv (toPy (tyd s)) (toPy (tyd t)) && true)) = _
      rw [h, show PyData.eqv (.str "cell") (.str "cell") = true by decide +kernel]
      by_cases e : s = t
      · subst e
        simp
      · rw [decide_eq_false e, decide_eq_false (fun z => e (Ty.cell.inj z))]
        rfl
    | fn a b =>
      have e : PyData.eqv (toPy (tyd (.cell s))) (toPy (tyd (.fn a b))) = (PyData.eqv (.str "cell") (.str "fun") && PyData.eqvAll [toPy (tyd s)] [toPy (tyd a), toPy (tyd b)]) := rfl
      rw [e, show PyData.eqv (.str "cell") (.str "fun") = false by decide +kernel, Bool.false_and]
      rfl
    | num => rfl
    | small => rfl
    | big => rfl
    | any => rfl
  | .fn a b, t => by
    cases t with
    | fn c d =>
      have h := ty_eqv a c
      have h2 := ty_eqv b d
      show (PyData.eqv (.str "fun") (.str "fun") && (PyData.eqv (toPy (tyd a)) (toPy (tyd c)) && (PyData.eqv (toPy (tyd b)) (toPy (tyd d)) && true))) = _
      rw [h, h2, show PyData.eqv (.str "fun") (.str "fun") = true by decide +kernel]
      rw [Bool.and_true, Bool.true_and, ← Bool.decide_and]
      congr 1
      exact propext ⟨fun ⟨h1, h2⟩ => by rw [h1, h2], fun h => by cases h; exact ⟨rfl, rfl⟩⟩
    | cell t =>
      have e : PyData.eqv (toPy (tyd (.fn a b))) (toPy (tyd (.cell t))) = (PyData.eqv (.str "fun") (.str "cell") && PyData.eqvAll [toPy (tyd a), toPy (tyd b)] [toPy (tyd t)]) := rfl
      rw [e, show PyData.eqv (.str "fun") (.str "cell") = false by decide +kernel, Bool.false_and]
      rfl
    | num => rfl
    | small => rfl
    | big => rfl
    | any => rfl

/-! when one lies within another: there and back -/
def wi (al ag ar : Bool) : Ty → Ty → Bool × Bool
  | .cell s, .cell t => if s = t then (true, true) else if s = .any ∨ t = .any then (decide (s = .any), decide (t = .any)) else
      (al && (wi al ag ar s t).1 || ag && (wi al ag ar s t).2, al && (wi al ag ar s t).2 || ag && (wi al ag ar s t).1)
  | .fn a u, .fn c v => if a = c ∧ u = v then (true, true) else
      ((wi al ag ar u v).1 && ((wi al ag ar a c).2 || ar && (wi al ag ar a c).1), (wi al ag ar u v).2 && ((wi al ag ar a c).1 || ar && (wi al ag ar a c).2))
  | s, t => if s = t then (true, true) else (decide (s = .big ∧ t = .small), decide (s = .small ∧ t = .big))
theorem wi_refl (al ag ar : Bool) (s : Ty) : wi al ag ar s s = (true, true) := by
  cases s <;> simp [wi]
theorem wi_swap (al ag ar : Bool) : ∀ s t : Ty, wi al ag ar t s = ((wi al ag ar s t).2, (wi al ag ar s t).1)
  | .cell s, .cell t => by
    have h := wi_swap al ag ar s t
    unfold wi
    by_cases e : s = t
    · subst e
      simp
    · rw [if_neg e, if_neg (Ne.symm e)]
      by_cases z : s = .any ∨ t = .any
      · rw [if_pos z, if_pos z.symm]
      · rw [if_neg z, if_neg (fun q => z q.symm), h]
  | .fn a u, .fn c v => by
    have h := wi_swap al ag ar a c
    have h2 := wi_swap al ag ar u v
    unfold wi
    by_cases e : a = c ∧ u = v
    · rw [if_pos e, if_pos ⟨e.1.symm, e.2.symm⟩]
    · rw [if_neg e, if_neg (fun q => e ⟨q.1.symm, q.2.symm⟩), h, h2]
  | .num, t => by cases t <;> simp [wi]
  | .small, t => by cases t <;> simp [wi]
  | .big, t => by cases t <;> simp [wi]
  | .any, t => by cases t <;> simp [wi]
  | .cell s, .num => by simp [wi]
  | .cell s, .small => by simp [wi]
  | .cell s, .big => by simp [wi]
  | .cell s, .any => by simp [wi]
  | .cell s, .fn _ _ => by simp [wi]
  | .fn _ _, .num => by simp [wi]
  | .fn _ _, .small => by simp [wi]
  | .fn _ _, .big => by simp [wi]
  | .fn _ _, .any => by simp [wi]
  | .fn _ _, .cell s => by simp [wi]

section
variable {K : PySem.W.Frag} {m : Mem} {P : D → Mem → Prop}
theorem wr_eqTy {s t : Ty} (h1 : s.depth ≤ 64) (h2 : t.depth ≤ 64) (k : P (.bl (decide (s = t))) m) : WR K (rEqD K) (tyd s) (tyd t) m P := by
  refine wr_eqD (ty_cmp h1) (ty_cmp h2) ?_
  rw [ty_eqv]
  exact k
theorem wr_eqAny {s : Ty} (h1 : s.depth ≤ 64) (k : P (.bl (decide (s = .any))) m) : WR K (rEqD K) (tyd s) (.str "any") m P := wr_eqTy (t := .any) h1 (by decide) k
theorem wr_eqBig {s : Ty} (h1 : s.depth ≤ 64) (k : P (.bl (decide (s = .big))) m) : WR K (rEqD K) (tyd s) (.str "big") m P := wr_eqTy (t := .big) h1 (by decide) k
theorem wr_eqNum {s : Ty} (h1 : s.depth ≤ 64) (k : P (.bl (decide (s = .num))) m) : WR K (rEqD K) (tyd s) (.str "num") m P := wr_eqTy (t := .num) h1 (by decide) k
theorem wr_eqSmall {s : Ty} (h1 : s.depth ≤ 64) (k : P (.bl (decide (s = .small))) m) : WR K (rEqD K) (tyd s) (.str "small") m P := wr_eqTy (t := .small) h1 (by decide) k
def isCell : Ty → Bool
  | .cell _ => true
  | _ => false
def isFn : Ty → Bool
  | .fn _ _ => true
  | _ => false
def Ty.hd : Ty → Str
  | .num => "n"
  | .small => "s"
  | .big => "b"
  | .any => "a"
  | .cell _ => "cell"
  | .fn _ _ => "fun"
theorem wr_hd {s : Ty} (k : P (.str s.hd) m) : WR K (rIx K) (tyd s) (.int 0) m P := by
  cases s with
  | cell t => exact wr_ixT rfl k
  | fn t u => exact wr_ixT rfl k
  | num => exact wr_ixS (c := 110) (by decide +kernel) (by decide +kernel) k
  | small => exact wr_ixS (c := 115) (by decide +kernel) (by decide +kernel) k
  | big => exact wr_ixS (c := 98) (by decide +kernel) (by decide +kernel) k
  | any => exact wr_ixS (c := 97) (by decide +kernel) (by decide +kernel) k
theorem hd_cmp (s : Ty) : Cmp (.str s.hd) := by
  refine ⟨rfl, ?_⟩
  cases s <;> (simp only [Ty.hd]; decide +kernel)
theorem hd_cell (s : Ty) : PyData.eqv (.str s.hd) (.str "cell") = isCell s := by
  cases s <;> (simp only [Ty.hd, isCell]; decide +kernel)
theorem hd_fn (s : Ty) : PyData.eqv (.str s.hd) (.str "fun") = isFn s := by
  cases s <;> (simp only [Ty.hd, isFn]; decide +kernel)
theorem wr_hdCell {s : Ty} (k : P (.bl (isCell s)) m) : WR K (rEqD K) (.str s.hd) (.str "cell") m P := by
  refine wr_eqD (hd_cmp s) ⟨rfl, by decide +kernel⟩ ?_
  rw [← hd_cell] at k
  exact k
theorem wr_hdFn {s : Ty} (k : P (.bl (isFn s)) m) : WR K (rEqD K) (.str s.hd) (.str "fun") m P := by
  refine wr_eqD (hd_cmp s) ⟨rfl, by decide +kernel⟩ ?_
  rw [← hd_fn] at k
  exact k
theorem wr_hdHd {s t : Ty} (k : P (.bl (!decide (s.hd = t.hd))) m) : WR K (rNeD K) (.str s.hd) (.str t.hd) m P := by
  refine wr_neD (hd_cmp s) (hd_cmp t) ?_
  have e : PyData.eqv (.str s.hd) (.str t.hd) = decide (s.hd = t.hd) := by
    show (s.hd == t.hd) = _
    rw [Bool.beq_eq_decide_eq]
  show P (.bl (!PyData.eqv (.str s.hd) (.str t.hd))) m
  rw [e]
  exact k
theorem pair_eqv (s t a c : Ty) : PyData.eqv (toPy (.tup [tyd s, tyd t])) (toPy (.tup [tyd a, tyd c])) = decide (s = a ∧ t = c) := by
  show (PyData.eqv (toPy (tyd s)) (toPy (tyd a)) && (PyData.eqv (toPy (tyd t)) (toPy (tyd c)) && true)) = _
  rw [ty_eqv, ty_eqv, Bool.and_true, ← Bool.decide_and]
theorem pair_cmp {s t : Ty} (h1 : s.depth ≤ 60) (h2 : t.depth ≤ 60) : Cmp (.tup [tyd s, tyd t]) := by
  have p1 := ty_pure s
  have p2 := ty_pure t
  have l1 := ty_lay s
  have l2 := ty_lay t
  have d1 := ty_depth s
  have d2 := ty_depth t
  refine ⟨?_, ?_⟩
  · show (pure (tyd s) && (pure (tyd t) && true)) = true
    rw [p1, p2]
    rfl
  · unfold SeqAt.shaped
    have e1 : (toPy (.tup [tyd s, tyd t])).canLay0 = true := by
      show (PyData.canLay0 (toPy (tyd s)) && (PyData.canLay0 (toPy (tyd t)) && true)) = true
      rw [l1, l2]
      rfl
    have e2 : (toPy (.tup [tyd s, tyd t])).depth ≤ 64 := by
      simp [toPy, toPys, PyData.depth, PyData.depthAll]
      omega
    rw [e1, decide_eq_true e2]
    rfl
theorem wr_pairBS {s t : Ty} (h1 : s.depth ≤ 60) (h2 : t.depth ≤ 60) (k : P (.bl (decide (s = .big ∧ t = .small))) m) : WR K (rEqD K) (.tup [tyd s, tyd t]) (.tup [.str "big", .str "small"]) m P := by
  refine wr_eqD (pair_cmp h1 h2) (pair_cmp (s := .big) (t := .small) (by decide) (by decide)) ?_
  have e := pair_eqv s t .big .small
  show P (.bl (PyData.eqv (toPy (.tup [tyd s, tyd t])) (toPy (.tup [tyd .big, tyd .small])))) m
  rw [e]
  exact k
theorem wr_pairSB {s t : Ty} (h1 : s.depth ≤ 60) (h2 : t.depth ≤ 60) (k : P (.bl (decide (s = .small ∧ t = .big))) m) : WR K (rEqD K) (.tup [tyd s, tyd t]) (.tup [.str "small", .str "big"]) m P := by
  refine wr_eqD (pair_cmp h1 h2) (pair_cmp (s := .small) (t := .big) (by decide) (by decide)) ?_
  have e := pair_eqv s t .small .big
  show P (.bl (PyData.eqv (toPy (.tup [tyd s, tyd t])) (toPy (.tup [tyd .small, tyd .big])))) m
  rw [e]
  exact k
theorem wr_ixCell {s : Ty} (k : P (tyd s) m) : WR K (rIx K) (tyd (.cell s)) (.int 1) m P := wr_ixT rfl k
theorem wr_ixFn1 {s t : Ty} (k : P (tyd s) m) : WR K (rIx K) (tyd (.fn s t)) (.int 1) m P := wr_ixT rfl k
theorem wr_ixFn2 {s t : Ty} (k : P (tyd t) m) : WR K (rIx K) (tyd (.fn s t)) (.int 2) m P := wr_ixT rfl k
end
end DL
end
section
set_option Elab.async false
set_option linter.all false
set_option maxRecDepth 100000
set_option maxHeartbeats 4000000
namespace DL
open PySem PySem.Spec PyProof.Rows L2
theorem iteT' {c : Bool} {A B : Prop} (hc : c = true) (h : A) : if c = true then A else B := by rw [if_pos hc]; exact h
theorem iteF' {c : Bool} {A B : Prop} (hc : c = false) (h : B) : if c = true then A else B := by rw [hc, if_neg Bool.false_ne_true]; exact h
theorem iteB {c : Bool} {A B : Prop} (h1 : c = true → A) (h2 : c = false → B) : if c = true then A else B := by
  cases c
  · exact h2 rfl
  · exact h1 rfl
theorem strs_flat (ws : List Str) : (ws.map D.str).all flatD = true := by
  rw [List.all_map, List.all_eq_true]
  exact fun x _ => rfl
theorem cmp_str (x : Str) (h : PySem.SeqAt.shaped (.str x) = true := by decide +kernel) : Cmp (.str x) := ⟨rfl, h⟩
theorem cmp_int (i : Int) : Cmp (.int i) := ⟨rfl, rfl⟩
theorem size_le {n : Nat} (h : n ≤ 100000) : n ≤ sizeLine := Nat.le_trans h (by decide)
section
variable {K : PySem.W.Frag} {ρ : Env} {m : Mem} {P : D → Mem → Prop} {ta tb : TE} {PT : Bool → Mem → Prop} {tt tu : TT} {x y : Bool}
abbrev IsB (x : Bool) (m : Mem) : D → Mem → Prop := fun d m1 => d = .bl x ∧ m1 = m
abbrev IsT (x : Bool) (m : Mem) : Bool → Mem → Prop := fun d m1 => d = x ∧ m1 = m
theorem w_use {P' : D → Mem → Prop} (h : W K ta ρ m (IsB x m)) (k : P' (.bl x) m) : W K ta ρ m P' := fun b σ H s ok Q q =>
  h b σ H s ok Q fun v d m' H' e st ok' r => by
    rw [e.2] at st ok' r
    rw [e.1] at r
    exact q v _ m H' k st ok' r
theorem wt_use {P' : Bool → Mem → Prop} (h : WT K tt ρ m (IsT x m)) (k : P' x m) : WT K tt ρ m P' := fun b σ H s ok Q q =>
  h b σ H s ok Q fun d m' H' e st ok' => by
    rw [e.2] at st ok'
    rw [e.1]
    exact q x m H' k st ok'
theorem w_andP (h1 : W K ta ρ m (IsB x m)) (h2 : W K tb ρ m (IsB y m)) (k : P (.bl (x && y)) m) : W K (tAndV ta tb) ρ m P := w_and (w_use h1 ⟨x, rfl, by
  cases x
  · exact k
  · exact w_use h2 k⟩)
theorem w_orP (h1 : W K ta ρ m (IsB x m)) (h2 : W K tb ρ m (IsB y m)) (k : P (.bl (x || y)) m) : W K (tOrV ta tb) ρ m P := w_or (w_use h1 ⟨x, rfl, by
  cases x
  · exact w_use h2 k
  · exact k⟩)
theorem wt_andP (h1 : WT K tt ρ m (IsT x m)) (h2 : WT K tu ρ m (IsT y m)) (k : PT (x && y) m) : WT K (tAnd tt tu) ρ m PT := wt_and (wt_use h1 (by
  cases x
  · exact k
  · exact wt_use h2 k))
theorem wt_orP (h1 : WT K tt ρ m (IsT x m)) (h2 : WT K tu ρ m (IsT y m)) (k : PT (x || y) m) : WT K (tOr tt tu) ρ m PT := wt_or (wt_use h1 (by
  cases x
  · exact wt_use h2 k
  · exact k))
end
theorem cdiv_ok {i j : Int} (h1 : 0 < j) (h2 : j < 1000000) : CDivN i j := by
  refine And.intro (by omega) ?_
  have := Int.natAbs_of_nonneg (Int.le_of_lt h1)
  omega
theorem cmul_ok {i j : Int} (h1 : 0 ≤ i) (h2 : i < 4611686018427387904) : CMul i j := by
  refine Or.inl (And.intro ?_ ?_)
  · have : (-(2 ^ 64) : Int) < 0 := by decide
    omega
  · have : (4611686018427387904 : Int) < 2 ^ 64 := by decide
    omega
theorem cpow_ok : CPow 10 18 := And.intro (by decide) (And.intro (by decide) (by decide))
theorem atI_lt {xs : List D} {j : Int} (h0 : 0 ≤ j) (h1 : j < (xs.length : Int)) : ∃ x, atI xs j = some x ∧ x ∈ xs := by
  have hl : j.toNat < xs.length := by omega
  refine ⟨xs[j.toNat], ?_, List.getElem_mem hl⟩
  unfold atI ixN
  rw [if_pos h0, if_pos h1]
  show xs[j.toNat]? = _
  exact List.getElem?_eq_getElem hl
theorem atI_ints {ns : List Int} {j : Int} (h0 : 0 ≤ j) (h1 : j < (ns.length : Int)) : ∃ c : Int, atI (ns.map D.int) j = some (.int c) := by
  obtain ⟨x, h, hx⟩ := atI_lt (xs := ns.map D.int) h0 (by rw [List.length_map]; exact h1)
  obtain ⟨c, _, rfl⟩ := List.mem_map.mp hx
  exact ⟨c, h⟩
section
variable {K : PySem.W.Frag} {m : Mem} {P : D → Mem → Prop}
theorem wr_eqInt {i j : Int} (k : P (.bl (decide (i = j))) m) : WR K (rEqD K) (.int i) (.int j) m P := by
  refine wr_eqD (cmp_int i) (cmp_int j) ?_
  have e : PyData.eqv (toPy (.int i)) (toPy (.int j)) = decide (i = j) := by
    show (i == j) = _
    rw [Bool.beq_eq_decide_eq]
  rw [e]
  exact k
end
/-! the rules with the written part named -/
section
variable {X : Cx} {K : PySem.W.Frag} {e o : Expr} {te : TE} {tg : Expr}
theorem op_eqK (hu : X.A.units + 64 < cLine) (hK : X.K = K := by rfl) : OpR X (compareOp .Eq) (rEqD K) := by subst hK; exact op_eqD hu
theorem op_neK (hu : X.A.units + 64 < cLine) (hK : X.K = K := by rfl) : OpR X (compareOp .NotEq) (rNeD K) := by subst hK; exact op_neD hu
theorem op_inK (hK : X.K = K := by rfl) : OpR X (compareOp .In) (rIn K false) := by subst hK; exact op_in_seq
theorem op_niK (hK : X.K = K := by rfl) : OpR X (compareOp .NotIn) (rIn K true) := by subst hK; exact op_notIn_seq
theorem ixK (hK : X.K = K := by rfl) : IxR X (rIx K) := by subst hK; exact ix_seq
theorem sl_tupK (hK : X.K = K := by rfl) : SlR X (rSlA K) := by subst hK; exact sl_tupA
theorem sl_lstK (hK : X.K = K := by rfl) : SlR X (rSlL K) := by subst hK; exact sl_list
theorem lenK (hK : X.K = K := by rfl) : CallR X (.builtin "len") (rLenA K) := by subst hK; exact call_len
theorem isiK (hK : X.K = K := by rfl) : CallR X (.builtin "isinstance") (rIsi K) := by subst hK; exact call_isi
theorem isiTK (hK : X.K = K := by rfl) : CallR X (.builtin "isinstance") (rIsiT K) := by subst hK; exact call_isiT
theorem tupleK (hK : X.K = K := by rfl) : CallR X (.type "tuple") (rTupleOf K) := by subst hK; exact call_tuple_of
theorem listK (hK : X.K = K := by rfl) : CallR X (.type "list") (rListOf K) := by subst hK; exact call_list_of
theorem int1K : CallR X (.type "int") rInt1 := call_int1
theorem allK (hc : X.calm = true) (hK : X.K = K := by rfl) : CallR X (.builtin "all") (rAll K) := by subst hK; exact cr_all hc
theorem pi_listK (he : PE X e te) (hK : X.K = K := by rfl) : PI X tg e (iList K te) := by subst hK; exact pi_list he
theorem pi_tupK (he : PE X e te) (hK : X.K = K := by rfl) : PI X tg e (iTup K te) := by subst hK; exact pi_tup he
theorem op_addS : OpR X (binaryOp .Add) rAddStr := op_add_str
theorem op_ltS : OpR X (compareOp .Lt) rLtStr := op_lt_str
theorem op_isNoneK : OpR X (compareOp .Is) rIsNon := op_isN
theorem op_notNoneK : OpR X (compareOp .IsNot) rNotNon := op_notN
end
/-- a def that is never called -/
theorem Cal.vac {P : Program} {w : World} {K : PySem.W.Frag} {mg : Str → Option Value} {base : Heap} {CX : CXT} {k : Nat} {x : Str} {st : Stmt} {ps : List Str} {R : Sd} (F : Def K mg x st ps) (h : ∀ ds m P, ¬ R ds m P) : Cal P w K mg base CX k x ps (spOf K R) := by
  obtain ⟨f, fd, F, hm, hb⟩ := F.ex
  refine ⟨f, fd, ⟨fun vs H Q E q => ?_, fun A outer s H args us vs Q E _ _ _ _ q => ?_⟩, hm, F.kp, hb⟩
  · obtain ⟨ds, m, b, P, _, _, hR, _⟩ := q
    exact absurd hR (h _ _ _)
  · obtain ⟨ds, m, b, P, _, _, hR, _⟩ := q
    exact absurd hR (h _ _ _)
end DL
end
section
set_option Elab.async false
set_option linter.all false
set_option maxRecDepth 100000
set_option maxHeartbeats 2000000
namespace DL
open PySem PySem.Spec PyProof.Rows L2
section
variable {K : PySem.W.Frag} {m : Mem} {P : D → Mem → Prop} {ρ : Env} {ta tb te : TE}
theorem op_inDK {X : Cx} (hu : X.A.units + 65 < cLine) (hK : X.K = K := by rfl) : OpR X (compareOp .In) (rInD K) := by subst hK; exact op_inD hu
theorem Room.u65 {k : Nat} {A : Around} (r : Room k A) : A.units + 65 < cLine := by have := r.un; omega
theorem wr_inD {x : D} {ds : List D} (h1 : Cmp x) (h2 : Cmp (.lst ds)) (k : P (.bl ((toPys ds).any fun z => PyData.eqv z (toPy x))) m) : WR K (rInD K) x (.lst ds) m P := fun b H v w ok r1 r2 Q q =>
  ⟨toPy x, toPys ds, r1.dp h1.1, r2.dp h2.1, h1.2, h2.2, q _ _ m H k (Step.refl _ _) ok (.bl _)⟩
/-- isinstance(x, (S, T)) -/
def kit2 (t a b : String) : Option Bool := match kitB t a with
  | some true => some true
  | some false => kitB t b
  | none => none
theorem kit2_any {t a b : String} {r : Bool} (h : kit2 t a b = some r) : PySem.W.kitAny K (.type t) [.type a, .type b] = some r := by
  unfold kit2 at h
  unfold PySem.W.kitAny
  cases e : kitB t a with
  | none => rw [e] at h; cases h
  | some c =>
    rw [e] at h
    rw [kit_ty e]
    cases c with
    | true => cases h; rfl
    | false =>
      show PySem.W.kitAny K (.type t) [.type b] = some r
      unfold PySem.W.kitAny
      rw [kit_ty h]
      cases r <;> rfl
theorem w_isiT {a b : String} (h : W K ta ρ m fun d m1 => pure d = true ∧ ∃ r, kit2 (tyD d) a b = some r ∧ P (.bl r) m1) :
    W K (tCB (rIsiT K) (tCons ta (tCons (tTup (tCons (tC (.ty a)) (tCons (tC (.ty b)) tNil))) tNil))) ρ m P := fun bk σ H s ok Q q =>
  h bk σ H s ok _ fun v d m1 H1 h1 st1 ok1 r1 => by
    obtain ⟨hp, r, hr, hP⟩ := h1
    refine ⟨by show 2 ≤ sizeLine; decide, fun p hp' => ?_⟩
    have st2 : Step m1 H1 m1 (upd H1 p (.tup [.ty a, .ty b])) := step_new hp'
    exact ⟨v, p, _, _, _, r, rfl, upd_same, .cons (.ty a) (.cons (.ty b) .nil), (r1.step st2 fun _ z => z).tyX hp, kit2_any hr, q _ _ m1 _ hP (st1.trans st2) (ok1.new hp') (.bl _)⟩
def isiStr : D → Bool
  | .str _ => true
  | _ => false
def isiTup : D → Bool
  | .tup _ => true
  | _ => false
def isiLst : D → Bool
  | .lst _ => true
  | .flst _ => true
  | _ => false
def isiTL : D → Bool
  | .tup _ => true
  | .lst _ => true
  | .flst _ => true
  | _ => false
def isiBool : D → Bool
  | .bl _ => true
  | _ => false
def isiInt : D → Bool
  | .bl _ => true
  | .int _ => true
  | _ => false
theorem wc_isStr {d : D} (hp : pure d = true) (k : P (.bl (isiStr d)) m) : WC K (rIsi K) [d, .ty "str"] m P := by
  refine wc_isi (r := isiStr d) hp ?_ k
  cases d <;> first | (cases hp; done) | (simp only [tyD, isiStr]; decide +kernel)
theorem wc_isTup {d : D} (hp : pure d = true) (k : P (.bl (isiTup d)) m) : WC K (rIsi K) [d, .ty "tuple"] m P := by
  refine wc_isi (r := isiTup d) hp ?_ k
  cases d <;> first | (cases hp; done) | (simp only [tyD, isiTup]; decide +kernel)
theorem wc_isLst {d : D} (hp : pure d = true) (k : P (.bl (isiLst d)) m) : WC K (rIsi K) [d, .ty "list"] m P := by
  refine wc_isi (r := isiLst d) hp ?_ k
  cases d <;> first | (cases hp; done) | (simp only [tyD, isiLst]; decide +kernel)
theorem wc_isBool {d : D} (hp : pure d = true) (k : P (.bl (isiBool d)) m) : WC K (rIsi K) [d, .ty "bool"] m P := by
  refine wc_isi (r := isiBool d) hp ?_ k
  cases d <;> first | (cases hp; done) | (simp only [tyD, isiBool]; decide +kernel)
theorem wc_isInt {d : D} (hp : pure d = true) (k : P (.bl (isiInt d)) m) : WC K (rIsi K) [d, .ty "int"] m P := by
  refine wc_isi (r := isiInt d) hp ?_ k
  cases d <;> first | (cases hp; done) | (simp only [tyD, isiInt]; decide +kernel)
theorem w_isTL (h : W K ta ρ m fun d m1 => pure d = true ∧ P (.bl (isiTL d)) m1) :
    W K (tCB (rIsiT K) (tCons ta (tCons (tTup (tCons (tC (.ty "tuple")) (tCons (tC (.ty "list")) tNil))) tNil))) ρ m P := w_isiT fun b σ H s ok Q q =>
  h b σ H s ok Q fun v d m' H' e st ok' r => q v d m' H' ⟨e.1, isiTL d, by
    have hp := e.1
    cases d <;> first | (cases hp; done) | (simp only [tyD, isiTL]; decide +kernel), e.2⟩ st ok' r
theorem wr_eqBl {x y : Bool} (k : P (.bl (decide (x = y))) m) : WR K (rEqD K) (.bl x) (.bl y) m P := by
  refine wr_eqD ⟨rfl, rfl⟩ ⟨rfl, rfl⟩ ?_
  have e : PyData.eqv (toPy (.bl x)) (toPy (.bl y)) = decide (x = y) := by
    show (x == y) = _
    rw [Bool.beq_eq_decide_eq]
  rw [e]
  exact k
theorem wr_neBl {x y : Bool} (k : P (.bl (!decide (x = y))) m) : WR K (rNeD K) (.bl x) (.bl y) m P := by
  refine wr_neD ⟨rfl, rfl⟩ ⟨rfl, rfl⟩ ?_
  have e : PyData.eqv (toPy (.bl x)) (toPy (.bl y)) = decide (x = y) := by
    show (x == y) = _
    rw [Bool.beq_eq_decide_eq]
  rw [e]
  exact k
def isW : Ty → Bool
  | .cell _ => false
  | .fn _ _ => false
  | _ => true
theorem wc_isiTyS {s : Ty} (k : P (.bl (isW s)) m) : WC K (rIsi K) [tyd s, .ty "str"] m P := by
  refine wc_isi (r := isW s) (ty_pure s) ?_ k
  cases s <;> (simp only [tyd, tyD, isW]; decide +kernel)
theorem wc_isiTyT {s : Ty} (k : P (.bl (!isW s)) m) : WC K (rIsi K) [tyd s, .ty "tuple"] m P := by
  refine wc_isi (r := !isW s) (ty_pure s) ?_ k
  cases s <;> (simp only [tyd, tyD, isW]; decide +kernel)
theorem wr_inAny {s t : Ty} (h1 : s.depth ≤ 60) (h2 : t.depth ≤ 60) (k : P (.bl (decide (s = .any) || decide (t = .any))) m) : WR K (rInD K) (.str "any") (.lst [tyd s, tyd t]) m P := by
  have c := pair_cmp h1 h2
  have c2 : Cmp (.lst [tyd s, tyd t]) := by
    refine ⟨c.1, ?_⟩
    have q := c.2
    unfold SeqAt.shaped at q ⊢
    exact q
  refine wr_inD (ty_cmp (t := .any) (by decide)) c2 ?_
  show P (.bl ([toPy (tyd s), toPy (tyd t)].any fun z => PyData.eqv z (toPy (tyd .any)))) m
  rw [List.any_cons, List.any_cons, List.any_nil, Bool.or_false, ty_eqv, ty_eqv]
  exact k
end
end DL
end
section
set_option Elab.async false
set_option linter.all false
set_option maxRecDepth 100000
set_option maxHeartbeats 2000000
/-! all(test for x in a tuple) -/
namespace GXT
open PySem PySem.Spec PyProof.Rows L2 GxR
/-- the test at a place of the tuple -/
def atPl (pb : V → Bool) (xs : List V) (j : Nat) : Bool := (xs[j]?.map pb).getD false
theorem all_atPl (pb : V → Bool) (xs : List V) : (List.range xs.length).all (atPl pb xs) = xs.all pb := by
  rw [Bool.eq_iff_iff, List.all_eq_true, List.all_eq_true]
  refine ⟨fun h y hy => ?_, fun h j hj => ?_⟩
  · obtain ⟨j, hj, ej⟩ := List.getElem_of_mem hy
    have q := h j (List.mem_range.mpr hj)
    unfold atPl at q
    rw [List.getElem?_eq_getElem hj, ej] at q
    exact q
  · have hj' := List.mem_range.mp hj
    unfold atPl
    rw [List.getElem?_eq_getElem hj']
    exact h _ (List.getElem_mem hj')
/-- what the element must do: a test of the item, nothing written -/
def EltT (X : Cx) (scope : Scope) (x : Str) (elt : Expr) (adm : V → Prop) (pb : V → Bool) : Prop :=
  ∀ (ce : PySem.Env) (A' : Around) (E' : Value → Shared → Prop) (y : V) (u : Value) (s2 : Shared) (m2 : Str → Option Value), ce.scope = scope → ce.globals = X.env.globals → A'.handled = none → A'.depth ≤ X.A.depth + 1 → A'.units ≤ X.A.units + 8 →
    (∀ b o, X.base.get? b = some o → s2.heap.get? b = some o) → s2.heap.Ns ce.locals m2 → m2 x = some u → RelV y u → adm y →
    wpAny (model X.prog X.w) A' (eval elt ce) (fun z s3 => z = .bool (pb y) ∧ Keeps s2 s3) E' s2
section
variable {X : Cx} {pins : List (Addr × Obj)} {σ : L2.St} {H : Hp} {s : Shared}
/-- the generator over a tuple of xs, ready to be walked -/
def RdyT (X : Cx) (pins : List (Addr × Obj)) (σ : L2.St) (H1 : Hp) (P : Addr) (xs : List V) (pb : V → Bool) (g : Addr) (s5 : Shared) : Prop :=
  ∃ (fp wr : List Addr) (G : Array GenState → Array GenState → Prop) (F : Nat → Value → Prop) (St : Nat → Shared → Prop),
    WalksS X.prog X.w X.A.in1 g fp wr G xs.length F St ∧ St 0 s5 ∧ TruthOf X.prog X.w X.A.in1 F (atPl pb xs) ∧ ∀ s', Moved wr G s5 s' → ∃ H2, Tabbed P H1 H2 ∧ Inv X pins σ H2 s'
theorem gen_tup {c P : Addr} {elt iter : Expr} {x : Str} {px gpos : Pos} {scope : Scope} {pb : V → Bool} {adm : V → Prop} {te : TE} {k : Nat} {Q' : Value → Shared → Prop} {R : List V → Hp → Prop}
    (hr : Room k X.A) (TB : TabB X.base X.mg c P) (hcode : X.env.code = .ref c) (S : GenS X.env scope x) (hi : PE X iter te) (hel : EltT X scope x elt adm pb) (hfold : ∀ v, genFold iter X.env v = Pure.pure v) (I : Inv X pins σ H s)
    (h : te σ H fun v H1 => ∃ (a : Addr) (xs : List V), v = .ref a ∧ SqT X.K H1 a xs ∧ TabG H1 P ∧ (∀ y ∈ xs, adm y) ∧ R xs H1)
    (hQ : ∀ xs H1 g s5, R xs H1 → RdyT X pins σ H1 P xs pb g s5 → Q' (.ref g) s5) : wpAny (model X.prog X.w) X.A (eval (.GeneratorExp elt [⟨.Name x px, iter, [], 0⟩] scope gpos) X.env) Q' X.xe s := by
  have hdp : X.A.depth < recursionLimit := by
    have := hr.dp
    omega
  refine wpAny_GeneratorExp_walksQD hr.hd S.co (closure_ok S.free) S.cell S.dot S.loc S.kind hdp ?_ hfold
  refine thn (hi.run pins s σ H _ I h) fun xv s1 hx => ?_
  obtain ⟨v, H1, I1, rv, ax, xs, rfl, sq, ⟨ps, hP, htri⟩, hadm, hR⟩ := hx
  cases rv
  obtain ⟨its, rits, htup, hsz⟩ := I1.tuple sq
  have htup : s1.heap.IsTuple ax its.toArray := htup
  refine wpAny_pyIter_tuple htup ?_
  -- the iterator's object, the heap behind it
  generalize ho : ({ cls := .type "tuple_iterator", data := .fields #[.ref ax, .int 0 0] } : Obj) = o
  have sP : s1.heap.get? P = some { cls := .none, data := .fields ps } := I1.hok P _ hP
  have pLt : P < s1.heap.objs.size := Heap.lt_size sP
  have pushed : ∀ b u, s1.heap.get? b = some u → (s1.heap.push o).get? b = some u := fun b u e => Heap.get?_push_of_some _ e
  have sP2 := pushed _ _ sP
  have tup2 : (s1.heap.push o).IsTuple ax its.toArray := htup.at fun q e => pushed ax q e
  have axNe : ax ≠ s1.heap.objs.size := by
    obtain ⟨q, e, _⟩ := htup
    exact Nat.ne_of_lt (Heap.lt_size e)
  have axP : ax ≠ P := by
    intro z
    obtain ⟨q, e, e2, _⟩ := htup
    rw [z, sP] at e
    cases e
    cases e2
  have iter2 : (s1.heap.push o).IsTupleIter s1.heap.objs.size ax 0 := by
    subst ho
    exact ⟨_, Heap.get?_push_size _ rfl, rfl, rfl⟩
  have hd2 : PySem.W.CodeHd (s1.heap.push o) c P := TB.code.keeps fun b u e => pushed b u (I1.bk b u e)
  have lim2 : (s1.heap.push o).NoLimit := I1.nolimit.push o
  have size2 : (s1.heap.push o).objs.size = s1.heap.objs.size + 1 := Heap.size_push ..
  have go : ∀ (code : Value) (h3 : Heap) (tk : Nat) (ps3 : Array Value), Heap.ExtBut P (s1.heap.push o) h3 → (s1.heap.push o).objs.size ≤ h3.objs.size → h3.get? P = some { cls := .none, data := .fields ps3 } → (∃ more, ps3 = ps ++ more) → TriplesOk ps3.toList →
      wpAny (model X.prog X.w) X.A (builtinsFor X.env.globals X.env.builtins) (fun bi s4 =>
        ∃ Ia fp wr n0 Pf St0 pz F, Value.ref s1.heap.objs.size = .ref Ia ∧ (∀ A' : Around, A'.handled = none → Walks X.prog X.w A' Ia fp wr n0 Pf St0) ∧ St0 0 s4.heap ∧ (∀ b ∈ fp, b < s4.heap.objs.size) ∧ s4.heap.NoLimit ∧ cStatics ∉ wr ∧
          (∀ href : Heap, (∀ b u, s4.heap.get? b = some u → href.get? b = some u) →
            QuietGenD X.prog X.w (genEnv scope (cloFrom X.env.cells scope.names []) s4.heap.objs.size code bi X.env) x [] elt (List.range s4.heap.objs.size) wr Pf pz F href (X.A.depth + 1) (X.A.units + 8)) ∧
          (∀ a h5 tk5 gs, gs.bare = true → s4.heap.objs.size < a → h5.objs.size = a + 1 → (∀ b u, s4.heap.get? b = some u → h5.get? b = some u) →
            WalksS X.prog X.w X.A.in4 a (a :: s4.heap.objs.size :: List.range s4.heap.objs.size) (s4.heap.objs.size :: wr) (GenOnlyQ s4.gens.size) (passing pz n0 0).length
              (fun j y => ∃ i, (passing pz n0 0)[j]? = some i ∧ F i y) (GenAt X.prog X.w X.A.in4 a s4.gens.size s4.heap.objs.size (List.range s4.heap.objs.size) wr pz n0 F) →
            GenAt X.prog X.w X.A.in4 a s4.gens.size s4.heap.objs.size (List.range s4.heap.objs.size) wr pz n0 F 0 { s4 with gens := s4.gens.push gs, toks := tk5, heap := h5 } →
            Q' (.ref a) { s4 with gens := s4.gens.push gs, toks := tk5, heap := h5 })) X.xe { s1 with heap := h3, toks := tk } := by
    intro code h3 tk ps3 ext hsz3 sP3 hmore htri3
    obtain ⟨bm, ob, b1, b2, b3, b4, b5, b6, b7, b8⟩ := TB.bm
    have stP : cStatics ≠ P := fun e => by
      obtain ⟨_, hns, _⟩ := I1.nolimit
      obtain ⟨q, es, ep, hq, hqd, _⟩ := hns
      rw [e, sP] at hq
      cases hq
      cases hqd
    have stLt : cStatics < s1.heap.objs.size := by
      obtain ⟨_, hns, _⟩ := I1.nolimit
      exact hns.lt
    have old3 : ∀ b u, b ≠ P → s1.heap.get? b = some u → h3.get? b = some u := fun b u hb e => ext b u hb (pushed b u e)
    have base3 : ∀ b u, X.base.get? b = some u → b ≠ P → h3.get? b = some u := fun b u e hb => old3 b u hb (I1.bk b u e)
    refine wpAny_builtinsFor (m := X.mg) (by rw [I1.ok.glob]; exact ((I1.mod.glob.keeps I1.bk).push o).extBut ext TB.gP) b1 b2 (old3 _ _ b4 (I1.bk _ _ b5)) b6 b7 b8 ?_
    refine ⟨s1.heap.objs.size, [s1.heap.objs.size, ax], [s1.heap.objs.size], its.toArray.size, (fun i v => its.toArray[i]? = some v), (fun i h => h.IsTupleIter s1.heap.objs.size ax i ∧ h.IsTuple ax its.toArray), (fun _ => true),
      (fun i z => ∃ y, xs[i]? = some y ∧ z = .bool (pb y)), rfl, fun A' hA => Walks.tuple hA _ ax axNe its.toArray, ?_, ?_, lim2.extBut ext stP, ?_, ?_, ?_⟩
    · exact ⟨iter2.at fun q e => ext _ q (Nat.ne_of_gt pLt) e, tup2.at fun q e => ext _ q axP e⟩
    · intro b hb
      have axLt : ax < s1.heap.objs.size := by
        obtain ⟨q, e, _⟩ := htup
        exact Heap.lt_size e
      have up : s1.heap.objs.size < h3.objs.size := Nat.lt_of_lt_of_le (by rw [size2]; exact Nat.lt_succ_self _) hsz3
      show b < h3.objs.size
      rcases List.mem_cons.mp hb with z | z
      · rw [z]
        exact up
      · have z : b = ax := by simpa using z
        rw [z]
        exact Nat.lt_trans axLt up
    · intro z
      have z : cStatics = s1.heap.objs.size := by simpa using z
      exact Nat.ne_of_lt stLt z
    · intro href hh
      refine ⟨fun A' E' i v s2 m2 hA _ _ hv hn hm hk => ?_, fun A' E' i v s2 m2 hA hdp' hun hv hp hn hm hk => ?_⟩
      · simp only [List.forIn_nil]
        exact wpAny_pure ⟨rfl, keeps_refl _⟩
      · have hv : its[i]? = some v := by simpa using hv
        obtain ⟨y, hy, ry⟩ : ∃ y, xs[i]? = some y ∧ RelV y v := by
          cases e : xs[i]? with
          | none =>
            rw [rits.none_of e] at hv
            cases hv
          | some y =>
            obtain ⟨u, hu, ru⟩ := rits.get e
            rw [hu] at hv
            cases hv
            exact ⟨y, rfl, ru⟩
        have base2 : ∀ b u, X.base.get? b = some u → s2.heap.get? b = some u := fun b u e => by
          have bLt : b < s1.heap.objs.size := Heap.lt_size (I1.bk b u e)
          have bP : b ≠ P := fun z => by
            have q := (I1.bs b u e).2
            rw [z, hP] at q
            cases q
          have e3 : h3.get? b = some u := base3 b u e bP
          refine hk b (List.mem_range.mpr (Heap.lt_size e3)) (fun z => ?_) u (hh b u e3)
          have z : b = s1.heap.objs.size := by simpa using z
          exact Nat.ne_of_lt bLt z
        refine wpAny_mono (hel _ A' E' y v s2 m2 rfl rfl hA hdp' hun base2 hn hm ry (hadm y (List.mem_of_getElem? hy))) (fun z s3 r => ⟨⟨y, hy, r.1⟩, r.2⟩) fun _ _ e => e
    · intro g h5 tk5 gs hgb hag hsz5 hk5 W5 hat
      have hpass : passing (fun _ => true) its.toArray.size 0 = List.range its.toArray.size := passing_true _
      rw [hpass, List.length_range] at W5
      have hlen : its.toArray.size = xs.length := by rw [List.size_toArray, rits.length]
      rw [hlen] at W5 hat
      refine hQ xs H1 g _ hR ⟨_, _, _, _, _, W5.in4_1, hat, ?_, fun s' hmv => ?_⟩
      · intro j z sj Qj Ej hz hQj
        obtain ⟨i, hij, y, hy, rfl⟩ := hz
        obtain ⟨hj, ej⟩ := List.getElem?_eq_some_iff.mp hij
        rw [List.getElem_range] at ej
        subst ej
        have hQ2 : Qj (atPl pb xs j) sj := hQj
        unfold atPl at hQ2
        rw [hy] at hQ2
        exact wpAny_truthy_bool hQ2
      · obtain ⟨more, em⟩ := hmore
        have notw : ∀ b u, s1.heap.get? b = some u → b ∉ h3.objs.size :: [s1.heap.objs.size] := fun b u e hb => by
          have hl := Heap.lt_size e
          have hb : b = h3.objs.size ∨ b = s1.heap.objs.size := by simpa using hb
          rcases hb with z | z <;> (rw [z] at hl; have hl : (_ : Nat) < s1.heap.objs.size := hl; omega)
        have J := inv_tab (more := more) (h' := s'.heap) (g' := s'.gens) (d' := s'.drawn) (t' := s'.toks) I1 hP (fun b u hb e => hmv.heap b u (notw b u e) (hk5 b u (old3 b u hb e)))
          (by rw [← em]; exact hmv.heap P _ (notw P _ sP) (hk5 P _ sP3)) (AllBare.movedS (I1.bare.push hgb) hmv)
        rw [sh_eta s1 s' hmv.os] at J
        exact ⟨upd H1 P (.tbl (ps ++ more)), ⟨⟨ps ++ more, upd_same, by rw [← em]; exact htri3⟩, fun b hb => upd_ne hb⟩, J⟩
  refine ⟨lim2, ?_⟩
  cases hf : codeAmong gpos ps.toList with
  | none =>
    refine wpAny_genexprCodeX hcode (hd2.code sP2 htri) (hd2.tab sP2) hf fun c' h' tk ext hge hlt hco' _ htab' _ => ?_
    have htr := hco'
    obtain ⟨_, _, _, _, _, _, _, _, _, _, _, _, _, _, _, _, _, _, _, htr, _⟩ := hco'
    exact go _ h' tk _ ext (Nat.le_trans hge (Nat.le_of_lt hlt)) htab'.2 ⟨_, rfl⟩ htr
  | some cv =>
    refine wpAny_genexprCode_hit hcode (hd2.code sP2 htri) hf ?_
    exact go cv (s1.heap.push o) s1.toks ps (Heap.ExtBut.refl _ _) (Nat.le_refl _) sP2 ⟨#[], by simp⟩ htri
/-- all(test for x in t), t a tuple -/
def tAllT (K : PySem.W.Frag) (P : Addr) (adm : V → Prop) (pb : V → Bool) (te : TE) : TE := fun σ H Q => te σ H fun v H1 => ∃ (a : Addr) (xs : List V), v = .ref a ∧ SqT K H1 a xs ∧ TabG H1 P ∧ (∀ y ∈ xs, adm y) ∧ ∀ H2, Tabbed P H1 H2 → Q (.bl (xs.all pb)) H2
theorem pe_allT {c P : Addr} {elt iter : Expr} {x : Str} {px p pos gpos : Pos} {scope : Scope} {pb : V → Bool} {adm : V → Prop} {te : TE} {k : Nat} (hr : Room k X.A) (hg : Gl X "all") (hm : X.mg "all" = none) (TB : TabB X.base X.mg c P) (hcode : X.env.code = .ref c)
    (S : GenS X.env scope x) (hi : PE X iter te) (hel : EltT X scope x elt adm pb) (hfold : ∀ v, genFold iter X.env v = Pure.pure v)
    (he : starEach [.GeneratorExp elt [⟨.Name x px, iter, [], 0⟩] scope gpos] X.env = (false, eval (.GeneratorExp elt [⟨.Name x px, iter, [], 0⟩] scope gpos) X.env) :: starEach [] X.env := by rfl) :
    PE X (.Call (.Name "all" p) [.GeneratorExp elt [⟨.Name x px, iter, [], 0⟩] scope gpos] [] pos) (tAllT X.K P adm pb te) := by
  refine ⟨fun pins s σ H Q I h => ?_⟩
  refine wpAny_Call_Name_kw (ld_blt I hg hm (by decide +kernel : bootBuiltins "all" = some (.builtin "all")) ?_)
  refine PyProof.Rows.callWith_builtin1 ?_ he (by rfl)
  rw [he]
  refine Calls.spliced_cons (gen_tup (R := fun xs H1 => ∀ H2, Tabbed P H1 H2 → Q (.bl (xs.all pb)) H2) hr TB hcode S hi hel hfold I h fun xs H1 g s5 hR hG => ?_)
  obtain ⟨fp, wr, G, F, St, Wk, hst, htr, hI⟩ := hG
  refine Calls.spliced_nil (call_all_walkS (Wk.self 0 _ _ _ hst ⟨g, fp, wr, G, _, F, St, _, rfl, Wk, hst, htr, fun s' hmv => ?_⟩))
  obtain ⟨H2, hT, J⟩ := hI s' hmv
  refine ⟨.bl _, H2, J, rfl, ?_⟩
  rw [all_atPl pb xs]
  exact hR H2 hT
/-- x in T, T a written tuple of flat things -/
theorem elt_inK {scope : Scope} {x t : Str} {a : Addr} {ys : List V} {p1 p2 p3 : Pos} (hk : scope.kind = .function) (hl : scope.names.lookup x = some .local) (hT : scope.names.lookup t = some .globalImplicit) (hok : X.env.globals = mainGlobals) (hmod : X.K.In X.base ∧ X.base.Ns mainGlobals X.mg)
    (hm : X.mg t = some (.ref a)) (hys : SqT X.K (fun _ => none) a ys) (fl : ys.all flatV = true) (hd : (x == ("__debug__" : Str)) = false := by decide) (hd2 : (t == ("__debug__" : Str)) = false := by decide) :
    EltT X scope x (.Compare (.Name x p1) [.In] [.Name t p2] p3) (fun y => flatV y = true) (fun y => inV y ys) := by
  intro ce A' E' y u s2 m2 hs hgl hA _ _ hb hn hm2 ry fy
  refine wpAny_Compare1 ?_ (by rfl)
  refine wpAny_Name (wpAny_loadName_local (by rw [hs]; exact hk) (show ce.scope.names.lookup x = some .local by rw [hs]; exact hl) hn hm2 ?_) hd
  have gNs : s2.heap.Ns ce.globals X.mg := by
    rw [hgl, hok]
    exact hmod.2.keeps hb
  refine Calls.Name_function_global (by rw [hs]; exact hk) (show ce.scope.names.lookup t = some .globalImplicit by rw [hs]; exact hT) (Calls.loadGlobal_global gNs hm ?_) hd2
  rcases hys with (z | ⟨_, z⟩) | ⟨o, its, n, h1, h2, h3, _, h5⟩
  · cases z
  · cases z
  · have tup : s2.heap.IsTuple a its := ⟨o, hb _ _ (hmod.1 _ _ h1), h2, n, h3⟩
    refine SeqAt.in_tupleAt (eqU y) tup (fun w' hw => mem_eqAt ry fy h5 fl w' (by simpa using hw)) ⟨?_, keeps_refl _⟩
    have e : its.any (eqU y) = its.toList.any (eqU y) := by simp
    rw [e, any_eqU h5 fl]
    rfl
end
end GXT
end
section
set_option Elab.async false
set_option linter.all false
set_option maxRecDepth 100000
set_option maxHeartbeats 2000000
namespace DL
open PySem PySem.Spec PyProof.Rows L2
theorem wipe_key (τ : L2.St) (us : List Nat) (k : Nat) : (L2.wipe τ us)[k]? = if k ∈ us then (if k < τ.length then some none else none) else τ[k]? := by
  induction us with
  | nil => simp [L2.wipe]
  | cons u us ih =>
    show ((L2.wipe τ us).set u none)[k]? = _
    rw [List.getElem?_set]
    by_cases e : u = k
    · subst e
      simp [L2.wipe_length]
    · rw [if_neg e, ih]
      by_cases hk : k ∈ us
      · rw [if_pos hk, if_pos (List.mem_cons_of_mem _ hk)]
      · rw [if_neg hk, if_neg (fun z => (List.mem_cons.mp z).elim (fun z => e z.symm) hk)]
theorem wipe_set {τ : L2.St} {j : Nat} {x : Option V} {vs : List Nat} (hj : j ∈ vs) : L2.wipe (τ.set j x) vs = L2.wipe τ vs := by
  refine List.ext_getElem? fun k => ?_
  rw [wipe_key, wipe_key, List.length_set]
  by_cases hk : k ∈ vs
  · rw [if_pos hk, if_pos hk]
  · rw [if_neg hk, if_neg hk, List.getElem?_set_ne (fun z => hk (by rw [← z]; exact hj))]
theorem wipe_two {τ : L2.St} {vs : List Nat} : L2.wipe (L2.wipe τ vs) vs = L2.wipe τ vs := by
  refine List.ext_getElem? fun k => ?_
  rw [wipe_key, wipe_key]
  by_cases hk : k ∈ vs
  · rw [if_pos hk, if_pos hk, L2.wipe_length]
  · rw [if_neg hk, if_neg hk]
section
variable {X : Cx} {K : PySem.W.Frag}
theorem pi_zipK {e e2 : Expr} {ta : TA} {p pos tpos : Pos} {elts : List Expr} {kk : Nat} (hg : Gl X "zip") (hm : X.mg "zip" = none) (ha : PA X [e, e2] ta) (hK : X.K = K := by rfl)
    (hs : starEach [e, e2] X.env = (false, eval e X.env) :: starEach [e2] X.env := by rfl) (hpl : (backTo pos (starEach [e2] X.env)).any (·.1) = false := by rfl) : PI X (.Tuple elts kk tpos) (.Call (.Name "zip" p) [e, e2] [] pos) (RZ.iZipA K ta) := by
  subst hK
  exact RZ.pi_zipA hg hm ha hs hpl
theorem pg_tupK {es : List Expr} {k : Nat} {t : TGs} {n : Nat} {pos : Pos} (hc : X.calm = true) (h : PGs X es t) (hK : X.K = K := by rfl) (hn : (assignEach es X.env).length = n := by rfl) (hst : (assignEach es X.env).findIdx? (·.1) = none := by rfl) :
    PG X (.Tuple es k pos) (gTup K n t) := by
  subst hK
  exact pg_tup hc h hn hst
theorem pe_allTK {c P : Addr} {elt iter : Expr} {x : Str} {px p pos gpos : Pos} {scope : Scope} {pb : V → Bool} {adm : V → Prop} {te : TE} {k : Nat} (hr : Room k X.A) (hm : X.mg "all" = none) (TB : GxR.TabB X.base X.mg c P) (hcode : X.env.code = .ref c)
    (S : GxR.GenS X.env scope x) (hi : PE X iter te) (hel : GXT.EltT X scope x elt adm pb) (hK : X.K = K := by rfl) (hg : Gl X "all" := by rfl) (hfold : ∀ v, genFold iter X.env v = Pure.pure v := by intro _; rfl)
    (he : starEach [.GeneratorExp elt [⟨.Name x px, iter, [], 0⟩] scope gpos] X.env = (false, eval (.GeneratorExp elt [⟨.Name x px, iter, [], 0⟩] scope gpos) X.env) :: starEach [] X.env := by rfl) :
    PE X (.Call (.Name "all" p) [.GeneratorExp elt [⟨.Name x px, iter, [], 0⟩] scope gpos] [] pos) (GXT.tAllT K P adm pb te) := by
  subst hK
  exact GXT.pe_allT hr hg hm TB hcode S hi hel hfold he
end
section
variable {K : PySem.W.Frag} {ρ ρ2 : Env} {m : Mem} {P : D → Mem → Prop} {ta tb te : TE} {tt : TT} {tr : TA}
theorem lc_turnG {Iv : Nat → Mem → List D → Prop} {b : Blk} {Dl : Addr} {m1 m' : Mem} {H1 H' H2 : Hp} {i : Nat} {σ2 : L2.St} {acc : List D} {vacc : List V} (hD : H1 Dl = none) (hi : i < 100000) (hl : acc.length ≤ i) (st : Step m1 H1 m' H') (hD' : H' Dl = some (.lst vacc))
    (ok : Ok K m' (fun a => b a ∨ a = Dl) H') (rs : Rps K m' (fun a => b a ∨ a = Dl) H' vacc acc) (st' : Step m' H' m' H2) (ok' : Ok K m' (fun a => b a ∨ a = Dl) H2) (s2 : Sl K m' (fun a => b a ∨ a = Dl) H2 σ2 ρ2)
    (hs : WT K tt ρ2 m' fun c m2 => if c = true then W K te ρ2 m2 fun y m3 => Iv (i + 1) m3 (acc ++ [y]) else Iv (i + 1) m2 acc) :
    tt σ2 H2 fun c H3 => if c = true then te σ2 H3 fun y H4 => ∃ acc, H4 Dl = some (.lst acc) ∧ acc.length < sizeLine ∧ LcP K b Iv m1 H1 Dl (i + 1) (upd H4 Dl (.lst (acc ++ [y]))) else LcP K b Iv m1 H1 Dl (i + 1) H3 := by
  have md : m' Dl = none := (ok.blk Dl (.inr rfl)).1
  refine hs _ _ H2 s2 ok' _ fun c m2 H3 h2 st2 ok2 => ?_
  have st02 := st'.trans st2
  cases c with
  | false => exact ⟨m2, acc, vacc, h2, Nat.le_succ_of_le hl, st.trans st02, ok2, (st02.keep _ _ hD' md).1, rs.step st02 fun _ z => z⟩
  | true =>
    refine h2 _ _ H3 (s2.step st2 fun _ z => z) ok2 _ fun y d m3 H4 h3 st3 ok3 r3 => ?_
    have st03 := st02.trans st3
    have hD4 := (st03.keep _ _ hD' md).1
    have lenv := rs.length
    refine ⟨vacc, hD4, Nat.lt_of_le_of_lt (by rw [lenv]; exact hl) (Nat.lt_of_lt_of_le hi (by decide)), ?_⟩
    obtain ⟨ok4, up⟩ := blk_upd hD4 ok3 (vacc ++ [y])
    have ups : ∀ vs ds, Rps K m3 (fun a => b a ∨ a = Dl) H4 vs ds → Rps K m3 (fun a => b a ∨ a = Dl) (upd H4 Dl (.lst (vacc ++ [y]))) vs ds := fun vs ds h => by
      induction vs generalizing ds with
      | nil =>
        cases h
        exact .nil
      | cons v vs ih =>
        cases h with
        | cons h1 h2 => exact .cons (up _ _ h1) (ih _ h2)
    refine ⟨m3, acc ++ [d], vacc ++ [y], h3, by simp only [List.length_append, List.length_singleton]; omega, ⟨fun a o e1 e2 => ?_⟩, ok4, upd_same, (ups _ _ (rs.step st03 fun _ z => z)).append (.cons (up _ _ r3) .nil)⟩
    have k := (st.trans st03).keep a o e1 e2
    exact ⟨(upd_ne (ne_of_none e1 hD)).trans k.1, k.2⟩
/-- [e for x, y in zip(t, u)], two tuples of any lengths -/
theorem w_lcZT {j1 j2 n2 : Nat} {vs : List Nat} (Iv : Nat → Mem → List D → Prop) (h1 : j1 ∈ vs) (h2 : j2 ∈ vs) (hn2 : n2 = 2)
    (h : WA K tr ρ m fun ds m1 => ∃ es fs, ds = [.tup es, .tup fs] ∧ es.length ≤ 100000 ∧ Iv 0 m1 [] ∧
      (∀ i x y m' acc, es[i]? = some x → fs[i]? = some y → Iv i m' acc → WT K tt (((wipeD ρ vs).set j1 (some x)).set j2 (some y)) m' fun c m2 => if c = true then W K te (((wipeD ρ vs).set j1 (some x)).set j2 (some y)) m2 fun y m3 => Iv (i + 1) m3 (acc ++ [y]) else Iv (i + 1) m2 acc) ∧
      ∀ m' acc, Iv (min es.length fs.length) m' acc → P (.lst acc) m') :
    W K (tLc (RZ.iZipA K tr) (gTup K n2 (gCons (gName j1) (gCons (gName j2) gNil))) tt te vs) ρ m P := fun b σ H s ok Q q =>
  h b σ H s ok _ fun us ds m1 H1 hh st1 ok1 r => by
    obtain ⟨es, fs, rfl, hlen, h0, hs, hend⟩ := hh
    cases r with
    | cons r1 r2 =>
      cases r2 with
      | cons r2 r3 =>
        cases r3
        have stay : ∀ {v : V} {es : List D}, Rp K m1 b H1 v (.tup es) → ∃ a xs, v = .ref a ∧ SqT K H1 a xs ∧ Rps K m1 b H1 xs es ∧ ∀ m' H', Step m1 H1 m' H' → SqT K H' a xs := fun {v es} r => by
          cases r with
          | tup h hs =>
            refine ⟨_, _, rfl, ?_, hs, fun m' H' st => ?_⟩
            · exact h.elim (fun h => .inl h.1) fun h => h.sq
            · exact h.elim (fun h => .inl (rd_step st h.1 h.2.1).1) fun h => h.sq
        obtain ⟨a, xs, rfl, sq1, rs1, stay1⟩ := stay r1
        obtain ⟨c, ys, rfl, sq2, rs2, stay2⟩ := stay r2
        refine ⟨a, c, xs, ys, rfl, .inr ⟨sq1, sq2, fun Dl hD => ?_⟩⟩
        have s1 := s.step st1 fun _ z => z
        have lx := rs1.length
        have ly := rs2.length
        -- the word of the turns
        refine ⟨fun i mm H' => mm = min xs.length ys.length - i ∧ i ≤ min xs.length ys.length ∧ LcP K b Iv m1 H1 Dl i H', ⟨_, rfl, Nat.zero_le _, m1, [], [], h0, Nat.zero_le _, step_new hD, ok1.blkd hD [], upd_same, .nil⟩, ?_⟩
        rintro i mm H' ⟨rfl, hi, p⟩
        obtain ⟨m', acc, vacc, iv, hl, st, ok', hD', rs'⟩ := p
        by_cases hlt : i < min xs.length ys.length
        · have hx : xs[i]? = some (xs[i]'(by omega)) := List.getElem?_eq_getElem _
          have hy : ys[i]? = some (ys[i]'(by omega)) := List.getElem?_eq_getElem _
          refine .inr ⟨⟨xs, ys, _, _, stay1 m' H' st, stay2 m' H' st, hx, hy⟩, LcP K b Iv m1 H1 Dl (i + 1), fun H2 p2 => ⟨_, by omega, rfl, by omega, p2⟩, fun v H2 y => ?_⟩
          obtain ⟨T, x', y', rfl, hT, rfl, f1, f2⟩ := y
          have hx' := f1 xs (stay1 m' H' st)
          have hy' := f2 ys (stay2 m' H' st)
          obtain ⟨dx, hdx, rx⟩ := rs1.get' hx'
          obtain ⟨dy, hdy, ry⟩ := rs2.get' hy'
          have stT : Step m' H' m' (upd H' T (.tup [x', y'])) := step_new hT
          refine ⟨T, [x', y'], rfl, .inl (.inl upd_same), hn2.symm, _, _, rfl, _, _, rfl, rfl, ?_, ?_⟩
          · rw [wipe_set h2, wipe_set h1, wipe_two]
          · have up : ∀ {v : V} {d : D}, Rp K m1 b H1 v d → Rp K m' (fun a => b a ∨ a = Dl) (upd H' T (.tup [x', y'])) v d := fun {v d} r => by
              have sx : Sl K m1 b H1 [some v] [some d] := ⟨rfl, fun i e q => by
                cases i with
                | zero =>
                  simp at q
                  subst q
                  exact ⟨v, rfl, r⟩
                | succ i => simp at q⟩
              obtain ⟨w, z1, z2⟩ := (sx.blk hD (st.trans stT)).at_ 0 d rfl
              simp at z1
              subst z1
              exact z2
            exact lc_turnG hD (by omega) hl st hD' ok' rs' stT (ok'.new hT) ((((s1.blk hD (st.trans stT)).wipe vs).set j1 (up rx)).set j2 (up ry)) (hs i dx dy m' acc hdx hdy iv)
        · have e : i = min xs.length ys.length := by omega
          refine .inl ⟨⟨xs, ys, stay1 m' H' st, stay2 m' H' st, by omega⟩, ?_⟩
          have f := ok1.fresh hD
          rw [e, lx, ly] at iv
          exact q _ _ m' H' (hend m' acc iv) (st1.trans st) ok'.unblk (.lst ⟨hD', (ok'.blk Dl (.inr rfl)).1, f.2⟩ rs'.unblk)
/-- all(x in T for x in t): the def's table stands in the memory -/
theorem w_allT {Pt : Addr} {adm : V → Prop} {pb : V → Bool} (pd : D → Bool)
    (h : W K te ρ m fun d m1 => ∃ ds, d = .tup ds ∧ m1 Pt = some .tab ∧ (∀ b H xs, Rps K m1 b H xs ds → (∀ y ∈ xs, adm y) ∧ xs.all pb = ds.all pd) ∧ P (.bl (ds.all pd)) m1) :
    W K (GXT.tAllT K Pt adm pb te) ρ m P := fun b σ H s ok Q q =>
  h b σ H s ok _ fun v d m1 H1 hh st1 ok1 r => by
    obtain ⟨ds, rfl, ht, hp, k⟩ := hh
    obtain ⟨a, xs, rfl, sq, rs⟩ := r.tup_ref
    have hp := hp b H1 xs rs
    refine ⟨a, xs, rfl, sq, ok1.has Pt _ ht, hp.1, fun H2 hT => ?_⟩
    rw [hp.2]
    have st2 : Step m1 H1 m1 H2 := ⟨fun c o e1 e2 => ⟨by
      rw [hT.2 c (fun z => by rw [z, ht] at e2; cases e2)]
      exact e1, e2⟩⟩
    refine q _ _ m1 H2 k (st1.trans st2) ⟨fun c o e => ?_, fun c hc => ⟨(ok1.blk c hc).1, ?_⟩⟩ (.bl _)
    · by_cases z : c = Pt
      · subst z
        rw [ht] at e
        cases e
        exact hT.1
      · exact (ok1.has c o e).step st2 (fun _ z => z) (hT.2 c z)
    · have z : c ≠ Pt := fun z => by
        have := (ok1.blk c hc).1
        rw [z, ht] at this
        cases this
      rw [hT.2 c z]
      exact (ok1.blk c hc).2
end
end DL
end
section
set_option Elab.async false
set_option linter.all false
set_option maxRecDepth 100000
set_option maxHeartbeats 2000000
namespace DL
open PySem PySem.Spec PyProof.Rows L2
/-- a def whose code object stands at c -/
structure DefC (K : PySem.W.Frag) (mg : Str → Option Value) (x : Str) (st : Stmt) (ps : List Str) (c : Addr) : Prop where
  ex : ∃ (f : Addr) (oc : Value) (od : Option Addr) (kV doc pm : Value) (an : Option Addr) (ct : Value) (osl : Array (Option Value)),
    K.lookup f = some ⟨oc, od, .func (PySem.W.fnOf x x (defArgs st) (defBody st) (defScope st) .none kV doc pm an (.ref c) ct), osl⟩ ∧ PySem.W.codeIn K (.ref c) x = true ∧ PySem.W.keepIn K (.ref f) = true ∧ mg x = some (.ref f) ∧
    Binds K (PySem.W.fnOf x x (defArgs st) (defBody st) (defScope st) .none kV doc pm an (.ref c) ct) ps []
theorem sl_start {K : PySem.W.Frag} {m : Mem} {b : Blk} {H : Hp} {vs : List V} {ds : List D} {N : List Str} (r : Rps K m b H vs ds) : Sl K m b H (L2.start N vs) (ds.map some ++ List.replicate (N.length - ds.length) none) := by
  unfold L2.start
  refine ⟨?_, fun i d e => ?_⟩
  · simp only [List.length_append, List.length_map, List.length_replicate, r.length]
  · by_cases hi : i < ds.length
    · rw [List.getElem?_append_left (by simpa using hi), List.getElem?_map] at e
      have e' : ds[i]? = some d := by
        cases q : ds[i]? with
        | none => rw [q] at e; cases e
        | some z => rw [q] at e; cases e; rfl
      obtain ⟨v, h3, h4⟩ := r.get e'
      refine ⟨v, ?_, h4⟩
      rw [List.getElem?_append_left (by rw [List.length_map, r.length]; exact hi), List.getElem?_map, h3]
      rfl
    · rw [List.getElem?_append_right (by simpa using hi), List.getElem?_replicate] at e
      split at e <;> cases e
section
variable {P : Program} {w : World} {K : PySem.W.Frag} {mg : Str → Option Value} {base : Heap}
theorem DefC.ok {x : Str} {st : Stmt} {N ps : List Str} {k : Nat} {c : Addr} {R : Sd} (F : DefC K mg x st ps c) (S : FnScope N ps (defScope st)) (len : ∀ ds m P, R ds m P → ds.length = ps.length)
    (hbody : ∀ (f : Addr) (A : Around) (outer : List PySem.Env) (s : Shared) (H : Hp), Room k (A.deeper (envOfC x (defScope st) s.heap.objs.size f (.ref c))) →
      ∃ t, PSs (cxOf CX0 P w K mg base N x (defScope st) f (.ref c) A outer s H (fun _ _ _ => False)).nox (defBody st) t ∧ ∀ ds m PD, R ds m PD → WS K t (ds.map some ++ List.replicate (N.length - ds.length) none) m (fun _ m' => PD .non m') PD (fun _ _ => False) (fun _ _ => False)) :
    Cal P w K mg base CX0 (k + 1) x ps (spOf K R) := by
  obtain ⟨f, oc, od, kV, doc, pm, an, ct, osl, lk, hcd, kp, hm, hb⟩ := F.ex
  refine ⟨f, _, fn_of lk hcd S (fun vs H Q E h => ?_) (fun A outer s H vs Q E hr h => ?_), hm, kp, hb⟩
  · obtain ⟨ds, m, b, PD, r, ok, hR, _⟩ := h
    rw [r.length, len _ _ _ hR]
  · obtain ⟨t, h1, h2⟩ := hbody f A outer s H hr
    refine ⟨t, h1.nox, ?_⟩
    obtain ⟨ds, m, b, PD, r, ok, hR, hQ⟩ := h
    exact h2 ds m PD hR b _ H (sl_start r) ok _ ⟨fun σ' ρ' m' H' h st ok' s' => hQ .non .non m' H' h st ok' .non, fun v d m' H' h st ok' r' => hQ v d m' H' h st ok' r', fun _ _ _ _ h => h.elim, fun _ _ _ _ h => h.elim⟩
/-- the same, the def's object named -/
theorem fnOk_at {x : Str} {st : Stmt} {N ps : List Str} {k : Nat} {c f : Addr} {R : Sd} {oc kV doc pm ct : Value} {od an : Option Addr} {osl : Array (Option Value)} (lk : K.lookup f = some ⟨oc, od, .func (PySem.W.fnOf x x (defArgs st) (defBody st) (defScope st) .none kV doc pm an (.ref c) ct), osl⟩) (hcd : PySem.W.codeIn K (.ref c) x = true)
    (S : FnScope N ps (defScope st)) (len : ∀ ds m P, R ds m P → ds.length = ps.length)
    (hbody : ∀ (f : Addr) (A : Around) (outer : List PySem.Env) (s : Shared) (H : Hp), Room k (A.deeper (envOfC x (defScope st) s.heap.objs.size f (.ref c))) →
      ∃ t, PSs (cxOf CX0 P w K mg base N x (defScope st) f (.ref c) A outer s H (fun _ _ _ => False)).nox (defBody st) t ∧ ∀ ds m PD, R ds m PD → WS K t (ds.map some ++ List.replicate (N.length - ds.length) none) m (fun _ m' => PD .non m') PD (fun _ _ => False) (fun _ _ => False)) :
    FnOk P w K mg base CX0 (k + 1) f (PySem.W.fnOf x x (defArgs st) (defBody st) (defScope st) .none kV doc pm an (.ref c) ct) ps (spOf K R) := by
  refine fn_of lk hcd S (fun vs H Q E h => ?_) (fun A outer s H vs Q E hr h => ?_)
  · obtain ⟨ds, m, b, PD, r, ok, hR, _⟩ := h
    rw [r.length, len _ _ _ hR]
  · obtain ⟨t, h1, h2⟩ := hbody f A outer s H hr
    refine ⟨t, h1.nox, ?_⟩
    obtain ⟨ds, m, b, PD, r, ok, hR, hQ⟩ := h
    exact h2 ds m PD hR b _ H (sl_start r) ok _ ⟨fun σ' ρ' m' H' h st ok' s' => hQ .non .non m' H' h st ok' .non, fun v d m' H' h st ok' r' => hQ v d m' H' h st ok' r', fun _ _ _ _ h => h.elim, fun _ _ _ _ h => h.elim⟩
end
/-- parts of comparable data are comparable -/
theorem cmp_parts : ∀ {ds : List D}, pures ds = true → PyData.canLayAll0 (toPys ds) = true → PyData.depthAll (toPys ds) + 1 ≤ 64 → ∀ d ∈ ds, Cmp d
  | [], _, _, _ => fun d hd => nomatch hd
  | e :: es, h1, h3, h4 => by
    have a1 : (pure e && pures es) = true := h1
    have a3 : (PyData.canLay0 (toPy e) && PyData.canLayAll0 (toPys es)) = true := h3
    have a4 : max (PyData.depth (toPy e)) (PyData.depthAll (toPys es)) + 1 ≤ 64 := h4
    rw [Bool.and_eq_true] at a1 a3
    intro d hd
    rcases List.mem_cons.mp hd with z | z
    · subst z
      refine ⟨a1.1, ?_⟩
      unfold SeqAt.shaped
      rw [a3.1, decide_eq_true (by omega)]
      rfl
    · exact cmp_parts a1.2 a3.2 (by omega) d z
theorem cmp_tup {ds : List D} (h : Cmp (.tup ds)) : ∀ d ∈ ds, Cmp d := by
  obtain ⟨h1, h2⟩ := h
  unfold SeqAt.shaped at h2
  rw [Bool.and_eq_true] at h2
  exact cmp_parts h1 h2.1 (of_decide_eq_true h2.2)
/-- is it a type of at most n tuples within one another? as the program asks -/
def isTy : Nat → D → Bool
  | _, .str x => inD (.str x) ((["num", "small", "big"] : List Str).map D.str)
  | n + 1, .tup [a, b] => PyData.eqv (toPy a) (.str "cell") && isTy n b
  | n + 1, .tup [a, b, c] => PyData.eqv (toPy a) (.str "fun") && isTy n b && isTy n c
  | _, _ => false
end DL
end
section
set_option Elab.async false
set_option linter.all false
set_option maxRecDepth 100000
set_option maxHeartbeats 2000000
namespace DL
open PySem PySem.Spec PyProof.Rows L2
/-- an own error class without own __init__, over ValueError -/
structure ErrC (K : PySem.W.Frag) (mg : Str → Option Value) (x : Str) (C : Addr) : Prop where
  g : mg x = some (.ref C)
  x : PySem.W.excIn K C [.type "ValueError", .type "Exception", .type "BaseException", .type "object"] "ValueError.__new__" = true
  k : PySem.W.keepIn K (.ref C) = true
  b : PySem.W.subIn K (.ref C) (.type "BaseException") = some true
  t : PySem.W.typeIn K (.ref C) = some (.type "type")
theorem run_callX {K : PySem.W.Frag} {R : SdX} {tr : TA} {E : XK} {ρ : Env} {m : Mem} {b : Blk} {σ : L2.St} {H : Hp} {P : D → Mem → Prop} {X : Value → Mem → Prop} {Q : VK} (h : WA K tr ρ m fun ds m1 => R ds m1 P X) (s : Sl K m b H σ ρ) (ok : Ok K m b H)
    (hE : ∀ cls m' H', X cls m' → Step m H m' H' → Ok K m' b H' → E cls none H') (q : ∀ v d m' H', P d m' → Step m H m' H' → Ok K m' b H' → Rp K m' b H' v d → Q v H') : tCall (spOfX K R) [] E tr σ H Q :=
  h b σ H s ok _ fun vs ds m1 H1 h1 st1 ok1 r => by
    show spOfX K R (vs ++ []) H1 Q E
    rw [List.append_nil]
    exact ⟨ds, m1, b, P, X, r, ok1, h1, fun v d m' H' p st ok' r' => q v d m' H' p (st1.trans st) ok' r', fun cls m' H' hx st ok' => hE cls m' H' hx (st1.trans st) ok'⟩
section
variable {P : Program} {w : World} {K : PySem.W.Frag} {mg : Str → Option Value} {base : Heap}
/-- a def that may raise, by its body -/
theorem Def.okX {x : Str} {st : Stmt} {N ps : List Str} {k : Nat} {R : SdX} (F : Def K mg x st ps) (S : FnScope N ps (defScope st)) (len : ∀ ds m P X, R ds m P X → ds.length = ps.length)
    (hbody : ∀ (f : Addr) (cdv : Value) (A : Around) (outer : List PySem.Env) (s : Shared) (H : Hp) (E : XK), Room k (A.deeper (envOfC x (defScope st) s.heap.objs.size f cdv)) →
      ∃ t, PSs (cxOf (L2.CX P w) P w K mg base N x (defScope st) f cdv A outer s H E) (defBody st) t ∧ ∀ ds m PD X (b : Blk) (σ : L2.St) (Q : VK), R ds m PD X → Sl K m b H σ (ds.map some ++ List.replicate (N.length - ds.length) none) → Ok K m b H →
        (∀ v d m' H', PD d m' → Step m H m' H' → Ok K m' b H' → Rp K m' b H' v d → Q v H') → (∀ cls m' H', X cls m' → Step m H m' H' → Ok K m' b H' → E cls none H') → t { nx := fun _ H' => Q .non H', rt := Q } σ H) :
    Cal P w K mg base (L2.CX P w) (k + 1) x ps (spOfX K R) := by
  obtain ⟨f, fd, F, hm, hb⟩ := F.ex
  refine ⟨f, fd, F.okX S (fun vs H Q E h => ?_) (fun cdv A outer s H vs Q E hr h => ?_), hm, F.kp, hb⟩
  · obtain ⟨ds, m, b, PD, X, r, ok, hR, _⟩ := h
    rw [r.length, len _ _ _ _ hR]
  · obtain ⟨t, h1, h2⟩ := hbody f cdv A outer s H E hr
    refine ⟨t, h1, ?_⟩
    obtain ⟨ds, m, b, PD, X, r, ok, hR, hQ, hE⟩ := h
    exact h2 ds m PD X b _ Q hR (sl_start r) ok hQ hE
/-- what a callee lets out, this def lets out -/
theorem passX {X : Cx} {E : XK} (tk : Takes X (fun cls d _ H => E cls d H)) : Passes (L2.CX X.prog X.w) X E := passes_call tk fun _ _ _ _ h => h
end
end DL
end
section
set_option Elab.async false
set_option linter.all false
set_option maxRecDepth 100000
set_option maxHeartbeats 2000000
namespace DL
open PySem PySem.Spec PyProof.Rows L2 LamX
section
variable {X : Cx} {pins : List (Addr × Obj)} {σ : L2.St} {H : Hp} {s : Shared} {K : PySem.W.Frag} {m : Mem} {b : Blk}
/-- the object of a lambda just made is known from now on -/
theorem inv_lam {F : LF} {o : Obj} {t' : Nat} {doc pm ctv : Value} (I : Inv X pins σ H s) (ho : o = { cls := .type "function", data := .func (PySem.W.kdv_fn "<lambda>" F.qual F.params (.expr F.body) F.scope F.cl F.dV doc pm (.ref F.c) ctv) }) :
    Inv X pins σ (upd H s.heap.objs.size (LamO s.heap.objs.size F)) { s with heap := s.heap.push o, toks := t' } := by
  subst ho
  refine I.laid (a := s.heap.objs.size) (fun b u e => Heap.get?_push_of_some _ e) (Nat.le_refl _) ?_
  have e : (s.heap.push ({ cls := .type "function", data := .func (PySem.W.kdv_fn "<lambda>" F.qual F.params (.expr F.body) F.scope F.cl F.dV doc pm (.ref F.c) ctv) } : Obj)).get? s.heap.objs.size = some _ := Heap.get?_push_size _ rfl
  exact ⟨⟨_, _, doc, pm, ctv, e⟩, ⟨_, e⟩, fun h1 h2 ⟨od, sl, d, p, t, z⟩ st => ⟨od, sl, d, p, t, st _ z⟩⟩
theorem lamO_at {P : Program} {w : World} {h : Heap} {f : Addr} {F : LF} (hok : HOk P w H h) (e : H f = some (LamO f F)) : ∃ (od : Option Addr) (sl : Array (Option Value)) (doc pm ctv : Value), h.get? f = some (⟨.type "function", od, .func (PySem.W.kdv_fn "<lambda>" F.qual F.params (.expr F.body) F.scope F.cl F.dV doc pm (.ref F.c) ctv), sl⟩ : Obj) := by
  obtain ⟨z, _, _⟩ := hok f _ e
  exact z
/-- the table is written, a code object new -/
theorem ok_table {P c' : Addr} {nm : Nat → Nat → Str} {ps : Array Value} {pos : Pos} {q : Str} (ok : Ok K m b H) (mP : m P = some (.tabN nm)) (hP : H P = some (.tbl ps)) (ht : TriplesOk ps.toList) (nC : H c' = none) (hn : nm pos.line pos.col = q)
    (ha : ∀ (pos : Pos) (cv : Value), codeAmong pos ps.toList = some cv → ∃ c, cv = .ref c ∧ H c = some (CodeO c (nm pos.line pos.col)) ∧ m c = none) :
    Ok K m b (upd (upd H P (.tbl (ps ++ #[rawInt pos.line, rawInt pos.col, .ref c']))) c' (CodeO c' q)) ∧ Step m H m (upd (upd H P (.tbl (ps ++ #[rawInt pos.line, rawInt pos.col, .ref c']))) c' (CodeO c' q)) := by
  have nP : ∀ a, m a = none → a ≠ P := fun a e z => by
    rw [z, mP] at e
    cases e
  have st : Step m H m (upd (upd H P (.tbl (ps ++ #[rawInt pos.line, rawInt pos.col, .ref c']))) c' (CodeO c' q)) := ⟨fun a o e n => ⟨by rw [upd_ne (ne_of_none e nC), upd_ne (nP a n)]; exact e, n⟩⟩
  have mc := (ok.fresh nC).1
  have eL : (ps ++ #[rawInt pos.line, rawInt pos.col, .ref c']).toList = ps.toList ++ [rawInt pos.line, rawInt pos.col, .ref c'] := by simp
  refine ⟨⟨fun a u e => ?_, fun a hb => ⟨(ok.blk a hb).1, ?_⟩⟩, st⟩
  · have h := ok.has a u e
    by_cases hp : a = P
    · subst hp
      rw [mP] at e
      cases e
      refine ⟨_, by rw [upd_ne (ne_of_none hP nC), upd_same], by rw [eL]; exact PySem.TriplesOk_snoc _ _ _ _ ht, fun p' cv hcv => ?_⟩
      rw [eL] at hcv
      rcases NdefX.among_app2 _ ht hcv with z | ⟨z, z1, z2⟩
      · obtain ⟨c0, e1, e2, e3⟩ := ha p' cv z
        exact ⟨c0, e1, st.keep _ _ e2 e3⟩
      · refine ⟨c', z, ?_, mc⟩
        rw [← z1, ← z2, hn]
        exact upd_same
    · refine h.step st (fun _ z => z) ?_
      rw [upd_ne (fun z => h.there (by rw [z]; exact nC)), upd_ne hp]
  · have h := (ok.blk a hb).2
    rw [upd_ne (fun z => h (by rw [z]; exact nC)), upd_ne (nP a (ok.blk a hb).1)]
    exact h
/-- the lambda's object -/
theorem ok_lam {f : Addr} {F : LF} (ok : Ok K m b H) (hf : H f = none) (hc : H F.c = some (CodeO F.c F.qual)) (mc : m F.c = none) (hd : F.dV = .none ∨ ∃ d, F.dV = .ref d ∧ H d = some (.tup F.dvs) ∧ m d = none) :
    Ok K (m.set f (.fn F)) b (upd H f (LamO f F)) ∧ Step m H (m.set f (.fn F)) (upd H f (LamO f F)) := by
  refine ⟨ok.make hf ⟨upd_same, ⟨?_, ?_⟩, hd.imp id fun ⟨d, a1, a2, a3⟩ => ⟨d, a1, ?_, ?_⟩⟩, step_make hf⟩
  · rw [upd_ne (ne_of_none hc hf)]; exact hc
  · rw [Mem.set_ne (ne_of_none hc hf)]; exact mc
  · rw [upd_ne (ne_of_none a2 hf)]; exact a2
  · rw [Mem.set_ne (ne_of_none a2 hf)]; exact a3
/-- the function object laid behind all others -/
theorem lam_laid {F : LF} {doc pm ctv : Value} {t' : Nat} (I : Inv X pins σ H s) (ok : Ok K m b H) (kc : H F.c = some (CodeO F.c F.qual)) (mc : m F.c = none) (kd : F.dV = .none ∨ ∃ d, F.dV = .ref d ∧ H d = some (.tup F.dvs) ∧ m d = none) :
    ∃ H1, Inv X pins σ H1 { s with heap := s.heap.push { cls := .type "function", data := .func (PySem.W.kdv_fn "<lambda>" F.qual F.params (.expr F.body) F.scope F.cl F.dV doc pm (.ref F.c) ctv) }, toks := t' } ∧ Ok K (m.set s.heap.objs.size (.fn F)) b H1 ∧ Step m H (m.set s.heap.objs.size (.fn F)) H1 :=
  ⟨_, inv_lam I rfl, (ok_lam ok (I.hok.fresh (Nat.le_refl _)) kc mc kd).1, (ok_lam ok (I.hok.fresh (Nat.le_refl _)) kc mc kd).2⟩
/-- the lambda is made, its defaults being known: its code object stood in the maker's table, or is new there -/
theorem lam_tail {nm : Nat → Nat → Str} {c P : Addr} {params : Arguments} {body : Expr} {scope : Scope} {pos : Pos} {dV : Value} {dvs : List V} {E : Value → Shared → Prop} {Q : Value → Shared → Prop} (I : Inv X pins σ H s) (TB : TabB X.base X.mg c P) (hcode : X.env.code = .ref c)
    (ok : Ok K m b H) (mP : m P = some (.tabN nm)) (hn : nm pos.line pos.col = X.env.qual ++ "<lambda>") (hfree : ∀ y ∈ scope.names, y.2 = .free → ∃ c, X.env.cells.lookup y.1 = some c) (hd : dV = .none ∨ ∃ d, dV = .ref d ∧ H d = some (.tup dvs) ∧ m d = none)
    (h : ∀ (f c' : Addr) (H1 : Hp) (s' : Shared), Inv X pins σ H1 s' → H f = none → Ok K (m.set f (.fn ⟨X.env.qual ++ "<lambda>", params, body, scope, cloFrom X.env.cells scope.names [], c', dV, dvs⟩)) b H1 →
      Step m H (m.set f (.fn ⟨X.env.qual ++ "<lambda>", params, body, scope, cloFrom X.env.cells scope.names [], c', dV, dvs⟩)) H1 → Q (.ref f) s') :
    wpAny (model X.prog X.w) X.A (PySem.makeTail "<lambda>" (X.env.qual ++ "<lambda>") params (.expr body) scope X.env dV .none none pos pos.line) Q E s := by
  obtain ⟨tab, at_, triples, codes⟩ := ok.has P _ mP
  have glob := I.mod.glob.keeps I.bk
  have head := TB.code.keeps I.bk
  have inHeap := I.hok P _ at_
  have blt := TB.bm.keeps I.bk
  rcases found : codeAmong pos tab.toList with _ | cv
  · refine PySem.W.kdv_makeTail (closure_ok hfree) I.ok.glob glob hcode head inHeap triples found TB.gP blt ?_
    rintro k _ _ hp tk old above below ⟨_, _, _, _, e, code⟩ grown
    cases e
    have new : H k = none := I.hok.fresh above
    have I1 := inv_table (t' := tk) (more := #[rawInt pos.line, rawInt pos.col, .ref k]) (h' := hp) I at_ (fun a o ne e => old a o ne e) grown above ⟨_, _, _, code⟩
    obtain ⟨ok1, st1⟩ := ok_table ok mP at_ triples new hn codes
    obtain ⟨H2, I2, ok2, st2⟩ := lam_laid (F := ⟨X.env.qual ++ "<lambda>", params, body, scope, cloFrom X.env.cells scope.names [], k, dV, dvs⟩) I1 ok1 upd_same (ok.fresh new).1 (hd.imp_right fun ⟨d, z1, z2, z3⟩ => ⟨d, z1, st1.keep d _ z2 z3⟩)
    exact h _ k H2 _ I2 (I.hok.fresh (Nat.le_trans above (Nat.le_of_lt below))) ok2 (st1.trans st2)
  · obtain ⟨k, rfl, code, mk⟩ := codes pos cv found
    rw [hn] at code
    refine PySem.W.kdv_makeTailHit (closure_ok hfree) I.ok.glob glob hcode head inHeap triples found blt ?_
    intro _ _ hp tk old _
    have I1 : Inv X pins σ H { s with heap := hp, toks := tk } := I.kept old
    obtain ⟨H2, I2, ok2, st2⟩ := lam_laid (F := ⟨X.env.qual ++ "<lambda>", params, body, scope, cloFrom X.env.cells scope.names [], k, dV, dvs⟩) I1 ok code mk hd
    exact h _ k H2 _ I2 (I1.hok.fresh (Nat.le_refl _)) ok2 st2
end
/-! ### the expression -/
/-- the reading of a lambda: what is told holds in every memory that the state keeps -/
def tLamD (K : PySem.W.Frag) (P : Addr) (nm : Nat → Nat → Str) (dvs : List V) (mk : Addr → Value → LF) : TE := fun _ H Q => ∃ (m : Mem) (b : Blk), Ok K m b H ∧ m P = some (.tabN nm) ∧
  ∀ (f c' : Addr) (dV : Value) (H1 : Hp), H f = none → Ok K (m.set f (.fn (mk c' dV))) b H1 → Step m H (m.set f (.fn (mk c' dV))) H1 → (dvs = [] → dV = .none) → (dvs ≠ [] → ∃ d, dV = .ref d) → Q (.ref f) H1
section
variable {X : Cx} {K : PySem.W.Frag}
theorem pe_lam0 {nm : Nat → Nat → Str} {c P : Addr} {params : Arguments} {body : Expr} {scope : Scope} {pos : Pos} (TB : TabB X.base X.mg c P) (hcode : X.env.code = .ref c) (hn : nm pos.line pos.col = X.env.qual ++ "<lambda>")
    (hfree : ∀ y ∈ scope.names, y.2 = .free → X.env.scope.names.lookup y.1 = some .cell ∨ X.env.scope.names.lookup y.1 = some .free) (hdef : defaultsOf params X.env = ([], [])) :
    PE X (.Lambda params body scope pos) (tLamD K P nm [] fun c' dV => ⟨X.env.qual ++ "<lambda>", params, body, scope, cloFrom X.env.cells scope.names [], c', dV, []⟩) := by
  refine ⟨fun pins s σ H Q I h => ?_⟩
  obtain ⟨m, b, ok, mP, h⟩ := h
  refine PySem.W.kla_eval hdef ?_
  rw [makeFunction_eq]
  simp only [List.zip_nil_right, List.filterMap_nil, List.isEmpty_nil, if_true, pure_bind]
  have hfr : ∀ y ∈ scope.names, y.2 = .free → ∃ c, X.env.cells.lookup y.1 = some c := fun y hy e => (hfree y hy e).elim (fun z => I.ok.has _ (.inl z)) fun z => I.ok.has _ (.inr z)
  exact lam_tail (dvs := []) I TB hcode ok mP hn hfr (.inl rfl) fun f c' H1 s' I1 f0 ok1 st1 => ⟨.ref f, H1, I1, rfl, h f c' .none H1 f0 ok1 st1 (fun _ => rfl) fun z => absurd rfl z⟩
/-- one default, a whole number -/
theorem pe_lam1 {nm : Nat → Nat → Str} {c P : Addr} {params : Arguments} {body : Expr} {scope : Scope} {pos p1 : Pos} {i : Int} {k1 : Nat} (TB : TabB X.base X.mg c P) (hcode : X.env.code = .ref c) (hn : nm pos.line pos.col = X.env.qual ++ "<lambda>")
    (hfree : ∀ y ∈ scope.names, y.2 = .free → X.env.scope.names.lookup y.1 = some .cell ∨ X.env.scope.names.lookup y.1 = some .free) (hd : params.defaults = [.Constant (.int i) k1 p1]) (hk : params.kw_defaults = []) :
    PE X (.Lambda params body scope pos) (tLamD K P nm [.int i] fun c' dV => ⟨X.env.qual ++ "<lambda>", params, body, scope, cloFrom X.env.cells scope.names [], c', dV, [.int i]⟩) := by
  refine ⟨fun pins s σ H Q I h => ?_⟩
  obtain ⟨m, b, ok, mP, h⟩ := h
  refine PySem.W.kdv_lam (by rw [hd]; rfl) hk ?_
  rw [hd]
  have hfr : ∀ y ∈ scope.names, y.2 = .free → ∃ c, X.env.cells.lookup y.1 = some c := fun y hy e => (hfree y hy e).elim (fun z => I.ok.has _ (.inl z)) fun z => I.ok.has _ (.inr z)
  refine PySem.W.kdv_all1 (thn ((pe_int (X := X) (i := i) (j := k1) (pos := p1)).run pins s σ H (fun v H1 => v = .int i ∧ H1 = H) I ⟨rfl, rfl⟩) fun u s1 ⟨v, H1, I1, r1, q1⟩ => ?_)
  obtain ⟨ev, eH⟩ := q1
  subst ev
  rw [eH] at I1
  refine PySem.W.kdv_all0 ?_
  rw [makeFunction_eq]
  simp only [List.zip_nil_right, List.filterMap_nil, List.isEmpty_nil, List.isEmpty_cons, Bool.false_eq_true, if_false, if_true, pure_bind]
  have nD : H s1.heap.objs.size = none := I1.hok.fresh (Nat.le_refl _)
  refine wpAny_bind (wpAny_newTextTuple ?_)
  have I2 : Inv X pins σ (upd H s1.heap.objs.size (.tup [.int i])) { s1 with heap := s1.heap.push { cls := .type "tuple", data := .seq [u].toArray } } := I1.laid (t' := s1.toks) (fun b u e => Heap.get?_push_of_some _ e) (Nat.le_refl _) ⟨by simp; decide, [u], .cons r1 .nil, ⟨_, Heap.get?_push_size _ rfl, rfl, ⟨_, rfl⟩⟩⟩
  have ok2 := ok.new (o := .tup [.int i]) nD
  have st2 := step_new (m := m) (o := .tup [.int i]) nD
  exact lam_tail (dvs := [.int i]) I2 TB hcode ok2 mP hn hfr (.inr ⟨_, rfl, upd_same, (ok.fresh nD).1⟩) fun f c' H1 s' I3 f0 ok3 st3 => ⟨.ref f, H1, I3, rfl, h f c' _ H1 (NdefX.upd_none f0) ok3 (st2.trans st3) (fun z => nomatch z) fun _ => ⟨_, rfl⟩⟩
/-- over data: a new function stands in the memory -/
theorem w_lam {ρ : Env} {m : Mem} {P : D → Mem → Prop} {Pt : Addr} {nm : Nat → Nat → Str} {dvs : List V} {mk : Addr → Value → LF} (hm : m Pt = some (.tabN nm))
    (h : ∀ (f c' : Addr) (dV : Value), m f = none → (dvs = [] → dV = .none) → (dvs ≠ [] → ∃ d, dV = .ref d) → P (.ref f) (m.set f (.fn (mk c' dV)))) : W K (tLamD K Pt nm dvs mk) ρ m P := fun b σ H s ok Q q =>
  ⟨m, b, ok, hm, fun f c' dV H1 f0 ok1 st1 d1 d2 => q _ _ _ H1 (h f c' dV (ok.fresh f0).1 d1 d2) st1 ok1 (.ref f)⟩
/-- .. the memory named anew -/
theorem w_lamA {ρ : Env} {m : Mem} {P : D → Mem → Prop} {Pt : Addr} {nm : Nat → Nat → Str} {dvs : List V} {mk : Addr → Value → LF} (hm : m Pt = some (.tabN nm))
    (h : ∀ (f c' : Addr) (dV : Value) (m1 : Mem), m f = none → (dvs = [] → dV = .none) → (dvs ≠ [] → ∃ d, dV = .ref d) → m1 f = some (.fn (mk c' dV)) → (∀ a, a ≠ f → m1 a = m a) → P (.ref f) m1) : W K (tLamD K Pt nm dvs mk) ρ m P :=
  w_lam hm fun f c' dV h0 d1 d2 => h f c' dV _ h0 d1 d2 Mem.set_same fun _ n => Mem.set_ne n
end
end DL
end
section
set_option Elab.async false
set_option linter.all false
set_option maxRecDepth 100000
set_option maxHeartbeats 2000000
namespace DL
open PySem PySem.Spec PyProof.Rows L2 LamX
/-- the lambda's names: captured ones, globals, its own parameters ps -/
structure LamP (sc scope : Scope) (ps : List Str) : Prop where
  kind : scope.kind = .function
  co : scope.isCoroutine = false
  gen : scope.isGenerator = false
  own : ∀ y ∈ scope.names, y.2 ≠ .cell ∧ (y.2 = .local → y.1 ∈ ps)
  free : ∀ y ∈ scope.names, y.2 = .free → sc.names.lookup y.1 = some .cell ∨ sc.names.lookup y.1 = some .free
def lamPB (sc scope : Scope) (ps : List Str) : Bool :=
  decide (scope.kind = .function) && !scope.isCoroutine && !scope.isGenerator && scope.names.all fun y => !decide (y.2 = .cell) && (!decide (y.2 = .local) || decide (y.1 ∈ ps)) && (!decide (y.2 = .free) || decide (sc.names.lookup y.1 = some .cell) || decide (sc.names.lookup y.1 = some .free))
theorem lamP_by {sc scope : Scope} {ps : List Str} (h : lamPB sc scope ps = true) : LamP sc scope ps := by
  unfold lamPB at h
  simp only [Bool.and_eq_true, Bool.or_eq_true, Bool.not_eq_true', decide_eq_true_eq, decide_eq_false_iff_not, List.all_eq_true] at h
  obtain ⟨⟨⟨h1, h2⟩, h3⟩, h4⟩ := h
  refine ⟨h1, h2, h3, fun y hy => ⟨(h4 y hy).1.1, fun e => (h4 y hy).1.2.elim (fun z => absurd e z) id⟩, fun y hy e => ?_⟩
  rcases (h4 y hy).2 with (z | z) | z
  · exact absurd e z
  · exact .inl z
  · exact .inr z
theorem LamP.has {X : Cx} {scope : Scope} {ps : List Str} (L : LamP X.env.scope scope ps) (ok : X.Ok) : ∀ y ∈ scope.names, y.2 = .free → ∃ c, X.env.cells.lookup y.1 = some c := fun y hy e => by
  rcases L.free y hy e with k | k
  · exact ok.has _ (.inl k)
  · exact ok.has _ (.inr k)
section
variable {X : Cx} {pins : List (Addr × Obj)} {σ : L2.St} {H HZ : Hp} {s s1 : Shared} {ps : List Str}
/-- the cells that a lambda captured are its maker's of the same names, and each captured name has one -/
structure Capt (own caps : List (Str × Addr)) (names : List (Str × NameKind)) : Prop where
  down : ∀ n a, caps.lookup n = some a → own.lookup n = some a
  there : ∀ n, names.lookup n = some NameKind.free → ∃ a, caps.lookup n = some a
theorem capt_of {own : List (Str × Addr)} {names : List (Str × NameKind)} (h : ∀ n, (n, NameKind.free) ∈ names → ∃ a, own.lookup n = some a) : Capt own (cloFrom own names []) names := by
  constructor
  · intro n a e
    obtain z | ⟨z1, z2⟩ := cloFrom_mem (PySem.mem_of_lookup e)
    · simp at z
    · obtain ⟨w, hw⟩ := h n z1
      rw [hw] at z2
      rw [hw, z2]
      rfl
  · intro n e
    exact mem_lookup (cloFrom_has (cells := own) (acc := []) (PySem.mem_of_lookup e))
/-- the context of the lambda's body is in order where the caller's is -/
theorem lam_ok {A : Around} {outer : List PySem.Env} {E : XK} {scope : Scope} {f c' : Addr} (ok : X.Ok) (L : LamP X.env.scope scope ps) (C : Capt X.env.cells (cloFrom X.env.cells scope.names []) scope.names) (e0 : Env0 X.prog X.w X.K X.mg X.base A outer s1 HZ) (hd : A.handled = none) :
    (lamCx X A outer s1 HZ E scope f c').Ok where
  mod := e0.mod
  kind := L.kind
  glob := rfl
  blt := rfl
  above := Nat.le_refl _
  inj x y a p q := ok.inj x y a (C.down x a p) (C.down y a q)
  has x k := by
    rcases (show scope.names.lookup x = some .cell ∨ scope.names.lookup x = some .free from k) with z | z
    · exact absurd rfl (L.own (x, .cell) (PySem.mem_of_lookup z)).1
    · exact C.there x z
  cab x a z _ := Bool.noConfusion (show false = true from z)
  hd _ := hd
  frames := Around.frames_deeper e0.frames
  stk := .inr ⟨rfl, rfl⟩
  exf a z := absurd (show a ∈ ([] : List Addr) from z) List.not_mem_nil
  bs := e0.bs
  bsz := e0.bsz
  noex a _ _ z := absurd (show a ∈ ([] : List Addr) from z) List.not_mem_nil
  exfs a z := absurd (show a ∈ ([] : List Addr) from z) List.not_mem_nil
  funs := e0.funs
  frf := e0.frf
/-- the lambda's body begins: its captured names read as its maker's -/
theorem lam_begin {A : Around} {outer : List PySem.Env} {E : XK} {scope : Scope} {f c' : Addr} {hp : Heap} {tk : Nat} {mN : Str → Option Value} (I : Inv X pins σ H s) (L : LamP X.env.scope scope ps) (hps : ∀ p ∈ ps, p ∉ X.N) (e0 : Env0 X.prog X.w X.K X.mg X.base A outer s1 HZ) (hd : A.handled = none)
    (un : Un (frs X.stack) [] H HZ s.heap s1.heap) (hns : hp.Ns s1.heap.objs.size mN) (kp : ∀ b o, s1.heap.get? b = some o → hp.get? b = some o) :
    Inv (lamCx X A outer s1 HZ E scope f c') [] σ HZ { s1 with heap := hp, toks := tk } := by
  have C : Capt X.env.cells (cloFrom X.env.cells scope.names []) scope.names := capt_of fun n hn => L.has I.ok (n, .free) hn rfl
  -- a cell of the maker's stands as it stood
  have stays : ∀ n a, X.env.cells.lookup n = some a → ∀ v, s.heap.IsCell a v → hp.IsCell a v := fun n a e v ⟨o, ho, hv⟩ => by
    obtain ⟨sl, q⟩ := un.any ho (I.freeC n a e) List.not_mem_nil
    exact ⟨_, kp _ _ q, hv⟩
  exact {
    ok := lam_ok I.ok L C e0 hd
    os := rfl
    bare := e0.bare
    base := Un.kept kp
    loc := by
      obtain ⟨mM, _, look⟩ := I.loc
      refine ⟨mN, hns, fun i n v hi hv vis => ?_⟩
      have free : scope.names.lookup n = some .free := by
        rcases (show Vis scope n from vis) with z | z | z
        · exact absurd (List.mem_of_getElem? hi) (hps n ((L.own (n, .local) (PySem.mem_of_lookup z)).2 rfl))
        · exact absurd rfl (L.own (n, .cell) (PySem.mem_of_lookup z)).1
        · exact z
      have mk := L.free (n, .free) (PySem.mem_of_lookup free) rfl
      obtain ⟨u, r, at_⟩ := look i n v hi hv (.inr mk)
      obtain ⟨a, ha⟩ := C.there n free
      have up := C.down n a ha
      refine ⟨u, r, .inr ⟨.inr free, a, ha, stays n a up _ ?_⟩⟩
      rcases at_ with ⟨z, _⟩ | ⟨_, a2, z2, z3⟩
      · have z : X.env.scope.names.lookup n = some .local := z
        rcases mk with mk | mk <;> exact absurd (mk.symm.trans z) (by decide)
      · have e : a2 = a := Option.some.inj (z2.symm.trans up)
        exact e ▸ z3
    cell := fun n a e => by
      obtain ⟨v, hv⟩ := I.cell n a (C.down n a e)
      exact ⟨v, stays n a (C.down n a e) v hv⟩
    free := e0.hok.fresh (Nat.le_refl _)
    freeC := fun n a e => by
      obtain ⟨_, o, ho, _⟩ := I.cell n a (C.down n a e)
      exact un.free a o ho (I.freeC n a (C.down n a e)) List.not_mem_nil
    pin := fun p z => absurd (show p ∈ ([] : List (Addr × Obj)) from z) List.not_mem_nil
    hok := e0.hok.kept kp
    len := I.len }
/-- what is known of a lambda wherever it is called -/
def LamAt (H : Hp) (f : Addr) (F : LF) : Prop := H f = some (LamO f F) ∧ H F.c = some (CodeO F.c F.qual) ∧ (F.dV = .none ∨ ∃ d, F.dV = .ref d ∧ H d = some (.tup F.dvs))
/-- a call without arguments binds ps -/
def LamB (F : LF) (ps : List Str) : Prop := ∀ (s1 : Shared) (doc pm ctv : Value), (F.dV = .none ∨ ∃ d its, F.dV = .ref d ∧ IsTup s1.heap d its.toArray ∧ Vals F.dvs its) →
  ∃ binds : List (Str × Value), (∀ y ∈ binds, F.scope.names.lookup y.1 = some .local) ∧ BindsTo s1 (PySem.W.kdv_fn "<lambda>" F.qual F.params (.expr F.body) F.scope F.cl F.dV doc pm (.ref F.c) ctv) ⟨[], []⟩ binds
/-- a lambda called without arguments from the frames outer: its body's reading tells what comes of it -/
theorem lam_run {A : Around} {outer : List PySem.Env} {E : XK} {tb : TE} {F : LF} {f : Addr} {k : Nat} {Q : VK} (I : Inv X pins σ H s) (L : LamP X.env.scope F.scope ps) (hps : ∀ p ∈ ps, p ∉ X.N) (hq : F.qual = X.env.qual ++ "<lambda>") (hcl : F.cl = cloFrom X.env.cells F.scope.names []) (hbind : LamB F ps)
    (e0 : Env0 X.prog X.w X.K X.mg X.base A outer s1 HZ) (hr : Room (k + 1) A) (un : Un (frs X.stack) [] H HZ s.heap s1.heap) (known : LamAt HZ f F) (body : Room k (A.deeper (lamEnv X F.scope s1.heap.objs.size f F.c)) → PE (lamCx X A outer s1 HZ E F.scope f F.c) F.body tb) (told : tb σ HZ Q) :
    codeAny (model X.prog X.w) A (.call (.ref f) ⟨[], []⟩) (CR (L2.CX X.prog X.w) outer X.prog X.w HZ s1 Q E) s1 := by
  obtain ⟨kf, kc, kd⟩ := known
  obtain ⟨_, _, doc, pm, ctv, at_⟩ := lamO_at e0.hok kf
  have dflt : F.dV = .none ∨ ∃ d its, F.dV = .ref d ∧ IsTup s1.heap d its.toArray ∧ Vals F.dvs its := by
    rcases kd with z | ⟨d, z1, z2⟩
    · exact .inl z
    · obtain ⟨_, its, r, it⟩ := e0.hok d _ z2
      exact .inr ⟨d, its, z1, it, r⟩
  obtain ⟨binds, loc, bound⟩ := hbind s1 doc pm ctv dflt
  have rec_ : s1.heap.CodeRec (.ref F.c) F.qual := by
    obtain ⟨⟨oc, vs, t, z1, z2, z3⟩, _⟩ := e0.hok F.c _ kc
    exact ⟨F.c, oc, vs, t, rfl, z1, z2, z3⟩
  have roomy : s1.heap.NoLimit := e0.mod.nolimit.keeps fun b o e => (e0.bs b o e).1
  refine PySem.W.kla_callFunE hr.depth at_ rfl L.co L.gen rfl rec_ (bound _ _ _ _ (wpAny_newFunctionEnv (fun y hy => (L.own y hy).1) loc (fun hp hns sb => ⟨roomy.fresh _ sb, ?_⟩) L.kind))
  have J : Inv (lamCx X A outer s1 HZ E F.scope f F.c) [] σ HZ { s1 with heap := hp, toks := s1.toks + binds.length } :=
    lam_begin I L hps e0 hr.hd un hns fun b o e => sb.extBut b o (Nat.ne_of_lt (Heap.lt_size e)) (Heap.get?_push_of_some _ e)
  have run := (body (hr.deeper _)).run [] _ _ HZ Q J told
  show codeAny _ _ (.expr F.body (PySem.W.envX F.qual F.scope s1.heap.objs.size f (.ref F.c) F.cl)) _ _
  rw [hq, hcl]
  exact PySem.W.kla_codeExpr (wpAny_mono run (fun _ _ ⟨w', H', J', rv, q⟩ => ⟨w', H', J'.os, J'.bare, J'.base, J'.hok, rv, q⟩) fun _ _ q => q)
/-- x(), in the def that got the lambda -/
theorem pe_actW {CXg : CXT} {Eg : XK} {Ng : List Str} {qg : Str} {sg : Scope} {g f : Addr} {F : LF} {cdg : Value} {k i : Nat} {a : Str} {pn : List (Addr × Obj)} {xe : Value → Shared → Prop} {W : WX} {E : XK} {tb : TE} {p1 p2 : Pos}
    (I : Inv X pins σ H s) (L : LamP X.env.scope F.scope ps) (hps : ∀ p ∈ ps, p ∉ X.N) (hq : F.qual = X.env.qual ++ "<lambda>") (hcl : F.cl = cloFrom X.env.cells F.scope.names []) (hbind : LamB F ps)
    (tk : Takes ((cxOf CXg X.prog X.w X.K X.mg X.base Ng qg sg g cdg X.A X.stack s H Eg).tr pn xe) W) (hW : ∀ cls d σ' H', σ'.length = Ng.length → E cls d H' → W cls d σ' H') (hr : Room (k + 1) (X.A.deeper (envOfC qg sg s.heap.objs.size g cdg)))
    (hbody : ∀ (A : Around) (outer : List PySem.Env) (s : Shared) (H : Hp), Room k (A.deeper (lamEnv X F.scope s.heap.objs.size f F.c)) → PE (lamCx X A outer s H E F.scope f F.c) F.body tb)
    (hN : Ng[i]? = some a) (hv : Vis sg a) (hd : (a == ("__debug__" : Str)) = false := by decide) (hcd : (a == ("__classdict__" : Str)) = false := by decide) :
    PE ((cxOf CXg X.prog X.w X.K X.mg X.base Ng qg sg g cdg X.A X.stack s H Eg).tr pn xe) (.Call (.Name a p1) [] [] p2)
      (fun σZ HZ Q => σZ[i]? = some (some (.ref f)) ∧ LamAt HZ f F ∧ tb σ HZ Q) := by
  constructor
  rintro pz sz σZ HZ Q IZ ⟨at_, known, told⟩
  have name := (pe_var (pos := p1) (i := i) hN hv hd hcd).run pz sz σZ HZ (fun v H1 => v = .ref f ∧ H1 = HZ) IZ ⟨.ref f, at_, rfl, rfl⟩
  refine wpAny_Call_Name_kw (thn name ?_)
  rintro u s1 ⟨v, H1, I1, r1, ev, eH⟩
  rw [eH] at I1
  rw [ev] at r1
  obtain rfl : u = Value.ref f := r1
  obtain ⟨_, _, _, _, _, fat⟩ := lamO_at I1.hok known.1
  have un : Un (frs X.stack) [] H HZ s.heap s1.heap := I1.base
  have run := lam_run (X := X) (A := X.A.deeper (envOfC qg sg s.heap.objs.size g cdg)) (outer := envOfC qg sg s.heap.objs.size g cdg :: X.stack) (s1 := s1) (HZ := HZ) (E := E) (Q := Q) (k := k) I L hps hq hcl hbind I1.env0 hr un known (hbody _ _ _ _) told
  refine PySem.W.callWith_F0 ⟨_, _, _, _, fat⟩ (wpAny_call (codeAny_mono run ?_))
  rintro (e | fl) s' q
  · exact tk e s' (XE.of_call I1 (fun cls d H' h => hW cls d σZ H' I1.len h) q)
  · cases fl <;> first | exact I1.after q | exact False.elim q
end
/-- the def that calls what it got: TT: what it makes of the lambda's reading -/
def GivesW (P : Program) (w : World) (K : PySem.W.Frag) (mg : Str → Option Value) (base : Heap) (k : Nat) (Ng : List Str) (x : Str) (sg : Scope) (g : Addr) (cdg : Value) (bg : List Stmt) (a : Str) (TT : (XK → Hp → VK → Prop) → Hp → VK → Prop) : Prop :=
  ∀ (A : Around) (outer : List PySem.Env) (f : Addr) (s : Shared) (H : Hp) (Q : VK) (tl : XK → Hp → VK → Prop), Room k (A.deeper (envOfC x sg s.heap.objs.size g cdg)) →
    (∀ (W : WX) (pn : List (Addr × Obj)) (xe : Value → Shared → Prop) (E : XK) (p1 p2 : Pos), Takes ((cxOf CX0 P w K mg base Ng x sg g cdg A outer s H E0).tr pn xe) W → (∀ cls d σ' H', σ'.length = Ng.length → E cls d H' → W cls d σ' H') →
      PE ((cxOf CX0 P w K mg base Ng x sg g cdg A outer s H E0).tr pn xe) (.Call (.Name a p1) [] [] p2) (fun σZ HZ Q => σZ[0]? = some (some (.ref f)) ∧ tl E HZ Q)) →
    TT tl H Q → ∃ t, PSs (cxOf CX0 P w K mg base Ng x sg g cdg A outer s H E0) bg t ∧ t { nx := fun _ H' => Q .non H', rt := Q } (L2.start Ng [.ref f]) H
/-- a def that calls its argument, called: its text is known -/
structure CalW (P : Program) (w : World) (K : PySem.W.Frag) (mg : Str → Option Value) (base : Heap) (k : Nat) (x a : Str) (TT : (XK → Hp → VK → Prop) → Hp → VK → Prop) : Prop where
  ex : ∃ (g : Addr) (pg : Arguments) (bg : List Stmt) (sg : Scope) (dV kV doc pm cdv ct oc : Value) (an od : Option Addr) (osl : Array (Option Value)) (Ng : List Str),
    mg x = some (.ref g) ∧ PySem.W.keepIn K (.ref g) = true ∧ K.lookup g = some ⟨oc, od, .func (PySem.W.fnOf x x pg bg sg dV kV doc pm an cdv ct), osl⟩ ∧ PySem.W.codeIn K cdv x = true ∧ L2.Binds K (PySem.W.fnOf x x pg bg sg dV kV doc pm an cdv ct) [a] [] ∧ FnScope Ng [a] sg ∧ Ng[0]? = some a ∧ Vis sg a ∧
    GivesW P w K mg base k Ng x sg g cdv bg a TT
/-- what is made of the value that x gets -/
def tWrong (Bod : LF → (XK → TE) → Prop) (TT : (XK → Hp → VK → Prop) → Hp → VK → Prop) (te : TE) : TE := fun σ H Q => te σ H fun v H1 => ∃ f F tb, v = .ref f ∧ Bod F tb ∧ TT (fun E H' Q' => LamAt H' f F ∧ tb E σ H' Q') H1 Q
section
variable {X : Cx} {x a : Str} {k : Nat} {ps : List Str} {TT : (XK → Hp → VK → Prop) → Hp → VK → Prop} {Bod : LF → (XK → TE) → Prop}
theorem pe_wrong {e : Expr} {te : TE} {p pos : Pos} (c : CalW X.prog X.w X.K X.mg X.base (k + 1) x a TT) (hg : Gl X x) (hr : Room (k + 2) X.A) (hps : ∀ p ∈ ps, p ∉ X.N) (he : PE X e te)
    (hB : ∀ F tb, Bod F tb → LamP X.env.scope F.scope ps ∧ F.qual = X.env.qual ++ "<lambda>" ∧ F.cl = cloFrom X.env.cells F.scope.names [] ∧ LamB F ps ∧
      ∀ (A : Around) (outer : List PySem.Env) (s : Shared) (H : Hp) (E : XK) (f c' : Addr), Room k (A.deeper (lamEnv X F.scope s.heap.objs.size f c')) → PE (lamCx X A outer s H E F.scope f c') F.body (tb E))
    (hs : starEach [e] X.env = (false, eval e X.env) :: starEach [] X.env := by rfl) (hdb : (x == ("__debug__" : Str)) = false := by decide) (hd : (a == ("__debug__" : Str)) = false := by decide) (hcd : (a == ("__classdict__" : Str)) = false := by decide) :
    PE X (.Call (.Name x p) [e] [] pos) (tWrong Bod TT te) := by
  obtain ⟨g, pg, bg, sg, dV, kV, doc, pm, cdv, ct, oc, an, od, osl, Ng, hm, hk, lk, hcg, hb, Sg, hNg, hva, hG⟩ := c.ex
  refine ⟨fun pins s σ H Q I h => ?_⟩
  refine wpAny_Call_Name_kw (ld_glob I hg hm ?_ hdb)
  refine PySem.W.callWith_K (h₀ := X.base) I.ok.mod.kin hk ?_ hs (by rfl)
  rw [hs]
  show wpAny _ _ (spliced ((false, eval e X.env) :: backTo pos (starEach [] X.env))) _ _ s
  refine Calls.spliced_cons (thn (he.run pins s σ H _ I h) fun u s' ⟨v, H1, I1, rv, f, F, tb, ev, hBod, hT⟩ => ?_)
  subst ev
  obtain rfl : u = Value.ref f := rv
  obtain ⟨L, hq, hcl, hbind, hbody⟩ := hB F tb hBod
  refine Calls.spliced_nil ⟨I1.kIn, ?_⟩
  have rc : codeAny (model X.prog X.w) X.A (.call (.ref g) ⟨[.ref f], []⟩) (CR CX0 X.stack X.prog X.w H1 s' Q E0) s' := by
    refine run_ofS (N := Ng) (ps := [a]) (us := [.ref f]) (vs := [.ref f]) lk hcg Sg hr I1.env0 (hb s' [.ref f] I1.kIn rfl) (.cons rfl .nil) rfl fun hr' => ?_
    exact hG X.A X.stack f s' H1 Q (fun E H' Q' => LamAt H' f F ∧ tb E σ H' Q') hr' (fun W pn xe E p1 p2 tk hW => pe_actW (i := 0) I1 L hps hq hcl hbind tk hW hr' (fun A outer s H hr2 => hbody A outer s H E f F.c hr2) hNg hva hd hcd) hT
  refine wpAny_call (codeAny_mono rc ?_)
  rintro (e | fl) s2 q
  · exact (show False from q).elim
  · cases fl <;> first | exact I1.after q | exact False.elim q
end
end DL
end
section
set_option Elab.async false
set_option linter.all false
set_option maxRecDepth 100000
set_option maxHeartbeats 2000000
namespace DL
open PySem PySem.Spec PyProof.Rows L2
/-! A set of texts that was just made: its members, and that its table can be walked. -/
/-- the text of an entry -/
def txtOf (e : Int × Value) : Str := match e.2 with
  | .str x _ => x
  | _ => Str.empty
/-- an entry that holds a text under the text's hash -/
def TxtE (w : World) (e : Int × Value) : Prop := ∃ (x : Str) (t : Tok), e = (hashStr w x, Value.str x t)
/-- entries and table of a set with the members ks, each once -/
structure TTab (w : World) (es : Array (Int × Value)) (t : SetTable) (ks : List Str) : Prop where
  txt : ∀ e ∈ es.toList, TxtE w e
  mem : (es.toList.map txtOf).Perm ks
  nd : ks.Nodup
  few : ks.length < scanBound
  fit : t.fits es.size = true
  ris : Ris t.place.toList
  led : w.params.followText "set-order" = true ∨ t.led = true
def TSet (w : World) (h : Heap) (a : Addr) (ks : List Str) : Prop := ∃ (o : Obj) (es : Array (Int × Value)) (ep : Nat) (t : SetTable), h.get? a = some o ∧ o.ExactSet ∧ o.data = .set es ep t ∧ TTab w es t ks
section
variable {P : Program} {w : World} {A : Around} {E : Value → Shared → Prop} {s : Shared} {a : Addr} {ks : List Str} {es : Array (Int × Value)} {t : SetTable} {x : Str} {tk : Tok}
theorem TTab.size (T : TTab w es t ks) : es.size = ks.length := by
  have q := T.mem.length_eq
  rw [List.length_map, Array.length_toList] at q
  exact q
theorem TTab.elems (T : TTab w es t ks) : ElemsOf (strKind P w) es.toList := by
  intro e he
  obtain ⟨x, tk, rfl⟩ := T.txt e he
  exact ⟨⟨x, strKind_is P w x tk, rfl⟩, rfl⟩
/-- what the scan finds -/
theorem TTab.found (T : TTab w es t ks) {e : Int × Value} (he : e ∈ es.toList) (h : (strKind P w).is x e.2 = true) : x ∈ ks := by
  obtain ⟨y, tk, rfl⟩ := T.txt e he
  have q : x = y := (strKind P w).inj _ x y h (strKind_is P w y tk)
  subst q
  exact T.mem.mem_iff.mp (List.mem_map.mpr ⟨_, he, rfl⟩)
theorem TTab.there (T : TTab w es t ks) (h : x ∈ ks) : ∃ e ∈ es.toList, (strKind P w).is x e.2 = true := by
  obtain ⟨e, he, q⟩ := List.mem_map.mp (T.mem.mem_iff.mpr h)
  obtain ⟨y, tk, rfl⟩ := T.txt e he
  have q : y = x := q
  subst q
  exact ⟨_, he, strKind_is P w y tk⟩
/-- other entries in their place, the same members -/
theorem TTab.perm (T : TTab w es t ks) {es' : Array (Int × Value)} {t' : SetTable} (p : es'.toList.Perm es.toList) (fit : t'.fits es'.size = true) (ris : Ris t'.place.toList) (led : w.params.followText "set-order" = true ∨ t'.led = true) : TTab w es' t' ks :=
  ⟨fun e he => T.txt e (p.mem_iff.mp he), (p.map txtOf).trans T.mem, T.nd, T.few, fit, ris, led⟩
/-- one more -/
theorem TTab.more (T : TTab w es t ks) (nx : x ∉ ks) (room : ks.length + 1 < scanBound) {es' : Array (Int × Value)} {t' : SetTable} (p : es'.toList.Perm (es.push (hashStr w x, Value.str x tk)).toList) (fit : t'.fits es'.size = true) (ris : Ris t'.place.toList) (led : w.params.followText "set-order" = true ∨ t'.led = true) : TTab w es' t' (ks ++ [x]) := by
  rw [Array.toList_push] at p
  refine ⟨fun e he => ?_, ?_, ?_, by simpa using room, fit, ris, led⟩
  · rcases List.mem_append.mp (p.mem_iff.mp he) with z | z
    · exact T.txt e z
    · exact ⟨x, tk, List.mem_singleton.mp z⟩
  · have q := p.map txtOf
    rw [List.map_append] at q
    exact q.trans (T.mem.append_right [x])
  · exact List.nodup_append.mpr ⟨T.nd, by simp, fun y hy z hz e => nx (by rw [List.mem_singleton.mp hz] at e; exact e ▸ hy)⟩
/-- the new entries are written, and laid anew where the table is too full -/
theorem tset_store {g : Bool → Sem Unit} (quiet : ∀ (b : Bool) (s' : Shared) (R : Unit → Shared → Prop), R () s' → wpAny (model P w) A (g b) R E s') {o : Obj} {es0 : Array (Int × Value)} {ep : Nat} {t0 : SetTable} (ho : s.heap.get? a = some o) (ex : o.ExactSet) (hd : o.data = .set es0 ep t0)
    (T : TTab w es t ks) {dum : Bool} {R : Option Bool → Shared → Prop} (done : ∀ hp, Heap.SameBut a s.heap hp → TSet w hp a ks → R (some true) { s with heap := hp }) :
    wpAny (model P w) A (do
      storeSet a es t
      if (!dum && t.tooFull) = true then do
          g (relayAll t es (SetTable.grown es.size)).2.2
          storeSet a (relayAll t es (SetTable.grown es.size)).1 (relayAll t es (SetTable.grown es.size)).2.1
          Pure.pure (some true)
        else Pure.pure (some true)) R E s := by
  have room {es' : Array (Int × Value)} (n : es'.size = ks.length) : es'.size ≤ sizeLine := fits_of_scanBound (by rw [n]; exact T.few)
  have first_ := store_at (es' := es) (t' := t) ho hd
  refine wpAny_bind (wpAny_storeSet_of ho hd ?_ (room T.size))
  cases hf : (!dum && t.tooFull) with
  | false => exact wpAny_pure (done _ (Heap.SameBut.update s.heap a _) ⟨_, es, _, t, first_, ex, rfl, T⟩)
  | true =>
    have T2 : TTab w (relayAll t es (SetTable.grown es.size)).1 (relayAll t es (SetTable.grown es.size)).2.1 ks :=
      T.perm (relayAll_perm t es _) (relayAll_fits t es _) (relayAll_ris t es _) (T.led.imp_right fun z => (relayAll_led t es _).trans z)
    refine wpAny_bind (quiet _ _ _ (wpAny_bind (wpAny_storeSet_of first_ rfl ?_ (room T2.size))))
    exact wpAny_pure (done _ ((Heap.SameBut.update s.heap a _).trans (Heap.SameBut.update _ a _)) ⟨_, _, _, _, store_at first_ rfl, ex, rfl, T2⟩)
/-- a member is put in -/
theorem tset_add {Q : Bool → Shared → Prop} (T : TSet w s.heap a ks) (room : ks.length + 1 < scanBound)
    (done : ∀ (b : Bool) (hp : Heap) (ks' : List Str), Heap.SameBut a s.heap hp → TSet w hp a ks' → (∀ y, y ∈ ks' ↔ y ∈ ks ∨ y = x) → ks'.length ≤ ks.length + 1 → Q b { s with heap := hp }) :
    wpAny (model P w) A (setAddHashed a (.str x tk) ((strKind P w).hash x)) Q E s := by
  obtain ⟨o, es, ep, t, ho, ex, hd, T⟩ := T
  have few : es.size < scanBound := by rw [T.size]; exact T.few
  have sc : (Value.str x tk).scannable = true := rfl
  have is_ : (strKind P w).is x (.str x tk) = true := strKind_is P w x tk
  unfold setAddHashed setAddHashedIn
  refine wpAny_holding (wpAny_bind (wpAny_setState_of ho hd T.fit ?_))
  dsimp only
  rw [byScan_of sc few (T.elems (P := P))]
  simp only [↓reduceIte]
  unfold setAddByScan
  refine wpAny_bind (wpAny_bind (wpAny_rule (wpAny_bind (wpAny_setScan_of is_ ho hd T.fit T.elems ?_))))
  rcases at_ : es.toList.findIdx? (fun e => (strKind P w).is x e.2) with _ | j
  · have nx : x ∉ ks := fun z => by
      obtain ⟨e, he, q⟩ := T.there (P := P) z
      have c := List.findIdx?_eq_none_iff.mp at_ e he
      rw [q] at c
      cases c
    rw [at_]
    dsimp only
    have gq : ∀ (b : Bool) (s' : Shared) (R : Unit → Shared → Prop), R () s' → wpAny (model P w) A (match b with | true => rule "set.scan.the-table-gave-way" | false => Pure.pure ()) R E s' := fun b s' R q => by
      cases b
      · exact wpAny_pure q
      · exact wpAny_rule q
    have p := layNew_perm t es ((strKind P w).hash x) (Value.str x tk)
    have fit := layNew_fits t es ((strKind P w).hash x) (Value.str x tk)
    have ris := layNew_ris t es ((strKind P w).hash x) (Value.str x tk) T.ris
    have led := T.led.imp_right fun z => (layNew_led t es ((strKind P w).hash x) (Value.str x tk)).trans z
    generalize layNew t es ((strKind P w).hash x) (Value.str x tk) = Z at p fit ris led ⊢
    have fin : ∀ hp, Heap.SameBut a s.heap hp → TSet w hp a (ks ++ [x]) → Q true { s with heap := hp } := fun hp sb T' => done true hp _ sb T' (by simp) (by simp)
    have M : ∀ t2 : SetTable, t2.fits Z.1.size = true → Ris t2.place.toList → (w.params.followText "set-order" = true ∨ t2.led = true) → TTab w Z.1 t2 (ks ++ [x]) := fun t2 => T.more nx room p
    refine wpAny_bind (gq _ _ _ ?_)
    split
    · refine wpAny_bind ?_
      rw [hashByValue_scannable 8 sc]
      refine wpAny_pure (tset_store gq ho ex hd (M _ ?_ ?_ ?_) fun hp sb T' => wpAny_pure (fin hp sb T'))
      · split
        · exact fit
        · exact SetTable.fits_plain_off fit
      · split <;> exact ris
      · split <;> exact led
    · refine wpAny_bind (wpAny_pure ?_)
      simp only [↓reduceIte]
      exact tset_store gq ho ex hd (M _ fit ris led) fun hp sb T' => wpAny_pure (fin hp sb T')
  · obtain ⟨hj, q, _⟩ := List.findIdx?_eq_some_iff_getElem.mp at_
    have hx : x ∈ ks := T.found (P := P) (List.getElem_mem hj) q
    rw [at_]
    exact wpAny_pure (wpAny_pure (done _ s.heap ks (Heap.SameBut.refl a s.heap) ⟨o, es, ep, t, ho, ex, hd, T⟩ (fun y => ⟨.inl, fun z => z.elim id fun e => e ▸ hx⟩) (Nat.le_succ _)))
theorem TSet.at {h h' : Heap} (T : TSet w h a ks) (k : ∀ o, h.get? a = some o → h'.get? a = some o) : TSet w h' a ks := by
  obtain ⟨o, es, ep, t, ho, r⟩ := T
  exact ⟨o, es, ep, t, k o ho, r⟩
/-- the loop that puts the walked texts in -/
theorem tset_loop {I : Addr} {fp wr : List Addr} {G : Array GenState → Array GenState → Prop} {n : Nat} {Pv : Nat → Value → Prop} {St : Nat → Shared → Prop} {R : Result → Shared → Prop} (W : WalksS P w A.in1 I fp wr G n Pv St) {S : Addr} (out : S ∉ fp) {xs : List Str} (hn : xs.length = n) (few : n + 1 < scanBound)
    (val : ∀ i v, Pv i v → ∃ y t, xs[i]? = some y ∧ v = .str y t) : ∀ (d i : Nat) (s : Shared) (ks : List Str), i + d = n → St i s → TSet w s.heap S ks → ks.length ≤ i → (∀ y, y ∈ ks ↔ y ∈ xs.take i) →
      (∀ s' ks', Moved (S :: wr) G s s' → TSet w s'.heap S ks' → (∀ y, y ∈ ks' ↔ y ∈ xs) → ks'.length ≤ n → R (.ok (.ret .none)) s') → codeAny (model P w) A (.builtin "set.update.loop" ⟨[.ref S, .ref I], []⟩) R s
  | 0, i, s, ks, hd, st, T, hl, mem, done => by
    refine codeAny_builtin F.entry_set_update_loop ?_
    rw [Around.under_plainId F.plain_set_update_loop _]
    obtain rfl : i = n := hd
    show wpAny _ A.in1 (pyNext (.ref I) >>= _) _ _ s
    refine wpAny_bind (W.done s _ _ st fun s' mv => ?_)
    show wpAny _ A.in1 (ret Value.none) _ _ s'
    rw [List.take_of_length_le (Nat.le_of_eq hn)] at mem
    exact wpAny_pure (done s' ks (mv.mono fun b hb => List.mem_cons_of_mem _ hb) (T.at fun o e => mv.heap S o (fun z => out (W.sub _ z)) e) mem hl)
  | d + 1, i, s, ks, hd, st, T, hl, mem, done => by
    have lt : i < n := by omega
    refine codeAny_builtin F.entry_set_update_loop ?_
    rw [Around.under_plainId F.plain_set_update_loop _]
    show wpAny _ A.in1 (pyNext (.ref I) >>= _) _ _ s
    refine wpAny_bind (W.item i s _ _ lt st fun v s' pv st' mv => ?_)
    obtain ⟨y, tk, hy, rfl⟩ := val i v pv
    have T' : TSet w s'.heap S ks := T.at fun o e => mv.heap S o (fun z => out (W.sub _ z)) e
    show wpAny _ A.in1 (holding [Value.str y tk] (setAdd S (.str y tk)) >>= _) _ _ s'
    unfold setAdd
    refine wpAny_bind (wpAny_holding (wpAny_holding (wpAny_bind ((strKind P w).pyHash (k := y) (strKind_is P w y tk) ?_))))
    refine tset_add (s := { s' with toks := s'.toks + 1 }) T' (by omega) fun b hp ks2 sb T2 mem2 hl2 => ?_
    have st2 := W.frame _ s' hp (s'.toks + 1) st' (Nat.le_succ _) fun c hc o e => by
      rw [sb.2 c fun z => out (z ▸ hc)]
      exact e
    refine wpAny_pure ⟨plainId_quiet F.plain_set_update_loop _, tset_loop W out hn few val d (i + 1) _ ks2 (by omega) st2 T2 (by omega) (fun z => ?_) fun s3 ks3 mv3 T3 mem3 hl3 => ?_⟩
    · rw [mem2, mem, List.take_add_one, hy, List.mem_append]
      simp
    · refine done s3 ks3 (Moved.trans W.gtrans ((mv.mono fun b hb => List.mem_cons_of_mem _ hb).then_heap (Nat.le_succ _) fun c o hc e => ?_) mv3) T3 mem3 hl3
      rw [sb.2 c fun z => hc (z ▸ List.mem_cons_self)]
      exact e
end
end DL
end
section
set_option Elab.async false
set_option linter.all false
set_option maxRecDepth 100000
set_option maxHeartbeats 3200000
namespace DL
open PySem PySem.Spec PyProof.Rows L2
/-- a set just born -/
abbrev bornSet (w : World) : Obj := { cls := .type "set", dict := none, data := .set #[] 0 (.fresh 0 0 (!w.params.followText "set-order")) }
section
variable {P : Program} {w : World} {A : Around} {E : Value → Shared → Prop} {s : Shared}
theorem tset_born {h : Heap} {a : Addr} (ho : h.get? a = some (bornSet w)) : TSet w h a [] := by
  refine ⟨_, #[], 0, _, ho, ⟨rfl, rfl, rfl⟩, rfl, ⟨fun e he => by simp at he, by simp, List.nodup_nil, by decide, by rfl, List.Pairwise.nil, ?_⟩⟩
  show _ ∨ (!w.params.followText "set-order") = true
  cases w.params.followText "set-order"
  · exact .inr rfl
  · exact .inl rfl
theorem strs_get : ∀ {vs : List Value} {xs : List Str}, StrsAre vs xs → ∀ (i : Nat) (v : Value), vs[i]? = some v → ∃ y t, xs[i]? = some y ∧ v = .str y t
  | _, _, .nil, i, v, e => by simp at e
  | _, _, .cons x t r, 0, v, e => ⟨x, t, rfl, by simpa using e.symm⟩
  | _, _, .cons x t r, i + 1, v, e => by simpa using strs_get r i v (by simpa using e)
/-- set.__init__ of a set just born and a tuple of texts -/
theorem init_tup (hh : A.handled = none) {S l : Addr} {items : Array Value} {xs : List Str} {Q : PySem.Fin → Shared → Prop} (hS : s.heap.get? S = some (bornSet w)) (hl : s.heap.IsTuple l items) (ne : S ≠ l) (ht : StrsAre items.toList xs) (hn : xs.length = items.size) (few : items.size + 1 < scanBound)
    (done : ∀ (hp : Heap) (tk : Nat) (ks : List Str), TSet w hp S ks → (∀ y, y ∈ ks ↔ y ∈ xs) → ks.length ≤ items.size → (∀ b o, b ≠ S → s.heap.get? b = some o → hp.get? b = some o) → Q (.done (.ret .none)) { s with heap := hp, toks := tk }) :
    wpAny (model P w) A (Builtin.«set.__init__» ⟨[.ref S, .ref l], []⟩) Q E s := by
  obtain ⟨ol, hol, hcl, nl, hdl⟩ := id hl
  obtain ⟨ocls, odict, odata, oslots⟩ := ol
  dsimp only at hcl hdl
  subst hcl hdl
  have q1 := F.sub_tuple_set
  have q2 := F.sub_tuple_frozenset
  have q3 : (Value.type "tuple" == Value.type "dict") = false := by decide
  unfold Builtin.«set.__init__» noKeywords Builtin.Frozenset.updateFrom
  generalize it : pyIter = PI
  wp_walk
  subst it
  have ltS := Heap.lt_size hS
  have ltl := Heap.lt_size hol
  refine wpAny_pyIter_tuple hl (wpAny_bind (wpAny_runValue ?_))
  have out : S ∉ [s.heap.objs.size, l] := by
    simp only [List.mem_cons, List.not_mem_nil, or_false, not_or]
    exact ⟨Nat.ne_of_lt ltS, ne⟩
  refine tset_loop ((Walks.tuple (by simp [hh]) s.heap.objs.size l (Nat.ne_of_lt ltl) items).toS) out hn few (fun i v hv => strs_get ht i v (by rw [Array.getElem?_toList]; exact hv)) items.size 0 _ [] (by omega) ⟨⟨_, Heap.get?_push_size _ rfl, rfl, rfl⟩, hl.push _⟩ (tset_born (Heap.get?_push_of_some _ hS)) (Nat.le_refl _) (by simp) ?_
  rintro ⟨hp, g', d', tk, os'⟩ ks mv T mem hle
  obtain rfl : g' = s.gens := mv.gens
  obtain rfl : d' = s.drawn := mv.drawn
  obtain rfl : os' = s.os := mv.os
  refine wpAny_pure ?_
  show wpAny _ _ (ret Value.none) _ _ _
  refine wpAny_pure (done hp tk ks T mem hle fun b o nb e => mv.heap b o ?_ (Heap.get?_push_of_some _ e))
  simp only [List.mem_cons, List.not_mem_nil, or_false, not_or]
  exact ⟨nb, Nat.ne_of_lt (Heap.lt_size e)⟩
/-- set(t) of a tuple of texts -/
theorem call_set_txt {l : Addr} {items : Array Value} {xs : List Str} {Q : Value → Shared → Prop} (hh : A.handled = none) (hl : s.heap.IsTuple l items) (ht : StrsAre items.toList xs) (hn : xs.length = items.size) (few : items.size + 1 < scanBound)
    (done : ∀ (hp : Heap) (tk : Nat) (ks : List Str), TSet w hp s.heap.objs.size ks → (∀ y, y ∈ ks ↔ y ∈ xs) → ks.length ≤ items.size → (∀ b o, s.heap.get? b = some o → hp.get? b = some o) → Q (.ref s.heap.objs.size) { s with heap := hp, toks := tk }) :
    wpAny (model P w) A (call (.type "set") [.ref l]) Q E s := by
  obtain ⟨_, _, mro⟩ := F.called_set.mro
  have z1 := F.called_set.made
  have z2 := F.called_set.sub
  have z3 := F.called_set.notType
  have z4 := F.called_set.canCreate
  have z5 := F.typeCall_set_1 (.ref l)
  have ltl : l < s.heap.objs.size := by
    obtain ⟨o, ho, _⟩ := hl
    exact Heap.lt_size ho
  refine wpAny_call (codeAny_of_tree ?_)
  show wpAny _ _ (callAny (.type "set") _) _ _ _
  refine wpAny_pure ⟨Code.quiet_builtin _ (by decide +kernel), codeAny_builtin F.entry_type_call ?_⟩
  rw [Around.under_plain (weight_type_call_type "set" [.ref l] []) rfl]
  repeat (any_goals (first | assumption | wp_step))
  refine codeAny_mono (code_set_led1 (.ref l) (E := E) (Q₁ := fun v s1 => v = .ref s.heap.objs.size ∧ s1 = { s with heap := s.heap.push (bornSet w) }) ⟨rfl, rfl⟩) ?_
  rintro (e | fl) s1 h1
  · exact h1
  · cases fl with
    | ret v =>
      obtain ⟨rfl, rfl⟩ := h1
      have born : (s.heap.push (bornSet w)).get? s.heap.objs.size = some (bornSet w) := Heap.get?_push_size _ rfl
      have ty : Shared.TypeIs { s with heap := s.heap.push (bornSet w) } (.ref s.heap.objs.size) "set" := ⟨_, born, rfl⟩
      have z6 := F.called_set.init.lookup
      have z7 := F.called_set.init.bind (.ref s.heap.objs.size)
      repeat (any_goals (first | assumption | wp_step))
      refine codeAny_mono (codeAny_call_builtin (R := wants (fun v s2 => v = .none ∧ Q (.ref s.heap.objs.size) s2) E) F.called_set.init.plain F.entry_set_init (check_set_init_1 ty (init_tup (by simp [hh]) born (hl.push _) (Nat.ne_of_gt ltl) ht hn few fun hp tk ks T mem hle keep =>
        ⟨rfl, done hp tk ks T mem hle fun b o e => keep b o (Nat.ne_of_lt (Heap.lt_size e)) (Heap.get?_push_of_some _ e)⟩))) ?_
      rintro (e | f2) s2 h2
      · exact h2
      · cases f2 with
        | ret v =>
          obtain ⟨rfl, hq⟩ := h2
          repeat (any_goals (first | assumption | wp_step))
        | _ => exact h2.elim
    | _ => exact h1.elim
end
end DL
end
section
set_option Elab.async false
set_option linter.all false
set_option maxRecDepth 100000
set_option maxHeartbeats 2000000
namespace DL
open PySem PySem.Spec PyProof.Rows L2
section
variable {P : Program} {w : World} {A : Around} {E : Value → Shared → Prop} {s : Shared} {a : Addr} {ks : List Str}
def txtV (v : Value) : Str := match v with
  | .str x _ => x
  | _ => Str.empty
theorem strs_of : ∀ vs : List Value, (∀ v ∈ vs, ∃ x t, v = Value.str x t) → StrsAre vs (vs.map txtV)
  | [], _ => .nil
  | v :: vs, h => by
    obtain ⟨x, t, rfl⟩ := h v List.mem_cons_self
    exact .cons x t (strs_of vs fun u hu => h u (List.mem_cons_of_mem _ hu))
theorem sorted_txt {Q : Value → Shared → Prop} (T : TSet w s.heap a ks) (hh : A.handled = none) (few : ks.length ≤ 60)
    (done : ∀ s' p (out : Array Value) (c : Nat) (ys : List Str), (∀ b o, s.heap.get? b = some o → s'.heap.get? b = some o) → s'.gens = s.gens → s'.os = s.os → s.heap.objs.size ≤ p →
      s'.heap.get? p = some (seqObj "list" out c) → StrsAre out.toList ys → ys.Perm ks → sortedS ys = true → Q (.ref p) s') :
    wpAny (model P w) A (call (.builtin "sorted") [.ref a]) Q E s := by
  obtain ⟨o, es, ep, t, ho, ex, hd, T⟩ := T
  refine Calls.call_function_entry kind_sorted plain_sorted entry_sorted (args_sorted1 _) ?_
  unfold Builtin.«sorted»
  refine wpAny_bind (m := checkCount "sorted" 1 1 _) (wpAny_pure (wpAny_bind (collect_set (A := A.in1) hh ⟨o, ho, ex.1, hd⟩ T.fit (by rw [T.size]; exact T.few) T.ris T.led fun s1 vs keep grown g1 o1 pm => ?_)))
  have tx : StrsAre vs (vs.map txtV) := strs_of vs fun v hv => by
    obtain ⟨e, he, rfl⟩ := List.mem_map.mp (pm.mem_iff.mp hv)
    obtain ⟨x, t, rfl⟩ := T.txt e he
    exact ⟨x, t, rfl⟩
  have same : (vs.map txtV).Perm ks := by
    have q := pm.map txtV
    rw [List.map_map] at q
    exact q.trans T.mem
  have hlen : vs.length ≤ sizeLine := by
    have q := same.length_eq
    rw [List.length_map] at q
    rw [q, sizeLine_eq]
    omega
  refine wpAny_bind (wpAny_newList ?_ hlen)
  have made : (s1.heap.push (seqObj "list" vs.toArray 0)).get? s1.heap.objs.size = some (seqObj "list" vs.toArray 0) := Heap.get?_push_size _ rfl
  refine wpAny_bind (wpAny_holding (wpAny_call_entry slot_list_sort ⟨_, made, rfl⟩ entry_list_sort (list_sort_treeKAny strKind_oneLt made tx.keysOf (fun v1 v2 r e => keyKind_strs (by rw [← e]; exact tx)) hlen fun st p1 p2 => ⟨_, rfl, ?_⟩) (args_list_sort _)))
  obtain ⟨ys, q1, q2, q3⟩ := sorted_out_str tx p1 p2
  obtain ⟨c, hc⟩ := sortedHeap_at (vs := vs) (out := (arrOf st).map (·.2)) made
  refine wpAny_pure ⟨_, rfl, done _ s1.heap.objs.size _ c ys (fun b u e => ?_) g1 o1 grown hc q1 (q2.trans same) q3⟩
  have old := keep b u e
  have lt := Heap.lt_size old
  show (sortedHeap (s1.heap.push (seqObj "list" vs.toArray 0)) s1.heap.objs.size vs _).get? b = some u
  rw [sortedHeap_old (Nat.ne_of_lt lt) (by rw [size_push']; exact Nat.lt_succ_of_lt lt)]
  exact Heap.get?_push_of_some _ old
theorem rise : ∀ (l : List Str) (p : Str), risingS p l = true → (p :: l).Nodup → (p :: l).Pairwise (fun a b : Str => a.cps.toList < b.cps.toList)
  | [], p, _, _ => by simp
  | x :: l, p, h, nd => by
    have h : (!ltCps x.cps.toList p.cps.toList && risingS x l) = true := h
    rw [Bool.and_eq_true, ltCps_eq, Bool.not_eq_true', decide_eq_false_iff_not] at h
    have nd2 := List.nodup_cons.mp nd
    have ih := rise l x h.2 nd2.2
    have ne : p ≠ x := fun z => nd2.1 (z ▸ List.mem_cons_self)
    have lt : p.cps.toList < x.cps.toList := by
      by_cases q : p.cps.toList < x.cps.toList
      · exact q
      · refine absurd ?_ ne
        have e : p.cps.toList = x.cps.toList := List.le_antisymm (List.not_lt.mp h.1) (List.not_lt.mp q)
        cases p
        cases x
        congr 1
        exact Array.toList_inj.mp e
    rw [List.pairwise_cons (a := p)]
    refine ⟨fun c hc => ?_, ih⟩
    rcases List.mem_cons.mp hc with rfl | hc
    · exact lt
    · exact List.lt_trans lt ((List.pairwise_cons.mp ih).1 c hc)
theorem asc_of_sorted {ys : List Str} (h : sortedS ys = true) (nd : ys.Nodup) : ys.Pairwise (fun a b : Str => a.cps.toList < b.cps.toList) := by
  cases ys with
  | nil => exact .nil
  | cons y ys => exact rise ys y h nd
end
end DL
end
section
set_option Elab.async false
set_option linter.all false
set_option maxRecDepth 100000
set_option maxHeartbeats 2000000
namespace DL
open PySem PySem.Spec PyProof.Rows L2
/-- sorted(set(e)), e a tuple of texts -/
def tSortSet (K : PySem.W.Frag) (te : TE) : TE := fun σ H Q => te σ H fun v H1 => ∃ (a : Addr) (xs : List Str), v = .ref a ∧ SqT K H1 a (xs.map V.str) ∧ xs.length ≤ 60 ∧
  ∀ (ys : List Str) (p : Addr), (∀ y, y ∈ ys ↔ y ∈ xs) → ys.Pairwise (fun a b : Str => a.cps.toList < b.cps.toList) → H1 p = none → Q (.ref p) (upd H1 p (.lst (ys.map V.str)))
section
variable {K : PySem.W.Frag} {ρ : Env} {m : Mem} {P : D → Mem → Prop} {te : TE}
theorem w_sortSet (h : W K te ρ m fun d m1 => ∃ xs : List Str, d = .tup (xs.map D.str) ∧ xs.length ≤ 60 ∧ ∀ ys : List Str, (∀ y, y ∈ ys ↔ y ∈ xs) → ys.Pairwise (fun a b : Str => a.cps.toList < b.cps.toList) → P (.lst (ys.map D.str)) m1) : W K (tSortSet K te) ρ m P := fun b σ H s ok Q q =>
  h b σ H s ok _ fun v d m1 H1 ⟨xs, e, hl, h1⟩ st1 ok1 r => by
    subst e
    obtain ⟨a, vs, rfl, hs, rs⟩ := r.tup_ref
    rw [rs.strs_inv] at hs
    refine ⟨a, xs, rfl, hs, hl, fun ys p mem so hp => ?_⟩
    have fr := ok1.fresh hp
    exact q _ _ m1 _ (h1 ys mem so) (st1.trans (step_new hp)) (ok1.new hp) (.lst ⟨upd_same, fr.1, fr.2⟩ (Rps.strs ys))
/-- a def that might raise, but doesn't -/
theorem w_callX0 {R : SdX} {tr : TA} (h : WA K tr ρ m fun ds m1 => R ds m1 P (fun _ _ => False)) : W K (tCall (spOfX K R) [] (fun _ _ _ => False) tr) ρ m P := fun b σ H s ok Q q =>
  run_callX (E := fun _ _ _ => False) h s ok (fun _ _ _ z => z.elim) q
theorem W.imp {P' : D → Mem → Prop} (h : W K te ρ m P) (f : ∀ d m1, P d m1 → P' d m1) : W K te ρ m P' := fun b σ H s ok Q q => h b σ H s ok Q fun v d m' H' hp => q v d m' H' (f d m' hp)
theorem eqv_strs : ∀ xs ys : List Str, PyData.eqv (toPy (.lst (xs.map D.str))) (toPy (.lst (ys.map D.str))) = decide (xs = ys) := by
  have key : ∀ xs ys : List Str, PyData.eqvAll (toPys (xs.map D.str)) (toPys (ys.map D.str)) = decide (xs = ys) := fun xs => by
    induction xs with
    | nil =>
      intro ys
      cases ys with
      | nil => rfl
      | cons y ys => rfl
    | cons x xs ih =>
      intro ys
      cases ys with
      | nil => rfl
      | cons y ys =>
        show (PyData.eqv (.str x) (.str y) && PyData.eqvAll (toPys (xs.map D.str)) (toPys (ys.map D.str))) = _
        rw [ih ys]
        by_cases h : x = y
        · subst h
          by_cases h2 : xs = ys
          · subst h2
            simp [PyData.eqv]
          · simp [PyData.eqv, h2]
        · simp [PyData.eqv, h]
  exact key
theorem pe_sortSet {X : Cx} {e : Expr} {te : TE} {p1 p2 pos1 pos2 : Pos} (hc : X.calm = true) (hg1 : Gl X "sorted") (hm1 : X.mg "sorted" = none) (hg2 : Gl X "set") (hm2 : X.mg "set" = none) (he : PE X e te) (hK : X.K = K := by rfl) (hse : starEach [e] X.env = (false, eval e X.env) :: starEach [] X.env := by rfl) : PE X (.Call (.Name "sorted" p1) [.Call (.Name "set" p2) [e] [] pos2] [] pos1) (tSortSet K te) := by
  subst hK
  refine ⟨fun pins s σ H Q I h => ?_⟩
  refine wpAny_Call_Name_kw (ld_blt (u := .builtin "sorted") I hg1 hm1 (by decide +kernel) ?_ (by decide) (by decide))
  refine PyProof.Rows.callWith_builtin1 ?_ rfl rfl
  refine Calls.spliced_cons ?_
  refine wpAny_Call_Name_kw (ld_blt (u := .type "set") I hg2 hm2 (by decide +kernel) ?_ (by decide) (by decide))
  refine PyProof.Rows.callWith_type1 (thn ((pa_cons he pa_nil (hs := hse)).run pos2 pins s σ H (fun vs H1 => match vs with | [v] => ∃ (a : Addr) (xs : List Str), v = .ref a ∧ SqT X.K H1 a (xs.map V.str) ∧ xs.length ≤ 60 ∧ ∀ (ys : List Str) (p : Addr), (∀ y, y ∈ ys ↔ y ∈ xs) → ys.Pairwise (fun a b : Str => a.cps.toList < b.cps.toList) → H1 p = none → Q (.ref p) (upd H1 p (.lst (ys.map V.str))) | _ => False) I h) fun us s1 ⟨vs, H1, I1, r1, q1⟩ => ?_) hse rfl
  cases r1 with
  | nil => exact q1.elim
  | cons rv rr =>
    cases rr with
    | cons _ _ => exact q1.elim
    | nil =>
      obtain ⟨a, xs, rfl, hs, hl, q⟩ := q1
      cases rv
      obtain ⟨its, rs, ht, _⟩ := I1.tuple hs
      have n1 : xs.length = its.toArray.size := by
        have q := rs.length
        rw [List.length_map] at q
        rw [List.size_toArray]
        exact q
      have hd0 := I1.ok.hd hc
      refine call_set_txt hd0 ht rs.strs n1 (by rw [← n1]; exact Nat.lt_of_le_of_lt (Nat.add_le_add_right hl 1) (by decide)) fun hp tk ks T mem hle keep => ?_
      have lt0 : s1.heap.objs.size < hp.objs.size := by
        obtain ⟨o, _, _, _, ho, _⟩ := T
        exact Heap.lt_size ho
      have nd : ks.Nodup := by
        obtain ⟨_, _, _, _, _, _, _, T⟩ := T
        exact T.nd
      show wpAny _ _ _ _ _ _
      refine Calls.spliced_nil ?_
      refine sorted_txt (s := { s1 with heap := hp, toks := tk }) T hd0 (by omega) fun s' p out c ys keep2 g o ge at_ tx pm so => ?_
      have stay : ∀ b o, s1.heap.get? b = some o → s'.heap.get? b = some o := fun b o e => keep2 b o (keep b o e)
      have up : s1.heap.objs.size ≤ p := Nat.le_trans (Nat.le_of_lt lt0) ge
      have hn : H1 p = none := I1.hok.fresh up
      have hlen : (ys.map V.str).length ≤ sizeLine := by
        rw [List.length_map, pm.length_eq, sizeLine_eq]
        omega
      have J : L2.Inv X pins σ (upd H1 p (.lst (ys.map V.str))) { s1 with heap := s'.heap, gens := s'.gens, drawn := s'.drawn, toks := s'.toks } :=
        I1.call (ch := []) (Un.laid stay up hn) (I1.hok.laid stay up ⟨hlen, out.toList, c, vals_of_strs tx, at_⟩) (by rw [g]; exact I1.bare) (fun _ z => nomatch z)
      have e : s' = { s1 with heap := s'.heap, gens := s'.gens, drawn := s'.drawn, toks := s'.toks } := by
        cases s'
        cases s1
        cases o
        rfl
      rw [e]
      exact ⟨.ref p, _, J, rfl, q ys p (fun y => pm.mem_iff.trans (mem y)) (asc_of_sorted so (pm.nodup_iff.mpr nd)) hn⟩
theorem cmp_strs (xs : List Str) (h : ∀ x ∈ xs, PyData.strOk x = true) : Cmp (.lst (xs.map D.str)) := by
  have p : ∀ xs : List Str, pures (xs.map D.str) = true := fun xs => by
    induction xs with
    | nil => rfl
    | cons x xs ih => exact ih
  have q : ∀ xs : List Str, (∀ x ∈ xs, PyData.strOk x = true) → PyData.canLayAll0 (toPys (xs.map D.str)) = true := fun xs => by
    induction xs with
    | nil => intro _; rfl
    | cons x xs ih =>
      intro h
      show (PyData.canLay0 (.str x) && PyData.canLayAll0 (toPys (xs.map D.str))) = true
      rw [ih fun y hy => h y (List.mem_cons_of_mem _ hy), show PyData.canLay0 (.str x) = true from h x List.mem_cons_self]
      rfl
  have r : ∀ xs : List Str, PyData.depthAll (toPys (xs.map D.str)) = 0 := fun xs => by
    induction xs with
    | nil => rfl
    | cons x xs ih =>
      show max (PyData.depth (.str x)) (PyData.depthAll (toPys (xs.map D.str))) = 0
      rw [ih]
      simp [PyData.depth]
  refine ⟨p xs, ?_⟩
  show (PyData.canLayAll0 (toPys (xs.map D.str)) && decide (PyData.depthAll (toPys (xs.map D.str)) + 1 ≤ 64)) = true
  rw [q xs h, r xs]
  rfl
theorem lt_cps {a b c : Str} (h1 : a.cps.toList < b.cps.toList) (h2 : b.cps.toList < c.cps.toList) : a.cps.toList < c.cps.toList := List.lt_trans h1 h2
/-- sorted and without doubles: ascending -/
theorem sorted_eq {xs ys : List Str} (mem : ∀ y, y ∈ ys ↔ y ∈ xs) (so : ys.Pairwise (fun a b : Str => a.cps.toList < b.cps.toList)) : (xs = ys ↔ xs.Pairwise (fun a b : Str => a.cps.toList < b.cps.toList)) := by
  have nd : ∀ {l : List Str}, l.Pairwise (fun a b : Str => a.cps.toList < b.cps.toList) → l.Nodup := fun {l} h => h.imp fun {a b} h e => by
    subst e
    exact List.lt_irrefl _ h
  refine ⟨fun e => ?_, fun h => ?_⟩
  · subst e
    exact so
  · exact List.Perm.eq_of_pairwise (fun a b _ _ h1 h2 => absurd (lt_cps h1 h2) (List.lt_irrefl _)) h so ((List.perm_ext_iff_of_nodup (nd h) (nd so)).mpr fun a => (mem a).symm)
end
end DL
end
section
set_option Elab.async false
set_option linter.all false
set_option maxRecDepth 100000
set_option maxHeartbeats 4000000
namespace K04
open PySem PySem.Spec PyProof.Rows L2 DL

def top (i : Nat) : Stmt := PySem.Challenge.pw_soundborder_k04_whole_types.main.body.getD i (.Pass ⟨0, 0, 0, 0⟩)
abbrev s_is_type : Stmt := top 8
theorem sc_is_type : FnScope ["value"] ["value"] (defScope s_is_type) := ⟨rfl, rfl, rfl, by decide +kernel, rfl, by decide +kernel, by decide +kernel⟩
abbrev s_p_is_type_of : Stmt := top 9
theorem sc_p_is_type_of : FnScope ["value", "most"] ["value", "most"] (defScope s_p_is_type_of) := ⟨rfl, rfl, rfl, by decide +kernel, rfl, by decide +kernel, by decide +kernel⟩
abbrev s_is_design : Stmt := top 10
theorem sc_is_design : FnScope ["value", "one", "other"] ["value"] (defScope s_is_design) := ⟨rfl, rfl, rfl, by decide +kernel, rfl, by decide +kernel, by decide +kernel⟩
abbrev s_require_design : Stmt := top 11
theorem sc_require_design : FnScope ["value"] ["value"] (defScope s_require_design) := ⟨rfl, rfl, rfl, by decide +kernel, rfl, by decide +kernel, by decide +kernel⟩
abbrev s_require_type : Stmt := top 12
theorem sc_require_type : FnScope ["value"] ["value"] (defScope s_require_type) := ⟨rfl, rfl, rfl, by decide +kernel, rfl, by decide +kernel, by decide +kernel⟩
abbrev s_has : Stmt := top 13
theorem sc_has : FnScope ["design", "word"] ["design", "word"] (defScope s_has) := ⟨rfl, rfl, rfl, by decide +kernel, rfl, by decide +kernel, by decide +kernel⟩
abbrev s_lies_within : Stmt := top 14
theorem sc_lies_within : FnScope ["design", "one", "other"] ["design", "one", "other"] (defScope s_lies_within) := ⟨rfl, rfl, rfl, by decide +kernel, rfl, by decide +kernel, by decide +kernel⟩
abbrev s_within : Stmt := top 15
theorem sc_within : FnScope ["design", "one", "other", "forth", "_"] ["design", "one", "other"] (defScope s_within) := ⟨rfl, rfl, rfl, by decide +kernel, rfl, by decide +kernel, by decide +kernel⟩
abbrev s_p_both_ways : Stmt := top 16
theorem sc_p_both_ways : FnScope ["design", "one", "other"] ["design", "one", "other"] (defScope s_p_both_ways) := ⟨rfl, rfl, rfl, by decide +kernel, rfl, by decide +kernel, by decide +kernel⟩
abbrev s_p_cells_both_ways : Stmt := top 17
theorem sc_p_cells_both_ways : FnScope ["design", "one", "other", "forth", "back", "along", "against"] ["design", "one", "other"] (defScope s_p_cells_both_ways) := ⟨rfl, rfl, rfl, by decide +kernel, rfl, by decide +kernel, by decide +kernel⟩
abbrev s_p_functions_both_ways : Stmt := top 18
theorem sc_p_functions_both_ways : FnScope ["design", "one", "other", "arguments", "results", "loose", "forth", "back"] ["design", "one", "other"] (defScope s_p_functions_both_ways) := ⟨rfl, rfl, rfl, by decide +kernel, rfl, by decide +kernel, by decide +kernel⟩
abbrev s_p_law_taken : Stmt := top 20
theorem sc_p_law_taken : FnScope ["row", "many", "found", "cell"] ["row", "many"] (defScope s_p_law_taken) := ⟨rfl, rfl, rfl, by decide +kernel, rfl, by decide +kernel, by decide +kernel⟩
abbrev s_p_law_pick : Stmt := top 21
theorem sc_p_law_pick : FnScope ["row", "kinds"] ["row", "kinds"] (defScope s_p_law_pick) := ⟨rfl, rfl, rfl, by decide +kernel, rfl, by decide +kernel, by decide +kernel⟩
abbrev s_p_law_alike : Stmt := top 22
theorem sc_p_law_alike : FnScope ["found", "due", "k"] ["found", "due"] (defScope s_p_law_alike) := ⟨rfl, rfl, rfl, by decide +kernel, rfl, by decide +kernel, by decide +kernel⟩
abbrev s_p_law_words : Stmt := top 23
theorem sc_p_law_words : FnScope ["some"] [] (defScope s_p_law_words) := ⟨rfl, rfl, rfl, by decide +kernel, rfl, by decide +kernel, by decide +kernel⟩
abbrev s_p_law_design : Stmt := top 24
theorem sc_p_law_design : FnScope ["row", "odds", "word"] ["row"] (defScope s_p_law_design) := ⟨rfl, rfl, rfl, by decide +kernel, rfl, by decide +kernel, by decide +kernel⟩
abbrev s_p_law_type : Stmt := top 25
theorem sc_p_law_type : FnScope ["row", "deep", "kind"] ["row", "deep"] (defScope s_p_law_type) := ⟨rfl, rfl, rfl, by decide +kernel, rfl, by decide +kernel, by decide +kernel⟩
abbrev s_p_law_has : Stmt := top 26
theorem sc_p_law_has : FnScope ["design", "word"] ["design", "word"] (defScope s_p_law_has) := ⟨rfl, rfl, rfl, by decide +kernel, rfl, by decide +kernel, by decide +kernel⟩
abbrev s_p_law_within : Stmt := top 27
theorem sc_p_law_within : FnScope ["design", "one", "other", "up"] ["design", "one", "other"] (defScope s_p_law_within) := ⟨rfl, rfl, rfl, by decide +kernel, rfl, by decide +kernel, by decide +kernel⟩
abbrev s_p_law_wrong : Stmt := top 28
theorem sc_p_law_wrong : FnScope ["work", "e"] ["work"] (defScope s_p_law_wrong) := ⟨rfl, rfl, rfl, by decide +kernel, rfl, by decide +kernel, by decide +kernel⟩
abbrev s_law : Stmt := top 29
theorem sc_law : FnScope ["script", "turn", "one", "other", "near", "deep", "odd", "works", "words", "drawn", "due", "bad", "design", "row", "word"] ["script"] (defScope s_law) := ⟨rfl, rfl, rfl, by decide +kernel, rfl, by decide +kernel, by decide +kernel⟩
structure Txt (K : PySem.W.Frag) (mg : Str → Option Value) (aP aW : Addr) : Prop where
  b_len : mg "len" = none
  b_isinstance : mg "isinstance" = none
  b_str : mg "str" = none
  b_tuple : mg "tuple" = none
  b_list : mg "list" = none
  b_bool : mg "bool" = none
  b_int : mg "int" = none
  b_range : mg "range" = none
  b_all : mg "all" = none
  b_zip : mg "zip" = none
  b_sorted : mg "sorted" = none
  b_set : mg "set" = none
  c_MT : ∃ t, mg "MOST_TUPLES" = some (.int 3 t)
  c_PLAIN : mg "PLAIN" = some (.ref aP)
  k_PLAIN : KT K aP ((["num", "small", "big"] : List Str).map V.str)
  c_WORDS : mg "WORDS" = some (.ref aW)
  k_WORDS : KT K aW ((["against", "along", "along checked", "args", "args checked", "blank", "calls", "cast", "cast checked", "keep", "none", "none checked", "put", "share"] : List Str).map V.str)
section
variable {X : Cx} {aP aW : Addr} {pos : Pos}
theorem g_MOST_TUPLES (T : Txt X.K X.mg aP aW) (hg : Gl X "MOST_TUPLES" := by rfl) : PE X (.Name "MOST_TUPLES" pos) (tC (.int 3)) := by
  obtain ⟨t, h⟩ := T.c_MT
  exact pe_glob hg h ⟨t, rfl⟩
theorem g_PLAIN (T : Txt X.K X.mg aP aW) (hg : Gl X "PLAIN" := by rfl) : PE X (.Name "PLAIN" pos) (tC (.ref aP)) := pe_glob hg T.c_PLAIN rfl
theorem g_WORDS (T : Txt X.K X.mg aP aW) (hg : Gl X "WORDS" := by rfl) : PE X (.Name "WORDS" pos) (tC (.ref aW)) := pe_glob hg T.c_WORDS rfl
end
end K04
end
section
set_option Elab.async false
set_option linter.all false
set_option maxRecDepth 100000
set_option maxHeartbeats 4000000
local macro_rules | `(tactic| walk_at "c") => `(tactic| first | (show _ ≠ (0 : Int); omega) | exact DL.cdiv_ok (by omega) (by omega) | exact DL.cmul_ok (by omega) (by omega) | exact DL.cpow_ok)
local macro_rules | `(tactic| walk_at "w") => `(tactic| first
  | with_reducible refine DL.w_cint ?_ | with_reducible refine DL.w_cstr ?_ | with_reducible refine DL.w_cbl ?_ | with_reducible refine DL.w_cnon ?_ | with_reducible refine DL.w_cty ?_
  | refine DL.w_var rfl ?_
  | with_reducible refine DL.w_tup ?_ | with_reducible refine DL.w_lst ?_ | with_reducible refine DL.w_call ?_ | with_reducible refine DL.w_cb ?_ | with_reducible refine DL.w_op ?_
  | with_reducible refine DL.wt_B ?_ | with_reducible refine DL.wt_test ?_ | with_reducible refine DL.wt_and ?_ | with_reducible refine DL.wt_or ?_ | with_reducible refine DL.wt_not ?_ | with_reducible refine DL.wt_yes ?_
  | with_reducible refine DL.w_and ?_ | with_reducible refine DL.w_or ?_ | with_reducible refine DL.w_not ?_ | with_reducible refine DL.w_if ?_
  | with_reducible refine DL.wa_nil ?_ | with_reducible refine DL.wa_cons ?_
  | with_reducible refine DL.ws_next ?_ | with_reducible refine DL.ws_seq ?_ | with_reducible refine DL.ws_if ?_ | with_reducible refine DL.ws_ret ?_ | with_reducible refine DL.ws_drop ?_ | with_reducible refine DL.ws_set ?_ | with_reducible refine DL.ws_par ?_ | with_reducible refine DL.ws_sub ?_ | refine DL.ws_tup2 rfl ?_
  | with_reducible refine DL.wr_I0 ?_ | with_reducible refine DL.wr_B0 ?_
  | with_reducible refine DL.wr_I (by walk_at "c") ?_
  | refine DL.wr_cat (DL.size_le (Nat.le_of_ble_eq_true rfl)) ?_
  | refine DL.wr_hd ?_ | refine DL.wr_hdCell ?_ | refine DL.wr_hdFn ?_ | refine DL.wr_ixCell ?_ | refine DL.wr_ixFn1 ?_ | refine DL.wr_ixFn2 ?_ | refine DL.wr_ixT rfl ?_ | refine DL.wr_ixL rfl ?_ | refine DL.wr_inT0 rfl (DL.strs_flat _) ?_
  | refine DL.wr_ixF rfl ?_ | refine DL.wr_ixM (by assumption) rfl ?_ | refine DL.wr_ixM DL.Mem.set_same rfl ?_
  | refine ⟨_, _, _, _, rfl, rfl, by assumption, rfl, ?_⟩ | refine ⟨_, _, _, _, rfl, rfl, DL.Mem.set_same, rfl, ?_⟩
  | refine DL.wc_lenF ?_ | refine DL.wc_lenT ?_ | refine DL.wc_lenL ?_ | refine DL.wc_int ?_
  | with_reducible refine ⟨_, rfl, ?_⟩
  | refine ⟨_, _, rfl, ?_⟩
  | with_reducible refine DL.iteT' rfl ?_ | with_reducible refine DL.iteF' rfl ?_
  | refine DL.iteT' (by assumption) ?_ | refine DL.iteF' (by assumption) ?_ | refine DL.iteT' (by decide +kernel) ?_ | refine DL.iteF' (by decide +kernel) ?_
  | refine ⟨DL.size_le (Nat.le_of_ble_eq_true rfl), ?_⟩ | refine ⟨by decide +kernel, ?_⟩)
local macro_rules | `(tactic| walk_at "g") => `(tactic| repeat walk_at "w")
local macro_rules | `(tactic| walk_at "b") => `(tactic| repeat (first
  | with_reducible exact ⟨rfl, rfl⟩
  | ((with_reducible apply DL.w_andP); (· walk_at "b"); (· walk_at "b")) | ((with_reducible apply DL.w_orP); (· walk_at "b"); (· walk_at "b"))
  | ((with_reducible apply DL.wt_andP); (· walk_at "b"); (· walk_at "b")) | ((with_reducible apply DL.wt_orP); (· walk_at "b"); (· walk_at "b"))
  | walk_at "w"))
namespace K04
open PySem PySem.Spec PyProof.Rows L2 DL
section
variable {P : Program} {w : World} {K : PySem.W.Frag} {mg : Str → Option Value} {base : Heap} {aP aW : Addr}
def hasW (ws : List Str) (w : Str) : Bool := inD (.str w) (ws.map D.str) || inD (.str (w ++ (" checked" : Str))) (ws.map D.str)
def R_has : Sd := fun ds m P => ∃ (ws : List Str) (w : Str), ds = [.tup (ws.map D.str), .str w] ∧ w.length ≤ 1000 ∧ P (.bl (hasW ws w)) m
theorem ok_has (F : Def K mg "has" s_has ["design", "word"]) : Cal P w K mg base CX0 1 "has" ["design", "word"] (spOf K R_has) := by
  refine F.ok sc_has (fun ds m P h => ?_) (fun f cdv A outer s H hr => ⟨_, (pss_one (ps_ret (pe_or (pe_cmpR (op_inK (K := K)) (pv 1) (pv 0) (by rfl)) (pe_one (pe_cmpR (op_inK (K := K)) (pe_op op_addS (pv 1) pe_str) (pv 0) (by rfl)))))), ?_⟩)
  · obtain ⟨ws, w, rfl, _⟩ := h
    rfl
  · rintro ds m PD ⟨ws, w, rfl, hw, k⟩
    walk_at "g"
    refine iteB (fun h => ?_) (fun h => ?_)
    · unfold hasW at k
      rw [h] at k
      exact k
    · walk_at "g"
      refine wr_addStr (size_le (by have : (" checked" : Str).length = 8 := by decide +kernel
                                    omega)) ?_
      walk_at "g"
      unfold hasW at k
      rw [h] at k
      exact k
/-- the document's three permissions of a design -/
def dAl (ws : List Str) : Bool := hasW ws "along"
def dAg (ws : List Str) : Bool := inD (.str "against") (ws.map D.str)
def dAr (ws : List Str) : Bool := hasW ws "args"
def Wi (ws : List Str) : Ty → Ty → Bool × Bool := wi (dAl ws) (dAg ws) (dAr ws)
def R_both (n : Nat) : Sd := fun ds m P => ∃ (ws : List Str) (s t : Ty), ds = [.tup (ws.map D.str), tyd s, tyd t] ∧ s.depth ≤ n ∧ t.depth ≤ 60 ∧ s.depth ≤ 60 ∧ P (.tup [.bl (Wi ws s t).1, .bl (Wi ws s t).2]) m
def R_cells (n : Nat) : Sd := fun ds m P => ∃ (ws : List Str) (s t : Ty), ds = [.tup (ws.map D.str), tyd s, tyd t] ∧ s ≠ t ∧ s.depth < n ∧ t.depth ≤ 60 ∧ s.depth ≤ 60 ∧ P (.tup [.bl (Wi ws (.cell s) (.cell t)).1, .bl (Wi ws (.cell s) (.cell t)).2]) m
def R_funs (n : Nat) : Sd := fun ds m P => ∃ (ws : List Str) (a u c v : Ty), ds = [.tup (ws.map D.str), tyd (.fn a u), tyd (.fn c v)] ∧ ¬ (a = c ∧ u = v) ∧ a.depth < n ∧ u.depth < n ∧ (Ty.fn a u).depth ≤ 60 ∧ (Ty.fn c v).depth ≤ 60 ∧ P (.tup [.bl (Wi ws (.fn a u) (.fn c v)).1, .bl (Wi ws (.fn a u) (.fn c v)).2]) m
theorem ok_cells {n k : Nat} (F : Def K mg "_cells_both_ways" s_p_cells_both_ways ["design", "one", "other"]) (c_has : Cal P w K mg base CX0 1 "has" ["design", "word"] (spOf K R_has))
    (c_p_both_ways : Cal P w K mg base CX0 (k + 1) "_both_ways" ["design", "one", "other"] (spOf K (R_both n))) : Cal P w K mg base CX0 (k + 2) "_cells_both_ways" ["design", "one", "other"] (spOf K (R_cells (n + 1))) := by
  refine F.ok sc_p_cells_both_ways (fun ds m P h => ?_) (fun f cdv A outer s H hr => ⟨_, (pss_cons (ps_if (PW.pt (pw_or (pt_cmpR (op_eqK (K := K) hr.units) (pv 1) pe_str (nomark _)) (pw_or1 (pt_cmpR (op_eqK (K := K) hr.units) (pv 2) pe_str (nomark _))))) (pss_one (ps_ret (pe_tup (pa_cons (pe_cmpR (op_eqK (K := K) hr.units) (pv 1) pe_str (nomark _)) (pa_cons (pe_cmpR (op_eqK (K := K) hr.units) (pv 2) pe_str (nomark _)) pa_nil))))) pss_nil) (pss_cons (ps_asg (pe_cal c_p_both_ways (hr.mono (by omega)) pass0 (pa_cons (pv 0) (pa_cons (pv 1) (pa_cons (pv 2) pa_nil)))) (pg_tup (by rfl) (pgs_cons (pg_name (i := 3) sc_p_cells_both_ways.nd rfl (Or.inl rfl)) (pgs_cons (pg_name (i := 4) sc_p_cells_both_ways.nd rfl (Or.inl rfl)) pgs_nil)))) (pss_cons (ps_set (i := 5) sc_p_cells_both_ways.nd rfl (Or.inl rfl) (pe_cal c_has (hr.mono (by omega)) pass0 (pa_cons (pv 0) (pa_cons pe_str pa_nil)))) (pss_cons (ps_set (i := 6) sc_p_cells_both_ways.nd rfl (Or.inl rfl) (pe_cmpR (op_inK (K := K)) pe_str (pv 0) (by rfl))) (pss_one (ps_ret (pe_tup (pa_cons (pe_or (pe_and (pv 5) (pe_one (pv 3))) (pe_one (pe_and (pv 6) (pe_one (pv 4))))) (pa_cons (pe_or (pe_and (pv 5) (pe_one (pv 4))) (pe_one (pe_and (pv 6) (pe_one (pv 3))))) pa_nil))))))))), ?_⟩)
  · obtain ⟨ws, s, t, rfl, _⟩ := h
    rfl
  · rintro ds m PD ⟨ws, s, t, rfl, hst, h1, h2, h3, k⟩
    walk_at "g"
    refine wr_eqAny (by omega) ?_
    refine ⟨_, rfl, iteB (fun e => ?_) (fun e => ?_)⟩
    · have e : s = .any := of_decide_eq_true e
      subst e
      walk_at "g"
      refine wr_eqAny (by omega) ?_
      walk_at "g"
      refine wr_eqAny (by omega) ?_
      walk_at "g"
      have q : Wi ws (.cell .any) (.cell t) = (true, decide (t = .any)) := by
        unfold Wi wi
        rw [if_neg hst, if_pos (.inl rfl)]
        rfl
      rw [q] at k
      exact k
    · have e : ¬ s = .any := of_decide_eq_false e
      walk_at "g"
      refine wr_eqAny (by omega) ?_
      refine ⟨_, rfl, iteB (fun e2 => ?_) (fun e2 => ?_)⟩
      · have e2 : t = .any := of_decide_eq_true e2
        subst e2
        walk_at "g"
        refine wr_eqAny (by omega) ?_
        walk_at "g"
        refine wr_eqAny (by omega) ?_
        walk_at "g"
        have q : Wi ws (.cell s) (.cell .any) = (decide (s = .any), true) := by
          unfold Wi wi
          rw [if_neg hst, if_pos (.inr rfl)]
          rfl
        rw [q] at k
        exact k
      · have e2 : ¬ t = .any := of_decide_eq_false e2
        have q : Wi ws (.cell s) (.cell t) = (dAl ws && (Wi ws s t).1 || dAg ws && (Wi ws s t).2, dAl ws && (Wi ws s t).2 || dAg ws && (Wi ws s t).1) := by
          unfold Wi
          rw [wi, if_neg hst, if_neg (by intro z; exact z.elim e e2)]
        rw [q] at k
        walk_at "g"
        refine ⟨ws, s, t, rfl, Nat.le_of_lt_succ h1, h2, h3, ?_⟩
        unfold dAl dAg at k
        walk_at "b"
        exact k
theorem ok_funs {n k : Nat} (F : Def K mg "_functions_both_ways" s_p_functions_both_ways ["design", "one", "other"]) (c_has : Cal P w K mg base CX0 1 "has" ["design", "word"] (spOf K R_has))
    (c_p_both_ways : Cal P w K mg base CX0 (k + 1) "_both_ways" ["design", "one", "other"] (spOf K (R_both n))) : Cal P w K mg base CX0 (k + 2) "_functions_both_ways" ["design", "one", "other"] (spOf K (R_funs (n + 1))) := by
  refine F.ok sc_p_functions_both_ways (fun ds m P h => ?_) (fun f cdv A outer s H hr => ⟨_, (pss_cons (ps_set (i := 3) sc_p_functions_both_ways.nd rfl (Or.inl rfl) (pe_cal c_p_both_ways (hr.mono (by omega)) pass0 (pa_cons (pv 0) (pa_cons (pe_ix (ixK (K := K)) (pv 1) pe_int (fun _ _ => rfl)) (pa_cons (pe_ix (ixK (K := K)) (pv 2) pe_int (fun _ _ => rfl)) pa_nil))))) (pss_cons (ps_set (i := 4) sc_p_functions_both_ways.nd rfl (Or.inl rfl) (pe_cal c_p_both_ways (hr.mono (by omega)) pass0 (pa_cons (pv 0) (pa_cons (pe_ix (ixK (K := K)) (pv 1) pe_int (fun _ _ => rfl)) (pa_cons (pe_ix (ixK (K := K)) (pv 2) pe_int (fun _ _ => rfl)) pa_nil))))) (pss_cons (ps_set (i := 5) sc_p_functions_both_ways.nd rfl (Or.inl rfl) (pe_cal c_has (hr.mono (by omega)) pass0 (pa_cons (pv 0) (pa_cons pe_str pa_nil)))) (pss_cons (ps_set (i := 6) sc_p_functions_both_ways.nd rfl (Or.inl rfl) (pe_and (pe_ix (ixK (K := K)) (pv 4) pe_int (fun _ _ => rfl)) (pe_one (pe_or (pe_ix (ixK (K := K)) (pv 3) pe_int (fun _ _ => rfl)) (pe_one (pe_and (pv 5) (pe_one (pe_ix (ixK (K := K)) (pv 3) pe_int (fun _ _ => rfl))))))))) (pss_cons (ps_set (i := 7) sc_p_functions_both_ways.nd rfl (Or.inl rfl) (pe_and (pe_ix (ixK (K := K)) (pv 4) pe_int (fun _ _ => rfl)) (pe_one (pe_or (pe_ix (ixK (K := K)) (pv 3) pe_int (fun _ _ => rfl)) (pe_one (pe_and (pv 5) (pe_one (pe_ix (ixK (K := K)) (pv 3) pe_int (fun _ _ => rfl))))))))) (pss_one (ps_ret (pe_tup (pa_cons (pv 6) (pa_cons (pv 7) pa_nil)))))))))), ?_⟩)
  · obtain ⟨ws, a, u, c, v, rfl, _⟩ := h
    rfl
  · rintro ds m PD ⟨ws, a, u, c, v, rfl, hne, h1, h2, h3, h4, k⟩
    have q : Wi ws (.fn a u) (.fn c v) = ((Wi ws u v).1 && ((Wi ws a c).2 || dAr ws && (Wi ws a c).1), (Wi ws u v).2 && ((Wi ws a c).1 || dAr ws && (Wi ws a c).2)) := by
      unfold Wi
      rw [wi, if_neg hne]
    rw [q] at k
    simp only [Ty.depth] at h3 h4
    walk_at "g"
    refine ⟨ws, a, c, rfl, by omega, by omega, by omega, ?_⟩
    walk_at "g"
    refine ⟨ws, u, v, rfl, by omega, by omega, by omega, ?_⟩
    unfold dAr at k
    walk_at "b"
    exact k
theorem wi_plain {al ag ar : Bool} {s t : Ty} (hne : s ≠ t) (h1 : ¬ (isCell s = true ∧ isCell t = true)) (h2 : ¬ (isFn s = true ∧ isFn t = true)) : wi al ag ar s t = (decide (s = .big ∧ t = .small), decide (s = .small ∧ t = .big)) := by
  cases s <;> cases t <;> first
    | exact absurd ⟨rfl, rfl⟩ h1
    | exact absurd ⟨rfl, rfl⟩ h2
    | (unfold wi; rw [if_neg hne])
theorem ok_both1 {n k : Nat} (F : Def K mg "_both_ways" s_p_both_ways ["design", "one", "other"])
    (c_p_cells_both_ways : Cal P w K mg base CX0 k "_cells_both_ways" ["design", "one", "other"] (spOf K (R_cells n)))
    (c_p_functions_both_ways : Cal P w K mg base CX0 k "_functions_both_ways" ["design", "one", "other"] (spOf K (R_funs n))) : Cal P w K mg base CX0 (k + 1) "_both_ways" ["design", "one", "other"] (spOf K (R_both n)) := by
  refine F.ok sc_p_both_ways (fun ds m P h => ?_) (fun f cdv A outer s H hr => ⟨_, (pss_cons (ps_if (pt_cmpR (op_eqK (K := K) hr.units) (pv 1) (pv 2) (nomark _)) (pss_one (ps_ret (pe_tup (pa_cons pe_bl (pa_cons pe_bl pa_nil))))) pss_nil) (pss_cons (ps_if (PW.pt (pw_and (pt_cmpR (op_eqK (K := K) hr.units) (pe_ix (ixK (K := K)) (pv 1) pe_int (fun _ _ => rfl)) pe_str (nomark _)) (pw_and1 (pt_cmpR (op_eqK (K := K) hr.units) (pe_ix (ixK (K := K)) (pv 2) pe_int (fun _ _ => rfl)) pe_str (nomark _))))) (pss_one (ps_ret (pe_cal c_p_cells_both_ways (hr.mono (by omega)) pass0 (pa_cons (pv 0) (pa_cons (pe_ix (ixK (K := K)) (pv 1) pe_int (fun _ _ => rfl)) (pa_cons (pe_ix (ixK (K := K)) (pv 2) pe_int (fun _ _ => rfl)) pa_nil)))))) pss_nil) (pss_cons (ps_if (PW.pt (pw_and (pt_cmpR (op_eqK (K := K) hr.units) (pe_ix (ixK (K := K)) (pv 1) pe_int (fun _ _ => rfl)) pe_str (nomark _)) (pw_and1 (pt_cmpR (op_eqK (K := K) hr.units) (pe_ix (ixK (K := K)) (pv 2) pe_int (fun _ _ => rfl)) pe_str (nomark _))))) (pss_one (ps_ret (pe_cal c_p_functions_both_ways (hr.mono (by omega)) pass0 (pa_cons (pv 0) (pa_cons (pv 1) (pa_cons (pv 2) pa_nil)))))) pss_nil) (pss_one (ps_ret (pe_tup (pa_cons (pe_cmpR (op_eqK (K := K) hr.units) (pe_tup (pa_cons (pv 1) (pa_cons (pv 2) pa_nil))) (pe_tup (pa_cons pe_str (pa_cons pe_str pa_nil))) (nomark _)) (pa_cons (pe_cmpR (op_eqK (K := K) hr.units) (pe_tup (pa_cons (pv 1) (pa_cons (pv 2) pa_nil))) (pe_tup (pa_cons pe_str (pa_cons pe_str pa_nil))) (nomark _)) pa_nil)))))))), ?_⟩)
  · obtain ⟨ws, s, t, rfl, _⟩ := h
    rfl
  · rintro ds m PD ⟨ws, s, t, rfl, h1, h5, h4, k⟩
    walk_at "g"
    refine wr_eqTy (by omega) (by omega) ?_
    refine ⟨_, rfl, iteB (fun e => ?_) (fun e => ?_)⟩
    · have e : s = t := of_decide_eq_true e
      subst e
      rw [show Wi ws s s = (true, true) from wi_refl _ _ _ s] at k
      walk_at "g"
      exact k
    · have e : s ≠ t := of_decide_eq_false e
      by_cases q1 : isCell s = true ∧ isCell t = true
      · cases s with
        | cell s =>
          cases t with
          | cell t =>
            simp only [Ty.depth] at h1 h4 h5
            walk_at "g"
            refine ⟨ws, s, t, rfl, fun z => e (by rw [z]), by omega, by omega, by omega, ?_⟩
            exact k
          | _ => cases q1.2
        | _ => cases q1.1
      · by_cases q2 : isFn s = true ∧ isFn t = true
        · cases s with
          | fn a u =>
            cases t with
            | fn c v =>
              simp only [Ty.depth] at h1 h4 h5
              walk_at "g"
              refine ⟨ws, a, u, c, v, rfl, fun z => e (by rw [z.1, z.2]), by omega, by omega, by simp only [Ty.depth]; omega, by simp only [Ty.depth]; omega, ?_⟩
              exact k
            | _ => cases q2.2
          | _ => cases q2.1
        · rw [show Wi ws s t = _ from wi_plain e q1 q2] at k
          walk_at "b"
          rw [show (isCell s && isCell t) = false by cases z : isCell s <;> cases y : isCell t <;> first | rfl | exact absurd ⟨z, y⟩ q1]
          walk_at "b"
          rw [show (isFn s && isFn t) = false by cases z : isFn s <;> cases y : isFn t <;> first | rfl | exact absurd ⟨z, y⟩ q2]
          walk_at "g"
          refine wr_pairBS h4 h5 ?_
          walk_at "g"
          refine wr_pairSB h4 h5 ?_
          walk_at "g"
          exact k
theorem ok_both (F : Def K mg "_both_ways" s_p_both_ways ["design", "one", "other"]) (FC : Def K mg "_cells_both_ways" s_p_cells_both_ways ["design", "one", "other"]) (FF : Def K mg "_functions_both_ways" s_p_functions_both_ways ["design", "one", "other"])
    (c_has : Cal P w K mg base CX0 1 "has" ["design", "word"] (spOf K R_has)) : ∀ n : Nat, Cal P w K mg base CX0 (2 * n + 1) "_both_ways" ["design", "one", "other"] (spOf K (R_both n))
  | 0 => ok_both1 F (Cal.vac FC fun ds m P ⟨_, _, _, _, _, h, _⟩ => absurd h (Nat.not_lt_zero _)) (Cal.vac FF fun ds m P ⟨_, _, _, _, _, _, _, h, _⟩ => absurd h (Nat.not_lt_zero _))
  | n + 1 => by
    have ih := ok_both F FC FF c_has n
    exact ok_both1 (k := 2 * n + 2) F (ok_cells FC c_has ih) (ok_funs FF c_has ih)
end
end K04
end
section
set_option Elab.async false
set_option linter.all false
set_option maxRecDepth 100000
set_option maxHeartbeats 4000000
local macro_rules | `(tactic| walk_at "c") => `(tactic| first | (show _ ≠ (0 : Int); omega) | exact DL.cdiv_ok (by omega) (by omega) | exact DL.cmul_ok (by omega) (by omega) | exact DL.cpow_ok)
local macro_rules | `(tactic| walk_at "w") => `(tactic| first
  | with_reducible refine DL.w_cint ?_ | with_reducible refine DL.w_cstr ?_ | with_reducible refine DL.w_cbl ?_ | with_reducible refine DL.w_cnon ?_ | with_reducible refine DL.w_cty ?_
  | refine DL.w_var rfl ?_
  | with_reducible refine DL.w_tup ?_ | with_reducible refine DL.w_lst ?_ | with_reducible refine DL.w_call ?_ | with_reducible refine DL.w_cb ?_ | with_reducible refine DL.w_op ?_
  | with_reducible refine DL.wt_B ?_ | with_reducible refine DL.wt_test ?_ | with_reducible refine DL.wt_and ?_ | with_reducible refine DL.wt_or ?_ | with_reducible refine DL.wt_not ?_ | with_reducible refine DL.wt_yes ?_
  | with_reducible refine DL.w_and ?_ | with_reducible refine DL.w_or ?_ | with_reducible refine DL.w_not ?_ | with_reducible refine DL.w_if ?_
  | with_reducible refine DL.wa_nil ?_ | with_reducible refine DL.wa_cons ?_
  | with_reducible refine DL.ws_next ?_ | with_reducible refine DL.ws_seq ?_ | with_reducible refine DL.ws_if ?_ | with_reducible refine DL.ws_ret ?_ | with_reducible refine DL.ws_drop ?_ | with_reducible refine DL.ws_set ?_ | with_reducible refine DL.ws_par ?_ | with_reducible refine DL.ws_sub ?_ | refine DL.ws_tup2 rfl ?_
  | with_reducible refine DL.wr_I0 ?_ | with_reducible refine DL.wr_B0 ?_
  | with_reducible refine DL.wr_I (by walk_at "c") ?_
  | refine DL.wr_cat (DL.size_le (Nat.le_of_ble_eq_true rfl)) ?_
  | refine DL.wr_eqInt ?_
  | refine DL.wr_hd ?_ | refine DL.wr_hdCell ?_ | refine DL.wr_hdFn ?_ | refine DL.wr_ixCell ?_ | refine DL.wr_ixFn1 ?_ | refine DL.wr_ixFn2 ?_ | refine DL.wr_ixT rfl ?_ | refine DL.wr_ixL rfl ?_ | refine DL.wr_inT0 rfl (DL.strs_flat _) ?_
  | refine DL.wr_ixF rfl ?_ | refine DL.wr_ixM (by assumption) rfl ?_ | refine DL.wr_ixM DL.Mem.set_same rfl ?_
  | refine ⟨_, _, _, _, rfl, rfl, by assumption, rfl, ?_⟩ | refine ⟨_, _, _, _, rfl, rfl, DL.Mem.set_same, rfl, ?_⟩
  | refine DL.wc_tupleL ?_ | refine DL.wc_tupleT ?_ | refine DL.wc_listT ?_
  | refine DL.wc_lenF ?_ | refine DL.wc_lenT ?_ | refine DL.wc_lenL ?_ | refine DL.wc_int ?_
  | with_reducible refine ⟨_, rfl, ?_⟩
  | refine ⟨_, _, rfl, ?_⟩
  | with_reducible refine DL.iteT' rfl ?_ | with_reducible refine DL.iteF' rfl ?_
  | refine DL.iteT' (by assumption) ?_ | refine DL.iteF' (by assumption) ?_ | refine DL.iteT' (by decide +kernel) ?_ | refine DL.iteF' (by decide +kernel) ?_
  | refine ⟨DL.size_le (Nat.le_of_ble_eq_true rfl), ?_⟩ | refine ⟨by decide +kernel, ?_⟩)
local macro_rules | `(tactic| walk_at "g") => `(tactic| repeat walk_at "w")
local macro_rules | `(tactic| walk_at "b") => `(tactic| repeat (first
  | with_reducible exact ⟨rfl, rfl⟩
  | ((with_reducible apply DL.w_andP); (· walk_at "b"); (· walk_at "b")) | ((with_reducible apply DL.w_orP); (· walk_at "b"); (· walk_at "b"))
  | ((with_reducible apply DL.wt_andP); (· walk_at "b"); (· walk_at "b")) | ((with_reducible apply DL.wt_orP); (· walk_at "b"); (· walk_at "b"))
  | walk_at "w"))
namespace DL
/-- the law's drawing list -/
def rowD (ns : List Int) (i s c : Int) : MO := .lst [.flst (ns.map D.int), .int i, .int s, .int c]
def RowOk (r : PySem.Addr) (m : Mem) : Prop := ∃ (ns : List Int) (i s c : Int), m r = some (rowD ns i s c) ∧ 0 ≤ i ∧ 0 ≤ s ∧ s < 2147483647
/-- only the drawing list has changed -/
def RowStep (r : PySem.Addr) (m m' : Mem) : Prop := RowOk r m' ∧ ∃ o, m' = m.set r o
theorem RowOk.step {r : PySem.Addr} {m : Mem} (h : RowOk r m) : RowStep r m m := by
  obtain ⟨ns, i, s, c, e, q⟩ := h
  refine ⟨⟨ns, i, s, c, e, q⟩, rowD ns i s c, ?_⟩
  funext b
  unfold Mem.set
  by_cases z : b = r
  · rw [if_pos z, z, e]
  · rw [if_neg z]
theorem RowStep.trans {r : PySem.Addr} {m m1 m2 : Mem} (a : RowStep r m m1) (b : RowStep r m1 m2) : RowStep r m m2 := by
  obtain ⟨_, o, rfl⟩ := a
  obtain ⟨q, u, rfl⟩ := b
  exact ⟨q, u, Mem.set_set⟩
end DL
namespace K04
open PySem PySem.Spec PyProof.Rows L2 DL
section
variable {P : Program} {w : World} {K : PySem.W.Frag} {mg : Str → Option Value} {base : Heap} {aP aW : Addr}
def R_taken : Sd := fun ds m P => ∃ (r : Addr) (many : Int), ds = [.ref r, .int many] ∧ 0 < many ∧ many < 1000000 ∧ RowOk r m ∧ ∀ v m', 0 ≤ v → v < many → RowStep r m m' → P (.int v) m'
theorem fmod_lo {i j : Int} (h : 0 < j) : 0 ≤ i.fmod j := Int.fmod_nonneg_of_pos i h
theorem fmod_hi {i j : Int} (h : 0 < j) : i.fmod j < j := Int.fmod_lt_of_pos i h
theorem ok_taken (T : Txt K mg aP aW) (F : Def K mg "_law_taken" s_p_law_taken ["row", "many"]) : Cal P w K mg base CX0 1 "_law_taken" ["row", "many"] (spOf K R_taken) := by
  refine F.ok sc_p_law_taken (fun ds m P h => ?_) (fun f cdv A outer s H hr => ⟨_, (pss_cons (ps_if (pt_cmpR op_gt (pe_ix (ixK (K := K)) (pv 0) pe_int (fun _ _ => rfl)) pe_int (nomark _)) (pss_cons (ps_set (i := 2) sc_p_law_taken.nd rfl (Or.inl rfl) (pe_op op_modN (pe_callTy int1K (by rfl) T.b_int (by decide +kernel) (pa_cons (pe_ix (ixK (K := K)) (pv 0) pe_int (fun _ _ => rfl)) pa_nil)) (pv 1))) (pss_cons (ps_asg (pe_op op_fdivN (pe_ix (ixK (K := K)) (pv 0) pe_int (fun _ _ => rfl)) (pv 1)) (pg_sub (pv 0) pe_int set_list)) (pss_one (ps_ret (pv 2))))) pss_nil) (pss_cons (ps_asg (pe_op op_add (pe_ix (ixK (K := K)) (pv 0) pe_int (fun _ _ => rfl)) pe_int) (pg_sub (pv 0) pe_int set_list)) (pss_cons (ps_if (pt_cmpR op_gt (pe_ix (ixK (K := K)) (pv 0) pe_int (fun _ _ => rfl)) (pe_callB (lenK (K := K)) (by rfl) T.b_len (by decide +kernel) (pa_cons (pe_ix (ixK (K := K)) (pv 0) pe_int (fun _ _ => rfl)) pa_nil)) (nomark _)) (pss_cons (ps_asg (pe_op op_modN (pe_callTy int1K (by rfl) T.b_int (by decide +kernel) (pa_cons (pe_op op_add (pe_op op_mul (pe_ix (ixK (K := K)) (pv 0) pe_int (fun _ _ => rfl)) pe_int) pe_int) pa_nil)) pe_int) (pg_sub (pv 0) pe_int set_list)) (pss_one (ps_ret (pe_op op_modN (pe_callTy int1K (by rfl) T.b_int (by decide +kernel) (pa_cons (pe_op op_fdivN (pe_ix (ixK (K := K)) (pv 0) pe_int (fun _ _ => rfl)) pe_int) pa_nil)) (pv 1))))) pss_nil) (pss_cons (ps_set (i := 3) sc_p_law_taken.nd rfl (Or.inl rfl) (pe_ix (ixK (K := K)) (pe_ix (ixK (K := K)) (pv 0) pe_int (fun _ _ => rfl)) (pe_op op_sub (pe_ix (ixK (K := K)) (pv 0) pe_int (fun _ _ => rfl)) pe_int) (fun _ _ => rfl))) (pss_cons (ps_asg (pe_op op_modN (pe_callTy int1K (by rfl) T.b_int (by decide +kernel) (pa_cons (pe_op op_add (pe_op op_add (pe_op op_mul (pe_ix (ixK (K := K)) (pv 0) pe_int (fun _ _ => rfl)) pe_int) (pv 3)) pe_int) pa_nil)) pe_int) (pg_sub (pv 0) pe_int set_list)) (pss_cons (ps_if (pt_cmpR op_ge (pv 3) (pe_op op_pow pe_int pe_int) (nomark _)) (pss_one (ps_asg (pe_op op_fdivN (pv 3) (pv 1)) (pg_sub (pv 0) pe_int set_list))) pss_nil) (pss_one (ps_ret (pe_op op_modN (pe_callTy int1K (by rfl) T.b_int (by decide +kernel) (pa_cons (pv 3) pa_nil)) (pv 1)))))))))), ?_⟩)
  · obtain ⟨r, many, rfl, _⟩ := h
    rfl
  · rintro ds m PD ⟨r, many, rfl, h1, h2, ⟨ns, i, s, c, hm, hi, hs, hs2⟩, k⟩
    unfold rowD at hm
    walk_at "g"
    refine iteB (fun e => ?_) (fun e => ?_)
    · walk_at "g"
      refine k _ _ (fmod_lo h1) (fmod_hi h1) ⟨⟨ns, i, s, c.fdiv many, Mem.set_same, hi, hs, hs2⟩, _, rfl⟩
    · walk_at "g"
      refine iteB (fun e2 => ?_) (fun e2 => ?_)
      · walk_at "g"
        rw [Mem.set_set]
        exact k _ _ (fmod_lo h1) (fmod_hi h1) ⟨⟨ns, i + 1, _, c, Mem.set_same, by omega, fmod_lo (by decide), fmod_hi (by decide)⟩, _, rfl⟩
      · have hl : i + 1 ≤ (ns.length : Int) := by
          have z := of_decide_eq_false e2
          rw [List.length_map] at z
          omega
        walk_at "g"
        obtain ⟨cell, hc⟩ := atI_ints (ns := ns) (j := i + 1 - 1) (by omega) (by omega)
        refine wr_ixF hc ?_
        walk_at "g"
        refine iteB (fun e3 => ?_) (fun e3 => ?_)
        · walk_at "g"
          rw [Mem.set_set, Mem.set_set]
          exact k _ _ (fmod_lo h1) (fmod_hi h1) ⟨⟨ns, i + 1, _, _, Mem.set_same, by omega, fmod_lo (by decide), fmod_hi (by decide)⟩, _, rfl⟩
        · walk_at "g"
          rw [Mem.set_set]
          exact k _ _ (fmod_lo h1) (fmod_hi h1) ⟨⟨ns, i + 1, _, c, Mem.set_same, by omega, fmod_lo (by decide), fmod_hi (by decide)⟩, _, rfl⟩
def R_pick : Sd := fun ds m P => ∃ (r : Addr) (xs : List D), ds = [.ref r, .lst xs] ∧ xs ≠ [] ∧ xs.length < 1000000 ∧ RowOk r m ∧ ∀ v m', v ∈ xs → RowStep r m m' → P v m'
theorem ok_pick (T : Txt K mg aP aW) (F : Def K mg "_law_pick" s_p_law_pick ["row", "kinds"]) (c_p_law_taken : Cal P w K mg base CX0 1 "_law_taken" ["row", "many"] (spOf K R_taken)) : Cal P w K mg base CX0 2 "_law_pick" ["row", "kinds"] (spOf K R_pick) := by
  refine F.ok sc_p_law_pick (fun ds m P h => ?_) (fun f cdv A outer s H hr => ⟨_, (pss_one (ps_ret (pe_ix (ixK (K := K)) (pv 1) (pe_cal c_p_law_taken (hr.mono (by omega)) pass0 (pa_cons (pv 0) (pa_cons (pe_callB (lenK (K := K)) (by rfl) T.b_len (by decide +kernel) (pa_cons (pv 1) pa_nil)) pa_nil))) (fun _ _ => rfl)))), ?_⟩)
  · obtain ⟨r, many, rfl, _⟩ := h
    rfl
  · rintro ds m PD ⟨r, xs, rfl, h1, h2, h3, k⟩
    have h0 : 0 < xs.length := List.length_pos_iff.mpr h1
    walk_at "g"
    refine ⟨by omega, by omega, h3, fun v m' v0 v1 st => ?_⟩
    obtain ⟨x, hx, hm⟩ := atI_lt (xs := xs) v0 v1
    refine wr_ixL hx ?_
    exact k x m' hm st
def words : List Str := ["against", "along", "along checked", "args", "args checked", "blank", "calls", "cast", "cast checked", "keep", "none", "none checked", "put", "share"]
def R_words : Sd := fun ds m P => ds = [] ∧ P (.lst (words.map D.str)) m
theorem ok_words (F : Def K mg "_law_words" s_p_law_words []) : Cal P w K mg base CX0 1 "_law_words" [] (spOf K R_words) := by
  refine F.ok sc_p_law_words (fun ds m P h => ?_) (fun f cdv A outer s H hr => ⟨_, (pss_cons (ps_set (i := 0) sc_p_law_words.nd rfl (Or.inl rfl) (pe_lst (pa_cons pe_str (pa_cons pe_str (pa_cons pe_str (pa_cons pe_str (pa_cons pe_str (pa_cons pe_str (pa_cons pe_str (pa_cons pe_str (pa_cons pe_str (pa_cons pe_str pa_nil)))))))))))) (pss_one (ps_ret (pe_op op_cat (pv 0) (pe_lst (pa_cons pe_str (pa_cons pe_str (pa_cons pe_str (pa_cons pe_str pa_nil))))))))), ?_⟩)
  · obtain ⟨rfl, _⟩ := h
    rfl
  · rintro ds m PD ⟨rfl, k⟩
    walk_at "g"
    exact k
def R_design : Sd := fun ds m P => ∃ (r : Addr), ds = [.ref r] ∧ RowOk r m ∧ ∀ (ws : List Str) m', ws.Sublist words → RowStep r m m' → P (.tup (ws.map D.str)) m'
theorem ok_design (T : Txt K mg aP aW) (F : Def K mg "_law_design" s_p_law_design ["row"]) (c_p_law_taken : Cal P w K mg base CX0 1 "_law_taken" ["row", "many"] (spOf K R_taken)) (c_p_law_pick : Cal P w K mg base CX0 2 "_law_pick" ["row", "kinds"] (spOf K R_pick)) (c_p_law_words : Cal P w K mg base CX0 1 "_law_words" [] (spOf K R_words)) :
    Cal P w K mg base CX0 3 "_law_design" ["row"] (spOf K R_design) := by
  refine F.ok sc_p_law_design (fun ds m P h => ?_) (fun f cdv A outer s H hr => ⟨_, (pss_cons (ps_set (i := 1) sc_p_law_design.nd rfl (Or.inr rfl) (pe_cal c_p_law_pick (hr.mono (by omega)) pass0 (pa_cons (pv 0) (pa_cons (pe_lst (pa_cons pe_int (pa_cons pe_int (pa_cons pe_int pa_nil)))) pa_nil)))) (pss_one (ps_ret (pe_callTy (tupleK (K := K)) (by rfl) T.b_tuple (by decide +kernel) (pa_cons (pe_lc (own := [("word", 2)]) (g := gName 2) rfl sc_p_law_design.nd (pi_listK (K := K) (pe_cal0 c_p_law_words (hr.mono (by omega)) pass0)) (blkOk_by (own := [("word", 2)]) (N := ["row", "odds", "word"]) (sc := defScope s_p_law_design) (by decide +kernel)) (fun _ _ _ _ _ => pg_name (i := 2) sc_p_law_design.nd rfl (Or.inl rfl)) (fun _ _ _ _ _ => (pts_one (pt_cmpR (op_eqK (K := K) hr.units) (pe_cal c_p_law_taken (hr.mono (by omega)) pass0 (pa_cons (pv 0) (pa_cons (pv 1) pa_nil))) pe_int (nomark _)))) (fun _ _ _ _ _ => (pv 2))) pa_nil))))), ?_⟩)
  · obtain ⟨r, rfl, _⟩ := h
    rfl
  · rintro ds m PD ⟨r, rfl, h3, k⟩
    walk_at "g"
    refine ⟨h3, fun od m1 hod st1 => ?_⟩
    obtain ⟨od, rfl, h0, h4⟩ : ∃ z : Int, od = .int z ∧ 0 < z ∧ z < 1000000 := by
      simp only [List.mem_cons, List.not_mem_nil, or_false] at hod
      rcases hod with rfl | rfl | rfl <;> exact ⟨_, rfl, by decide, by decide⟩
    walk_at "g"
    refine w_lcL (fun i m' acc => RowStep r m m' ∧ ∃ ws : List Str, acc = ws.map D.str ∧ ws.Sublist (words.take i)) (by decide) ?_
    walk_at "g"
    refine ⟨_, .inl rfl, Nat.le_of_ble_eq_true rfl, ⟨st1, [], rfl, List.nil_sublist _⟩, fun i x m' acc hx hI => ?_, fun m' acc hI => ?_⟩
    · obtain ⟨st', ws, rfl, sub⟩ := hI
      rw [List.getElem?_map] at hx
      obtain ⟨z, hz, rfl⟩ := Option.map_eq_some_iff.mp hx
      walk_at "g"
      refine ⟨h0, h4, st'.1, fun v m2 _ _ st2 => ?_⟩
      walk_at "g"
      refine iteB (fun e => ?_) (fun e => ?_)
      · walk_at "g"
        refine ⟨st'.trans st2, ws ++ [z], by rw [List.map_append]; rfl, ?_⟩
        rw [List.take_succ, hz]
        exact sub.append (List.Sublist.refl _)
      · refine ⟨st'.trans st2, ws, rfl, ?_⟩
        rw [List.take_succ]
        exact sub.trans (List.sublist_append_left _ _)
    · obtain ⟨st', ws, rfl, sub⟩ := hI
      walk_at "g"
      rw [List.length_map, List.take_length] at sub
      exact k ws m' sub st'
def noAny : Ty → Bool
  | .any => false
  | .cell t => noAny t
  | .fn t u => noAny t && noAny u
  | _ => true
def R_type (n : Nat) : Sd := fun ds m P => ∃ (r : Addr) (deep : Int), ds = [.ref r, .int deep] ∧ 0 ≤ deep ∧ deep < n ∧ RowOk r m ∧ ∀ (t : Ty) m', (t.depth : Int) ≤ deep → noAny t = true → RowStep r m m' → P (tyd t) m'
theorem ok_type1 {n k : Nat} (T : Txt K mg aP aW) (F : Def K mg "_law_type" s_p_law_type ["row", "deep"]) (c_p_law_taken : Cal P w K mg base CX0 1 "_law_taken" ["row", "many"] (spOf K R_taken)) (c_p_law_type : Cal P w K mg base CX0 (k + 1) "_law_type" ["row", "deep"] (spOf K (R_type n))) :
    Cal P w K mg base CX0 (k + 2) "_law_type" ["row", "deep"] (spOf K (R_type (n + 1))) := by
  refine F.ok sc_p_law_type (fun ds m P h => ?_) (fun f cdv A outer s H hr => ⟨_, (pss_cons (ps_set (i := 2) sc_p_law_type.nd rfl (Or.inl rfl) (pe_ifExp (pt_cmpR op_gt (pv 1) pe_int (nomark _)) (pe_cal c_p_law_taken (hr.mono (by omega)) pass0 (pa_cons (pv 0) (pa_cons pe_int pa_nil))) (pe_cal c_p_law_taken (hr.mono (by omega)) pass0 (pa_cons (pv 0) (pa_cons pe_int pa_nil))))) (pss_cons (ps_if (pt_cmpR op_lt (pv 2) pe_int (nomark _)) (pss_one (ps_ret (pe_ix (ixK (K := K)) (pe_lst (pa_cons pe_str (pa_cons pe_str (pa_cons pe_str (pa_cons pe_str (pa_cons pe_str pa_nil)))))) (pv 2) (fun _ _ => rfl)))) pss_nil) (pss_cons (ps_if (pt_cmpR op_lt (pv 2) pe_int (nomark _)) (pss_one (ps_ret (pe_tup (pa_cons pe_str (pa_cons (pe_cal c_p_law_type (hr.mono (by omega)) pass0 (pa_cons (pv 0) (pa_cons (pe_op op_sub (pv 1) pe_int) pa_nil))) pa_nil))))) pss_nil) (pss_one (ps_ret (pe_tup (pa_cons pe_str (pa_cons (pe_cal c_p_law_type (hr.mono (by omega)) pass0 (pa_cons (pv 0) (pa_cons (pe_op op_sub (pv 1) pe_int) pa_nil))) (pa_cons (pe_cal c_p_law_type (hr.mono (by omega)) pass0 (pa_cons (pv 0) (pa_cons pe_int pa_nil))) pa_nil))))))))), ?_⟩)
  · obtain ⟨r, _, rfl, _⟩ := h
    rfl
  · rintro ds m PD ⟨r, deep, rfl, h1, h2, h3, k⟩
    have plain : ∀ (x : D) m', x ∈ [D.str "num", D.str "small", D.str "small", D.str "big", D.str "big"] → RowStep r m m' → PD x m' := fun x m' hx st => by
      simp only [List.mem_cons, List.not_mem_nil, or_false] at hx
      rcases hx with rfl | rfl | rfl | rfl | rfl
      · exact k .num m' h1 rfl st
      · exact k .small m' h1 rfl st
      · exact k .small m' h1 rfl st
      · exact k .big m' h1 rfl st
      · exact k .big m' h1 rfl st
    walk_at "g"
    refine iteB (fun e => ?_) (fun e => ?_)
    · have e : 0 < deep := of_decide_eq_true e
      walk_at "g"
      refine ⟨h3, fun v m1 v0 v1 st1 => ?_⟩
      walk_at "g"
      refine iteB (fun e2 => ?_) (fun e2 => ?_)
      · have e2 : v < 5 := of_decide_eq_true e2
        walk_at "g"
        obtain ⟨x, hx, hm⟩ := atI_lt (xs := [D.str "num", D.str "small", D.str "small", D.str "big", D.str "big"]) v0 e2
        exact wr_ixL hx (plain x m1 hm st1)
      · walk_at "g"
        refine iteB (fun e3 => ?_) (fun e3 => ?_)
        · walk_at "g"
          refine ⟨by omega, by omega, st1.1, fun t m2 ht na st2 => ?_⟩
          walk_at "g"
          exact k (.cell t) m2 (by simp only [Ty.depth]; omega) na (st1.trans st2)
        · walk_at "g"
          refine ⟨by omega, by omega, st1.1, fun t m2 ht na st2 => ?_⟩
          walk_at "g"
          refine ⟨by omega, st2.1, fun u m3 hu na2 st3 => ?_⟩
          walk_at "g"
          exact k (.fn t u) m3 (by simp only [Ty.depth]; omega) (by rw [noAny, na, na2]; rfl) ((st1.trans st2).trans st3)
    · walk_at "g"
      refine ⟨h3, fun v m1 v0 v1 st1 => ?_⟩
      walk_at "g"
      refine iteT' (decide_eq_true v1) ?_
      walk_at "g"
      obtain ⟨x, hx, hm⟩ := atI_lt (xs := [D.str "num", D.str "small", D.str "small", D.str "big", D.str "big"]) v0 v1
      exact wr_ixL hx (plain x m1 hm st1)
theorem ok_type (T : Txt K mg aP aW) (F : Def K mg "_law_type" s_p_law_type ["row", "deep"]) (c_p_law_taken : Cal P w K mg base CX0 1 "_law_taken" ["row", "many"] (spOf K R_taken)) : ∀ n : Nat, Cal P w K mg base CX0 (n + 1) "_law_type" ["row", "deep"] (spOf K (R_type n))
  | 0 => Cal.vac F fun ds m P ⟨_, _, _, h1, h2, _⟩ => by
    have h2 : _ < (0 : Int) := h2
    omega
  | n + 1 => ok_type1 T F c_p_law_taken (ok_type T F c_p_law_taken n)
end
end K04
end
section
set_option Elab.async false
set_option linter.all false
set_option maxRecDepth 100000
set_option maxHeartbeats 4000000
local macro_rules | `(tactic| walk_at "p") => `(tactic| first | rfl | exact DL.ty_pure _ | assumption)
local macro_rules | `(tactic| walk_at "c") => `(tactic| first | (show _ ≠ (0 : Int); omega) | exact DL.cdiv_ok (by omega) (by omega) | exact DL.cmul_ok (by omega) (by omega) | exact DL.cpow_ok)
local macro_rules | `(tactic| walk_at "w") => `(tactic| first
  | with_reducible refine DL.w_cint ?_ | with_reducible refine DL.w_cstr ?_ | with_reducible refine DL.w_cbl ?_ | with_reducible refine DL.w_cnon ?_ | with_reducible refine DL.w_cty ?_
  | refine DL.w_var rfl ?_
  | with_reducible refine DL.w_tup ?_ | with_reducible refine DL.w_lst ?_ | with_reducible refine DL.w_call ?_ | with_reducible refine DL.w_isTL ?_ | with_reducible refine DL.w_cb ?_ | with_reducible refine DL.w_op ?_
  | with_reducible refine DL.wt_B ?_ | with_reducible refine DL.wt_test ?_ | with_reducible refine DL.wt_and ?_ | with_reducible refine DL.wt_or ?_ | with_reducible refine DL.wt_not ?_ | with_reducible refine DL.wt_yes ?_
  | with_reducible refine DL.w_and ?_ | with_reducible refine DL.w_or ?_ | with_reducible refine DL.w_not ?_ | with_reducible refine DL.w_if ?_
  | with_reducible refine DL.wa_nil ?_ | with_reducible refine DL.wa_cons ?_
  | with_reducible refine DL.ws_next ?_ | with_reducible refine DL.ws_seq ?_ | with_reducible refine DL.ws_if ?_ | with_reducible refine DL.ws_ret ?_ | with_reducible refine DL.ws_drop ?_ | with_reducible refine DL.ws_set ?_ | with_reducible refine DL.ws_par ?_ | with_reducible refine DL.ws_sub ?_ | refine DL.ws_tup2 rfl ?_
  | with_reducible refine DL.wr_I0 ?_ | with_reducible refine DL.wr_B0 ?_
  | with_reducible refine DL.wr_I (by walk_at "c") ?_
  | refine DL.wr_cat (DL.size_le (Nat.le_of_ble_eq_true rfl)) ?_
  | refine DL.wr_eqInt ?_ | refine DL.wr_eqBl ?_ | refine DL.wr_neBl ?_ | refine DL.wc_isiTyS ?_ | refine DL.wc_isiTyT ?_ | refine DL.wc_isStr (by walk_at "p") ?_ | refine DL.wc_isTup (by walk_at "p") ?_ | refine DL.wc_isLst (by walk_at "p") ?_ | refine DL.wc_isBool (by walk_at "p") ?_ | refine DL.wc_isInt (by walk_at "p") ?_ | with_reducible refine DL.wr_isNon ?_ | with_reducible refine DL.wr_notNon ?_
  | refine DL.wr_hd ?_ | refine DL.wr_hdCell ?_ | refine DL.wr_hdFn ?_ | refine DL.wr_ixCell ?_ | refine DL.wr_ixFn1 ?_ | refine DL.wr_ixFn2 ?_ | refine DL.wr_ixT rfl ?_ | refine DL.wr_ixL rfl ?_ | refine DL.wr_inT0 rfl (DL.strs_flat _) ?_
  | refine DL.wr_ixF rfl ?_ | refine DL.wr_ixM (by assumption) rfl ?_ | refine DL.wr_ixM DL.Mem.set_same rfl ?_
  | refine ⟨_, _, _, _, rfl, rfl, by assumption, rfl, ?_⟩ | refine ⟨_, _, _, _, rfl, rfl, DL.Mem.set_same, rfl, ?_⟩
  | refine DL.wc_tupleL ?_ | refine DL.wc_tupleT ?_ | refine DL.wc_listT ?_
  | refine DL.wc_lenF ?_ | refine DL.wc_lenT ?_ | refine DL.wc_lenL ?_ | refine DL.wc_int ?_
  | with_reducible refine ⟨_, rfl, ?_⟩
  | refine ⟨_, _, rfl, ?_⟩
  | with_reducible refine DL.iteT' rfl ?_ | with_reducible refine DL.iteF' rfl ?_
  | refine DL.iteT' (by assumption) ?_ | refine DL.iteF' (by assumption) ?_ | refine DL.iteT' (by decide +kernel) ?_ | refine DL.iteF' (by decide +kernel) ?_ | refine DL.iteT' rfl ?_ | refine DL.iteF' rfl ?_ | refine ⟨rfl, ?_⟩
  | refine ⟨DL.size_le (Nat.le_of_ble_eq_true rfl), ?_⟩ | refine ⟨by decide +kernel, ?_⟩)
local macro_rules | `(tactic| walk_at "g") => `(tactic| repeat walk_at "w")
local macro_rules | `(tactic| walk_at "b") => `(tactic| repeat (first
  | with_reducible exact ⟨rfl, rfl⟩
  | ((with_reducible apply DL.w_andP); (· walk_at "b"); (· walk_at "b")) | ((with_reducible apply DL.w_orP); (· walk_at "b"); (· walk_at "b"))
  | ((with_reducible apply DL.wt_andP); (· walk_at "b"); (· walk_at "b")) | ((with_reducible apply DL.wt_orP); (· walk_at "b"); (· walk_at "b"))
  | walk_at "w"))
namespace K04
open PySem PySem.Spec PyProof.Rows L2 DL
section
variable {P : Program} {w : World} {K : PySem.W.Frag} {mg : Str → Option Value} {base : Heap} {aP aW : Addr}
theorem ok_lhas (F : Def K mg "_law_has" s_p_law_has ["design", "word"]) : Cal P w K mg base CX0 1 "_law_has" ["design", "word"] (spOf K R_has) := by
  refine F.ok sc_p_law_has (fun ds m P h => ?_) (fun f cdv A outer s H hr => ⟨_, (pss_one (ps_ret (pe_or (pe_cmpR (op_inK (K := K)) (pv 1) (pv 0) (by rfl)) (pe_one (pe_cmpR (op_inK (K := K)) (pe_op op_addS (pv 1) pe_str) (pv 0) (by rfl)))))), ?_⟩)
  · obtain ⟨ws, w, rfl, _⟩ := h
    rfl
  · rintro ds m PD ⟨ws, w, rfl, hw, k⟩
    walk_at "g"
    refine iteB (fun h => ?_) (fun h => ?_)
    · unfold hasW at k
      rw [h] at k
      exact k
    · walk_at "g"
      refine wr_addStr (size_le (by have : (" checked" : Str).length = 8 := by decide +kernel
                                    omega)) ?_
      walk_at "g"
      unfold hasW at k
      rw [h] at k
      exact k
def R_lw (n : Nat) : Sd := fun ds m P => ∃ (ws : List Str) (s t : Ty), ds = [.tup (ws.map D.str), tyd s, tyd t] ∧ s.depth < n ∧ t.depth < n ∧ s.depth ≤ 60 ∧ t.depth ≤ 60 ∧ P (.bl (Wi ws s t).1) m
theorem ok_lw1 {n k : Nat} (T : Txt K mg aP aW) (F : Def K mg "_law_within" s_p_law_within ["design", "one", "other"]) (c_p_law_has : Cal P w K mg base CX0 1 "_law_has" ["design", "word"] (spOf K R_has))
    (c_p_law_within : Cal P w K mg base CX0 (k + 1) "_law_within" ["design", "one", "other"] (spOf K (R_lw n))) : Cal P w K mg base CX0 (k + 2) "_law_within" ["design", "one", "other"] (spOf K (R_lw (n + 1))) := by
  refine F.ok sc_p_law_within (fun ds m P h => ?_) (fun f cdv A outer s H hr => ⟨_, (pss_cons (ps_if (pt_cmpR (op_eqK (K := K) hr.units) (pv 1) (pv 2) (nomark _)) (pss_one (ps_ret pe_bl)) pss_nil) (pss_cons (ps_if (PW.pt (pw_or (pt_val (pe_callB (isiK (K := K)) (by rfl) T.b_isinstance (by decide +kernel) (pa_cons (pv 1) (pa_cons (pe_bltn (v := .ty "str") rfl T.b_str (by decide +kernel) rfl) pa_nil)))) (pw_or1 (pt_val (pe_callB (isiK (K := K)) (by rfl) T.b_isinstance (by decide +kernel) (pa_cons (pv 2) (pa_cons (pe_bltn (v := .ty "str") rfl T.b_str (by decide +kernel) rfl) pa_nil))))))) (pss_one (ps_ret (pe_cmpR (op_eqK (K := K) hr.units) (pe_tup (pa_cons (pv 1) (pa_cons (pv 2) pa_nil))) (pe_tup (pa_cons pe_str (pa_cons pe_str pa_nil))) (nomark _)))) pss_nil) (pss_cons (ps_if (pt_cmpR (op_neK (K := K) hr.units) (pe_ix (ixK (K := K)) (pv 1) pe_int (fun _ _ => rfl)) (pe_ix (ixK (K := K)) (pv 2) pe_int (fun _ _ => rfl)) (nomark _)) (pss_one (ps_ret pe_bl)) pss_nil) (pss_cons (ps_if (pt_cmpR (op_eqK (K := K) hr.units) (pe_ix (ixK (K := K)) (pv 1) pe_int (fun _ _ => rfl)) pe_str (nomark _)) (pss_cons (ps_if (pt_cmpR (op_inDK (K := K) (Room.u65 hr)) pe_str (pe_lst (pa_cons (pe_ix (ixK (K := K)) (pv 1) pe_int (fun _ _ => rfl)) (pa_cons (pe_ix (ixK (K := K)) (pv 2) pe_int (fun _ _ => rfl)) pa_nil))) (by rfl)) (pss_one (ps_ret (pe_cmpR (op_eqK (K := K) hr.units) (pe_ix (ixK (K := K)) (pv 1) pe_int (fun _ _ => rfl)) pe_str (nomark _)))) pss_nil) (pss_cons (ps_set (i := 3) sc_p_law_within.nd rfl (Or.inl rfl) (pe_and (pe_cal c_p_law_has (hr.mono (by omega)) pass0 (pa_cons (pv 0) (pa_cons pe_str pa_nil))) (pe_one (pe_cal c_p_law_within (hr.mono (by omega)) pass0 (pa_cons (pv 0) (pa_cons (pe_ix (ixK (K := K)) (pv 1) pe_int (fun _ _ => rfl)) (pa_cons (pe_ix (ixK (K := K)) (pv 2) pe_int (fun _ _ => rfl)) pa_nil))))))) (pss_one (ps_ret (pe_or (pv 3) (pe_one (pe_and (pe_cmpR (op_inK (K := K)) pe_str (pv 0) (by rfl)) (pe_one (pe_cal c_p_law_within (hr.mono (by omega)) pass0 (pa_cons (pv 0) (pa_cons (pe_ix (ixK (K := K)) (pv 2) pe_int (fun _ _ => rfl)) (pa_cons (pe_ix (ixK (K := K)) (pv 1) pe_int (fun _ _ => rfl)) pa_nil)))))))))))) pss_nil) (pss_cons (ps_if (pt_not (pt_val (pe_cal c_p_law_within (hr.mono (by omega)) pass0 (pa_cons (pv 0) (pa_cons (pe_ix (ixK (K := K)) (pv 1) pe_int (fun _ _ => rfl)) (pa_cons (pe_ix (ixK (K := K)) (pv 2) pe_int (fun _ _ => rfl)) pa_nil)))))) (pss_one (ps_ret pe_bl)) pss_nil) (pss_one (ps_ret (pe_or (pe_cal c_p_law_within (hr.mono (by omega)) pass0 (pa_cons (pv 0) (pa_cons (pe_ix (ixK (K := K)) (pv 2) pe_int (fun _ _ => rfl)) (pa_cons (pe_ix (ixK (K := K)) (pv 1) pe_int (fun _ _ => rfl)) pa_nil)))) (pe_one (pe_and (pe_cal c_p_law_has (hr.mono (by omega)) pass0 (pa_cons (pv 0) (pa_cons pe_str pa_nil))) (pe_one (pe_cal c_p_law_within (hr.mono (by omega)) pass0 (pa_cons (pv 0) (pa_cons (pe_ix (ixK (K := K)) (pv 1) pe_int (fun _ _ => rfl)) (pa_cons (pe_ix (ixK (K := K)) (pv 2) pe_int (fun _ _ => rfl)) pa_nil))))))))))))))), ?_⟩)
  · obtain ⟨ws, s, t, rfl, _⟩ := h
    rfl
  · rintro ds m PD ⟨ws, s, t, rfl, h1, h2, h3, h4, k⟩
    walk_at "g"
    refine wr_eqTy (by omega) (by omega) ?_
    refine ⟨_, rfl, iteB (fun e => ?_) (fun e => ?_)⟩
    · have e : s = t := of_decide_eq_true e
      subst e
      rw [show Wi ws s s = (true, true) from wi_refl _ _ _ s] at k
      walk_at "g"
      exact k
    · have e : s ≠ t := of_decide_eq_false e
      walk_at "b"
      refine iteB (fun e1 => ?_) (fun e1 => ?_)
      · walk_at "g"
        refine wr_pairBS h3 h4 ?_
        have n1 : ¬ (isCell s = true ∧ isCell t = true) := fun z => by
          cases s <;> first | (cases z.1; done) | (cases t <;> first | (cases z.2; done) | (cases e1; done))
        have n2 : ¬ (isFn s = true ∧ isFn t = true) := fun z => by
          cases s <;> first | (cases z.1; done) | (cases t <;> first | (cases z.2; done) | (cases e1; done))
        rw [show Wi ws s t = _ from wi_plain e n1 n2] at k
        exact k
      · walk_at "g"
        refine wr_hdHd ?_
        walk_at "g"
        cases s with
        | cell s =>
          cases t with
          | cell t =>
            simp only [Ty.depth] at h1 h2 h3 h4
            have hst : s ≠ t := fun z => e (by rw [z])
            walk_at "g"
            refine wr_inAny (by omega) (by omega) ?_
            walk_at "g"
            refine iteB (fun e2 => ?_) (fun e2 => ?_)
            · have e2 : s = .any ∨ t = .any := by
                rw [Bool.or_eq_true] at e2
                exact e2.imp of_decide_eq_true of_decide_eq_true
              walk_at "g"
              refine wr_eqAny (by omega) ?_
              have q : Wi ws (.cell s) (.cell t) = (decide (s = .any), decide (t = .any)) := by
                unfold Wi
                rw [wi, if_neg hst, if_pos e2]
              rw [q] at k
              exact k
            · have e2 : ¬ (s = .any ∨ t = .any) := fun z => by
                rcases z with z | z <;> simp [z] at e2
              have q : Wi ws (.cell s) (.cell t) = (dAl ws && (Wi ws s t).1 || dAg ws && (Wi ws s t).2, dAl ws && (Wi ws s t).2 || dAg ws && (Wi ws s t).1) := by
                unfold Wi
                rw [wi, if_neg hst, if_neg e2]
              rw [q] at k
              have k : PD (.bl (hasW ws "along" && (Wi ws s t).1 || inD (.str "against") (ws.map D.str) && (Wi ws s t).2)) m := k
              have sw : (Wi ws t s).1 = (Wi ws s t).2 := by
                unfold Wi
                rw [wi_swap]
              walk_at "g"
              refine iteB (fun e3 => ?_) (fun e3 => ?_)
              · walk_at "g"
                refine ⟨ws, s, t, rfl, by omega, by omega, by omega, by omega, ?_⟩
                rw [e3, Bool.true_and] at k
                walk_at "g"
                refine iteB (fun e4 => ?_) (fun e4 => ?_)
                · rw [e4] at k
                  exact k
                · rw [e4, Bool.false_or] at k
                  walk_at "g"
                  refine iteB (fun e5 => ?_) (fun e5 => ?_)
                  · walk_at "g"
                    refine ⟨ws, t, s, rfl, by omega, by omega, by omega, by omega, ?_⟩
                    rw [sw]
                    rw [e5] at k
                    exact k
                  · rw [e5] at k
                    exact k
              · rw [e3, Bool.false_and, Bool.false_or] at k
                walk_at "g"
                refine iteB (fun e5 => ?_) (fun e5 => ?_)
                · walk_at "g"
                  refine ⟨ws, t, s, rfl, by omega, by omega, by omega, by omega, ?_⟩
                  rw [sw]
                  rw [e5] at k
                  exact k
                · rw [e5] at k
                  exact k
          | fn a u =>
            rw [show Wi ws (.cell s) (.fn a u) = _ from wi_plain e (fun z => nomatch z.2) (fun z => nomatch z.1)] at k
            walk_at "g"
            exact k
          | _ => exact nomatch e1
        | fn a u =>
          cases t with
          | cell t =>
            rw [show Wi ws (.fn a u) (.cell t) = _ from wi_plain e (fun z => nomatch z.1) (fun z => nomatch z.2)] at k
            walk_at "g"
            exact k
          | fn c v =>
            simp only [Ty.depth] at h1 h2 h3 h4
            have hne : ¬ (a = c ∧ u = v) := fun z => e (by rw [z.1, z.2])
            have q : Wi ws (.fn a u) (.fn c v) = ((Wi ws u v).1 && ((Wi ws a c).2 || dAr ws && (Wi ws a c).1), (Wi ws u v).2 && ((Wi ws a c).1 || dAr ws && (Wi ws a c).2)) := by
              unfold Wi
              rw [wi, if_neg hne]
            have sw : (Wi ws c a).1 = (Wi ws a c).2 := by
              unfold Wi
              rw [wi_swap]
            rw [q] at k
            have k : PD (.bl ((Wi ws u v).1 && ((Wi ws a c).2 || hasW ws "args" && (Wi ws a c).1))) m := k
            walk_at "g"
            refine ⟨ws, u, v, rfl, by omega, by omega, by omega, by omega, ?_⟩
            walk_at "g"
            cases e3 : (Wi ws u v).1 with
            | false =>
              rw [e3] at k
              walk_at "g"
              exact k
            | true =>
              rw [e3, Bool.true_and] at k
              walk_at "g"
              refine ⟨ws, c, a, rfl, by omega, by omega, by omega, by omega, ?_⟩
              rw [sw]
              walk_at "g"
              refine iteB (fun e4 => ?_) (fun e4 => ?_)
              · rw [e4] at k
                exact k
              · rw [e4, Bool.false_or] at k
                walk_at "g"
                refine iteB (fun e5 => ?_) (fun e5 => ?_)
                · walk_at "g"
                  refine ⟨ws, a, c, rfl, by omega, by omega, by omega, by omega, ?_⟩
                  rw [e5] at k
                  exact k
                · rw [e5] at k
                  exact k
          | _ => exact nomatch e1
        | _ => exact nomatch e1
theorem ok_lw (T : Txt K mg aP aW) (F : Def K mg "_law_within" s_p_law_within ["design", "one", "other"]) (c_p_law_has : Cal P w K mg base CX0 1 "_law_has" ["design", "word"] (spOf K R_has)) : ∀ n : Nat, Cal P w K mg base CX0 (n + 1) "_law_within" ["design", "one", "other"] (spOf K (R_lw n))
  | 0 => Cal.vac F fun ds m P ⟨_, _, _, _, h, _⟩ => Nat.not_lt_zero _ h
  | n + 1 => ok_lw1 T F c_p_law_has (ok_lw T F c_p_law_has n)
def R_alikeB : Sd := fun ds m P => ∃ (x y : Bool), ds = [.bl x, .bl y] ∧ P (.bl (decide (x = y))) m
theorem ok_alikeB (T : Txt K mg aP aW) (F : Def K mg "_law_alike" s_p_law_alike ["found", "due"]) (c_p_law_alike : Cal P w K mg base CX0 1 "_law_alike" ["found", "due"] (spOf K (fun _ _ _ => False))) : Cal P w K mg base CX0 2 "_law_alike" ["found", "due"] (spOf K R_alikeB) := by
  refine F.ok sc_p_law_alike (fun ds m P h => ?_) (fun f cdv A outer s H hr => ⟨_, (pss_cons (ps_if (pt_val (pe_callB (isiTK (K := K)) (by rfl) T.b_isinstance (by decide +kernel) (pa_cons (pv 1) (pa_cons (pe_tup (pa_cons (pe_bltn (v := .ty "tuple") rfl T.b_tuple (by decide +kernel) rfl) (pa_cons (pe_bltn (v := .ty "list") rfl T.b_list (by decide +kernel) rfl) pa_nil))) pa_nil)))) (pss_cons (ps_if (PW.pt (pw_or (pt_not (pt_val (pe_callB (isiTK (K := K)) (by rfl) T.b_isinstance (by decide +kernel) (pa_cons (pv 0) (pa_cons (pe_tup (pa_cons (pe_bltn (v := .ty "tuple") rfl T.b_tuple (by decide +kernel) rfl) (pa_cons (pe_bltn (v := .ty "list") rfl T.b_list (by decide +kernel) rfl) pa_nil))) pa_nil))))) (pw_or1 (pt_cmpR (op_neK (K := K) hr.units) (pe_callB (isiK (K := K)) (by rfl) T.b_isinstance (by decide +kernel) (pa_cons (pv 0) (pa_cons (pe_bltn (v := .ty "list") rfl T.b_list (by decide +kernel) rfl) pa_nil))) (pe_callB (isiK (K := K)) (by rfl) T.b_isinstance (by decide +kernel) (pa_cons (pv 1) (pa_cons (pe_bltn (v := .ty "list") rfl T.b_list (by decide +kernel) rfl) pa_nil))) (nomark _))))) (pss_one (ps_ret pe_bl)) pss_nil) (pss_cons (ps_if (pt_cmpR (op_neK (K := K) hr.units) (pe_callB (lenK (K := K)) (by rfl) T.b_len (by decide +kernel) (pa_cons (pv 0) pa_nil)) (pe_callB (lenK (K := K)) (by rfl) T.b_len (by decide +kernel) (pa_cons (pv 1) pa_nil)) (nomark _)) (pss_one (ps_ret pe_bl)) pss_nil) (pss_one (ps_ret (pe_cmpR (op_eqK (K := K) hr.units) (pe_lc (own := [("k", 2)]) (g := gName 2) rfl sc_p_law_alike.nd (pi_range1 (by rfl) T.b_range (pa_cons (pe_callB (lenK (K := K)) (by rfl) T.b_len (by decide +kernel) (pa_cons (pv 1) pa_nil)) pa_nil)) (blkOk_by (own := [("k", 2)]) (N := ["found", "due", "k"]) (sc := defScope s_p_law_alike) (by decide +kernel)) (fun _ _ _ _ _ => pg_name (i := 2) sc_p_law_alike.nd rfl (Or.inl rfl)) (fun _ _ _ _ _ => (pts_one (pt_not (pt_val (pe_cal c_p_law_alike (hr.mono (by omega)) pass0 (pa_cons (pe_ix (ixK (K := K)) (pv 0) (pv 2) (fun _ _ => rfl)) (pa_cons (pe_ix (ixK (K := K)) (pv 1) (pv 2) (fun _ _ => rfl)) pa_nil))))))) (fun _ _ _ _ _ => (pv 2))) (pe_lst pa_nil) (nomark _)))))) pss_nil) (pss_cons (ps_if (PW.pt (pw_or (pt_cmpR op_isNoneK (pv 1) pe_non (nomark _)) (pw_or1 (pt_val (pe_callB (isiK (K := K)) (by rfl) T.b_isinstance (by decide +kernel) (pa_cons (pv 1) (pa_cons (pe_bltn (v := .ty "str") rfl T.b_str (by decide +kernel) rfl) pa_nil))))))) (pss_one (ps_ret (pe_and (pe_cmpR (op_eqK (K := K) hr.units) (pv 0) (pv 1) (nomark _)) (pe_one (pe_cmpR (op_eqK (K := K) hr.units) (pe_callB (isiK (K := K)) (by rfl) T.b_isinstance (by decide +kernel) (pa_cons (pv 0) (pa_cons (pe_bltn (v := .ty "str") rfl T.b_str (by decide +kernel) rfl) pa_nil))) (pe_callB (isiK (K := K)) (by rfl) T.b_isinstance (by decide +kernel) (pa_cons (pv 1) (pa_cons (pe_bltn (v := .ty "str") rfl T.b_str (by decide +kernel) rfl) pa_nil))) (nomark _)))))) pss_nil) (pss_one (ps_ret (pe_and (pe_callB (isiK (K := K)) (by rfl) T.b_isinstance (by decide +kernel) (pa_cons (pv 0) (pa_cons (pe_bltn (v := .ty "int") rfl T.b_int (by decide +kernel) rfl) pa_nil))) (pe_and (pe_cmpR (op_eqK (K := K) hr.units) (pe_callB (isiK (K := K)) (by rfl) T.b_isinstance (by decide +kernel) (pa_cons (pv 0) (pa_cons (pe_bltn (v := .ty "bool") rfl T.b_bool (by decide +kernel) rfl) pa_nil))) (pe_callB (isiK (K := K)) (by rfl) T.b_isinstance (by decide +kernel) (pa_cons (pv 1) (pa_cons (pe_bltn (v := .ty "bool") rfl T.b_bool (by decide +kernel) rfl) pa_nil))) (nomark _)) (pe_one (pe_cmpR (op_eqK (K := K) hr.units) (pv 0) (pv 1) (nomark _))))))))), ?_⟩)
  · obtain ⟨x, y, rfl, _⟩ := h
    rfl
  · rintro ds m PD ⟨x, y, rfl, k⟩
    walk_at "g"
    exact k
end
end K04
end
section
set_option Elab.async false
set_option linter.all false
set_option maxRecDepth 100000
set_option maxHeartbeats 4000000
local macro_rules | `(tactic| walk_at "p") => `(tactic| first | rfl | exact DL.ty_pure _ | assumption)
local macro_rules | `(tactic| walk_at "c") => `(tactic| first | (show _ ≠ (0 : Int); omega) | exact DL.cdiv_ok (by omega) (by omega) | exact DL.cmul_ok (by omega) (by omega) | exact DL.cpow_ok)
local macro_rules | `(tactic| walk_at "w") => `(tactic| first
  | with_reducible refine DL.w_cint ?_ | with_reducible refine DL.w_cstr ?_ | with_reducible refine DL.w_cbl ?_ | with_reducible refine DL.w_cnon ?_ | with_reducible refine DL.w_cty ?_
  | refine DL.w_var rfl ?_
  | with_reducible refine DL.w_tup ?_ | with_reducible refine DL.w_lst ?_ | with_reducible refine DL.w_call ?_ | with_reducible refine DL.w_isTL ?_ | with_reducible refine DL.w_cb ?_ | with_reducible refine DL.w_op ?_
  | with_reducible refine DL.wt_B ?_ | with_reducible refine DL.wt_test ?_ | with_reducible refine DL.wt_and ?_ | with_reducible refine DL.wt_or ?_ | with_reducible refine DL.wt_not ?_ | with_reducible refine DL.wt_yes ?_
  | with_reducible refine DL.w_and ?_ | with_reducible refine DL.w_or ?_ | with_reducible refine DL.w_not ?_ | with_reducible refine DL.w_if ?_
  | with_reducible refine DL.wa_nil ?_ | with_reducible refine DL.wa_cons ?_
  | with_reducible refine DL.ws_next ?_ | with_reducible refine DL.ws_seq ?_ | with_reducible refine DL.ws_if ?_ | with_reducible refine DL.ws_ret ?_ | with_reducible refine DL.ws_drop ?_ | with_reducible refine DL.ws_set ?_ | with_reducible refine DL.ws_par ?_ | with_reducible refine DL.ws_sub ?_ | refine DL.ws_tup2 rfl ?_
  | with_reducible refine DL.wr_I0 ?_ | with_reducible refine DL.wr_B0 ?_
  | with_reducible refine DL.wr_I (by walk_at "c") ?_
  | refine DL.wr_cat (DL.size_le (Nat.le_of_ble_eq_true rfl)) ?_
  | refine DL.wr_eqInt ?_ | refine DL.wr_eqBl ?_ | refine DL.wr_neBl ?_ | refine DL.wc_isiTyS ?_ | refine DL.wc_isiTyT ?_ | refine DL.wc_isStr (by walk_at "p") ?_ | refine DL.wc_isTup (by walk_at "p") ?_ | refine DL.wc_isLst (by walk_at "p") ?_ | refine DL.wc_isBool (by walk_at "p") ?_ | refine DL.wc_isInt (by walk_at "p") ?_ | with_reducible refine DL.wr_isNon ?_ | with_reducible refine DL.wr_notNon ?_
  | refine DL.wr_hd ?_ | refine DL.wr_hdCell ?_ | refine DL.wr_hdFn ?_ | refine DL.wr_ixCell ?_ | refine DL.wr_ixFn1 ?_ | refine DL.wr_ixFn2 ?_ | refine DL.wr_ixT rfl ?_ | refine DL.wr_ixL rfl ?_ | refine DL.wr_inT0 rfl (DL.strs_flat _) ?_
  | refine DL.wr_ixF rfl ?_ | refine DL.wr_ixM (by assumption) rfl ?_ | refine DL.wr_ixM DL.Mem.set_same rfl ?_
  | refine ⟨_, _, _, _, rfl, rfl, by assumption, rfl, ?_⟩ | refine ⟨_, _, _, _, rfl, rfl, DL.Mem.set_same, rfl, ?_⟩
  | refine DL.wc_tupleL ?_ | refine DL.wc_tupleT ?_ | refine DL.wc_listT ?_
  | refine DL.wc_lenF ?_ | refine DL.wc_lenT ?_ | refine DL.wc_lenL ?_ | refine DL.wc_int ?_
  | with_reducible refine ⟨_, rfl, ?_⟩
  | refine ⟨_, _, rfl, ?_⟩
  | with_reducible refine DL.iteT' rfl ?_ | with_reducible refine DL.iteF' rfl ?_
  | refine DL.iteT' (by assumption) ?_ | refine DL.iteF' (by assumption) ?_ | refine DL.iteT' (by decide +kernel) ?_ | refine DL.iteF' (by decide +kernel) ?_ | refine DL.iteT' rfl ?_ | refine DL.iteF' rfl ?_ | refine ⟨rfl, ?_⟩
  | refine ⟨DL.size_le (Nat.le_of_ble_eq_true rfl), ?_⟩ | refine ⟨by decide +kernel, ?_⟩)
local macro_rules | `(tactic| walk_at "g") => `(tactic| repeat walk_at "w")
local macro_rules | `(tactic| walk_at "b") => `(tactic| repeat (first
  | with_reducible exact ⟨rfl, rfl⟩
  | ((with_reducible apply DL.w_andP); (· walk_at "b"); (· walk_at "b")) | ((with_reducible apply DL.w_orP); (· walk_at "b"); (· walk_at "b"))
  | ((with_reducible apply DL.wt_andP); (· walk_at "b"); (· walk_at "b")) | ((with_reducible apply DL.wt_orP); (· walk_at "b"); (· walk_at "b"))
  | walk_at "w"))
namespace K04
open PySem PySem.Spec PyProof.Rows L2 DL
section
variable {P : Program} {w : World} {K : PySem.W.Frag} {mg : Str → Option Value} {base : Heap} {aP aW : Addr}
def R_within (n : Nat) : Sd := fun ds m P => ∃ (ws : List Str) (s t : Ty), ds = [.tup (ws.map D.str), tyd s, tyd t] ∧ s.depth ≤ n ∧ t.depth ≤ 60 ∧ s.depth ≤ 60 ∧ P (.bl (Wi ws s t).1) m
theorem ok_within {n k : Nat} (F : Def K mg "within" s_within ["design", "one", "other"]) (c_p_both_ways : Cal P w K mg base CX0 k "_both_ways" ["design", "one", "other"] (spOf K (R_both n))) : Cal P w K mg base CX0 (k + 1) "within" ["design", "one", "other"] (spOf K (R_within n)) := by
  refine F.ok sc_within (fun ds m P h => ?_) (fun f cdv A outer s H hr => ⟨_, (pss_cons (ps_asg (pe_cal c_p_both_ways (hr.mono (by omega)) pass0 (pa_cons (pv 0) (pa_cons (pv 1) (pa_cons (pv 2) pa_nil)))) (pg_tupK (K := K) (n := 2) rfl (pgs_cons (pg_name (i := 3) sc_within.nd rfl (Or.inl rfl)) (pgs_cons (pg_name (i := 4) sc_within.nd rfl (Or.inl rfl)) pgs_nil)))) (pss_one (ps_ret (pv 3)))), ?_⟩)
  · obtain ⟨ws, s, t, rfl, _⟩ := h
    rfl
  · rintro ds m PD ⟨ws, s, t, rfl, h1, h2, h3, k⟩
    walk_at "g"
    refine ⟨ws, s, t, rfl, h1, h2, h3, ?_⟩
    walk_at "g"
    exact k
def R_isty (n : Nat) : Sd := fun ds m P => ∃ (d : D) (k : Int), ds = [d, .int k] ∧ 0 ≤ k ∧ k < n ∧ Cmp d ∧ P (.bl (isTy k.toNat d)) m
theorem ok_isty1 {n k : Nat} (T : Txt K mg aP aW) (F : Def K mg "_is_type_of" s_p_is_type_of ["value", "most"]) (c_p_is_type_of : Cal P w K mg base CX0 (k + 1) "_is_type_of" ["value", "most"] (spOf K (R_isty n))) :
    Cal P w K mg base CX0 (k + 2) "_is_type_of" ["value", "most"] (spOf K (R_isty (n + 1))) := by
  refine F.ok sc_p_is_type_of (fun ds m P h => ?_) (fun f cdv A outer s H hr => ⟨_, (pss_cons (ps_if (pt_val (pe_callB (isiK (K := K)) (by rfl) T.b_isinstance (by decide +kernel) (pa_cons (pv 0) (pa_cons (pe_bltn (v := .ty "str") rfl T.b_str (by decide +kernel) rfl) pa_nil)))) (pss_one (ps_ret (pe_cmpR (op_inK (K := K)) (pv 0) (g_PLAIN T) (by rfl)))) pss_nil) (pss_cons (ps_if (PW.pt (pw_or (pt_not (pt_val (pe_callB (isiK (K := K)) (by rfl) T.b_isinstance (by decide +kernel) (pa_cons (pv 0) (pa_cons (pe_bltn (v := .ty "tuple") rfl T.b_tuple (by decide +kernel) rfl) pa_nil))))) (pw_or1 (pt_cmpR (op_eqK (K := K) hr.units) (pv 1) pe_int (nomark _))))) (pss_one (ps_ret pe_bl)) pss_nil) (pss_cons (ps_if (pt_cmpR (op_eqK (K := K) hr.units) (pe_callB (lenK (K := K)) (by rfl) T.b_len (by decide +kernel) (pa_cons (pv 0) pa_nil)) pe_int (nomark _)) (pss_one (ps_ret (pe_and (pe_cmpR (op_eqK (K := K) hr.units) (pe_ix (ixK (K := K)) (pv 0) pe_int (fun _ _ => rfl)) pe_str (nomark _)) (pe_one (pe_cal c_p_is_type_of (hr.mono (by omega)) pass0 (pa_cons (pe_ix (ixK (K := K)) (pv 0) pe_int (fun _ _ => rfl)) (pa_cons (pe_op op_sub (pv 1) pe_int) pa_nil))))))) pss_nil) (pss_cons (ps_if (pt_cmpR (op_eqK (K := K) hr.units) (pe_callB (lenK (K := K)) (by rfl) T.b_len (by decide +kernel) (pa_cons (pv 0) pa_nil)) pe_int (nomark _)) (pss_one (ps_ret (pe_and (pe_cmpR (op_eqK (K := K) hr.units) (pe_ix (ixK (K := K)) (pv 0) pe_int (fun _ _ => rfl)) pe_str (nomark _)) (pe_and (pe_cal c_p_is_type_of (hr.mono (by omega)) pass0 (pa_cons (pe_ix (ixK (K := K)) (pv 0) pe_int (fun _ _ => rfl)) (pa_cons (pe_op op_sub (pv 1) pe_int) pa_nil))) (pe_one (pe_cal c_p_is_type_of (hr.mono (by omega)) pass0 (pa_cons (pe_ix (ixK (K := K)) (pv 0) pe_int (fun _ _ => rfl)) (pa_cons (pe_op op_sub (pv 1) pe_int) pa_nil)))))))) pss_nil) (pss_one (ps_ret pe_bl)))))), ?_⟩)
  · obtain ⟨ws, s, rfl, _⟩ := h
    rfl
  · rintro ds m PD ⟨d, k, rfl, h0, h1, hc, kk⟩
    have hp := hc.1
    cases d with
    | str x =>
      walk_at "g"
      refine w_cK (KData.strs T.k_PLAIN) ?_
      walk_at "g"
      have q : isTy k.toNat (.str x) = inD (.str x) ((["num", "small", "big"] : List Str).map D.str) := by cases k.toNat <;> rfl
      rw [q] at kk
      exact kk
    | tup ds =>
      walk_at "g"
      refine iteB (fun e => ?_) (fun e => ?_)
      · have e : k = 0 := of_decide_eq_true e
        subst e
        walk_at "g"
        have q : isTy (Int.toNat 0) (.tup ds) = false := by rcases ds with _ | ⟨a, _ | ⟨b, _ | ⟨c, _ | ⟨d, r⟩⟩⟩⟩ <;> rfl
        rw [q] at kk
        exact kk
      · have e : ¬ k = 0 := of_decide_eq_false e
        obtain ⟨j, hj⟩ : ∃ j : Nat, k = (j : Int) + 1 := ⟨(k - 1).toNat, by omega⟩
        subst hj
        have ej : ((j : Int) + 1).toNat = j + 1 := by omega
        rw [ej] at kk
        match ds, hc, kk with
        | [a, c], hc, kk =>
          have ha := cmp_tup hc a (by simp)
          have hcc := cmp_tup hc c (by simp)
          walk_at "g"
          refine wr_eqD ha (cmp_str _) ?_
          have kk : PD (.bl (PyData.eqv (toPy a) (toPy (.str "cell")) && isTy j c)) m := kk
          refine ⟨_, rfl, iteB (fun e2 => ?_) (fun e2 => ?_)⟩
          · walk_at "g"
            refine ⟨by omega, by omega, hcc, ?_⟩
            rw [show ((j : Int) + 1 - 1).toNat = j by omega]
            rw [e2] at kk
            exact kk
          · rw [e2] at kk
            exact kk
        | [a, c, u], hc, kk =>
          have ha := cmp_tup hc a (by simp)
          have hcc := cmp_tup hc c (by simp)
          have hu := cmp_tup hc u (by simp)
          walk_at "g"
          refine wr_eqD ha (cmp_str _) ?_
          have kk : PD (.bl (PyData.eqv (toPy a) (toPy (.str "fun")) && isTy j c && isTy j u)) m := kk
          refine ⟨_, rfl, iteB (fun e2 => ?_) (fun e2 => ?_)⟩
          · walk_at "g"
            refine ⟨by omega, by omega, hcc, ?_⟩
            rw [show ((j : Int) + 1 - 1).toNat = j by omega]
            rw [e2] at kk
            refine ⟨_, rfl, iteB (fun e3 => ?_) (fun e3 => ?_)⟩
            · walk_at "g"
              refine ⟨by omega, by omega, hu, ?_⟩
              rw [show ((j : Int) + 1 - 1).toNat = j by omega]
              rw [e3] at kk
              exact kk
            · rw [e3] at kk
              exact kk
          · rw [e2] at kk
            exact kk
        | [], hc, kk =>
          walk_at "g"
          exact kk
        | [a], hc, kk =>
          walk_at "g"
          exact kk
        | a :: c :: u :: v :: r, hc, kk =>
          have l2 : decide (((a :: c :: u :: v :: r).length : Int) = 2) = false := decide_eq_false (by simp only [List.length_cons]; omega)
          have l3 : decide (((a :: c :: u :: v :: r).length : Int) = 3) = false := decide_eq_false (by simp only [List.length_cons]; omega)
          walk_at "g"
          exact kk
    | ty n => cases hp
    | ref a => cases hp
    | non =>
      walk_at "g"
      rw [show isTy k.toNat .non = false by cases k.toNat <;> rfl] at kk
      exact kk
    | bl b =>
      walk_at "g"
      rw [show isTy k.toNat (.bl b) = false by cases k.toNat <;> rfl] at kk
      exact kk
    | int b =>
      walk_at "g"
      rw [show isTy k.toNat (.int b) = false by cases k.toNat <;> rfl] at kk
      exact kk
    | lst b =>
      walk_at "g"
      rw [show isTy k.toNat (.lst b) = false by cases k.toNat <;> rfl] at kk
      exact kk
    | flst b =>
      walk_at "g"
      rw [show isTy k.toNat (.flst b) = false by cases k.toNat <;> rfl] at kk
      exact kk
theorem ok_isty (T : Txt K mg aP aW) (F : Def K mg "_is_type_of" s_p_is_type_of ["value", "most"]) : ∀ n : Nat, Cal P w K mg base CX0 (n + 1) "_is_type_of" ["value", "most"] (spOf K (R_isty n))
  | 0 => Cal.vac F fun ds m P ⟨_, _, _, h1, h2, _⟩ => by
    have h2 : _ < (0 : Int) := h2
    omega
  | n + 1 => ok_isty1 T F (ok_isty T F n)
def R_istype : Sd := fun ds m P => ∃ (d : D), ds = [d] ∧ Cmp d ∧ P (.bl (isTy 3 d)) m
theorem ok_istype (T : Txt K mg aP aW) (F : Def K mg "is_type" s_is_type ["value"]) (c_p_is_type_of : Cal P w K mg base CX0 5 "_is_type_of" ["value", "most"] (spOf K (R_isty 4))) : Cal P w K mg base CX0 6 "is_type" ["value"] (spOf K R_istype) := by
  refine F.ok sc_is_type (fun ds m P h => ?_) (fun f cdv A outer s H hr => ⟨_, (pss_one (ps_ret (pe_cal c_p_is_type_of (hr.mono (by omega)) pass0 (pa_cons (pv 0) (pa_cons (g_MOST_TUPLES T) pa_nil))))), ?_⟩)
  · obtain ⟨d, rfl, _⟩ := h
    rfl
  · rintro ds m PD ⟨d, rfl, hc, k⟩
    walk_at "g"
    exact ⟨hc, k⟩
end
end K04
end
section
set_option Elab.async false
set_option linter.all false
set_option maxRecDepth 100000
set_option maxHeartbeats 4000000
local macro_rules | `(tactic| walk_at "p") => `(tactic| first | rfl | exact DL.ty_pure _ | assumption)
local macro_rules | `(tactic| walk_at "c") => `(tactic| first | (show _ ≠ (0 : Int); omega) | exact DL.cdiv_ok (by omega) (by omega) | exact DL.cmul_ok (by omega) (by omega) | exact DL.cpow_ok)
local macro_rules | `(tactic| walk_at "w") => `(tactic| first
  | with_reducible refine DL.w_cint ?_ | with_reducible refine DL.w_cstr ?_ | with_reducible refine DL.w_cbl ?_ | with_reducible refine DL.w_cnon ?_ | with_reducible refine DL.w_cty ?_
  | refine DL.w_var rfl ?_
  | with_reducible refine DL.w_tup ?_ | with_reducible refine DL.w_lst ?_ | with_reducible refine DL.w_call ?_ | with_reducible refine DL.w_isTL ?_ | with_reducible refine DL.w_cb ?_ | with_reducible refine DL.w_op ?_
  | with_reducible refine DL.wt_B ?_ | with_reducible refine DL.wt_test ?_ | with_reducible refine DL.wt_and ?_ | with_reducible refine DL.wt_or ?_ | with_reducible refine DL.wt_not ?_ | with_reducible refine DL.wt_yes ?_
  | with_reducible refine DL.w_and ?_ | with_reducible refine DL.w_or ?_ | with_reducible refine DL.w_not ?_ | with_reducible refine DL.w_if ?_
  | with_reducible refine DL.wa_nil ?_ | with_reducible refine DL.wa_cons ?_
  | with_reducible refine DL.w_sl ?_ | with_reducible refine DL.wo_none ?_ | with_reducible refine DL.wo_some ?_
  | with_reducible refine DL.ws_next ?_ | with_reducible refine DL.ws_seq ?_ | with_reducible refine DL.ws_if ?_ | with_reducible refine DL.ws_ret ?_ | with_reducible refine DL.ws_drop ?_ | with_reducible refine DL.ws_set ?_ | with_reducible refine DL.ws_par ?_ | with_reducible refine DL.ws_sub ?_ | refine DL.ws_tup2 rfl ?_
  | with_reducible refine DL.wr_I0 ?_ | with_reducible refine DL.wr_B0 ?_
  | with_reducible refine DL.wr_I (by walk_at "c") ?_
  | refine DL.wr_cat (DL.size_le (Nat.le_of_ble_eq_true rfl)) ?_
  | refine DL.wr_eqInt ?_ | refine DL.wr_eqBl ?_ | refine DL.wr_neBl ?_ | refine DL.wc_isiTyS ?_ | refine DL.wc_isiTyT ?_ | refine DL.wc_isStr (by walk_at "p") ?_ | refine DL.wc_isTup (by walk_at "p") ?_ | refine DL.wc_isLst (by walk_at "p") ?_ | refine DL.wc_isBool (by walk_at "p") ?_ | refine DL.wc_isInt (by walk_at "p") ?_ | with_reducible refine DL.wr_isNon ?_ | with_reducible refine DL.wr_notNon ?_
  | with_reducible refine DL.wsl_tup ?_ | with_reducible refine DL.wsl_lst ?_ | with_reducible refine DL.wr_ltStr ?_
  | refine DL.wr_hd ?_ | refine DL.wr_hdCell ?_ | refine DL.wr_hdFn ?_ | refine DL.wr_ixCell ?_ | refine DL.wr_ixFn1 ?_ | refine DL.wr_ixFn2 ?_ | refine DL.wr_ixT rfl ?_ | refine DL.wr_ixL rfl ?_ | refine DL.wr_inT0 rfl (DL.strs_flat _) ?_
  | refine DL.wr_ixF rfl ?_ | refine DL.wr_ixM (by assumption) rfl ?_ | refine DL.wr_ixM DL.Mem.set_same rfl ?_
  | refine ⟨_, _, _, _, rfl, rfl, by assumption, rfl, ?_⟩ | refine ⟨_, _, _, _, rfl, rfl, DL.Mem.set_same, rfl, ?_⟩
  | refine DL.wc_tupleL ?_ | refine DL.wc_tupleT ?_ | refine DL.wc_listT ?_
  | refine DL.wc_lenF ?_ | refine DL.wc_lenT ?_ | refine DL.wc_lenL ?_ | refine DL.wc_int ?_
  | with_reducible refine ⟨_, rfl, ?_⟩
  | refine ⟨_, _, rfl, ?_⟩
  | with_reducible refine DL.iteT' rfl ?_ | with_reducible refine DL.iteF' rfl ?_
  | refine DL.iteT' (by assumption) ?_ | refine DL.iteF' (by assumption) ?_ | refine DL.iteT' (by decide +kernel) ?_ | refine DL.iteF' (by decide +kernel) ?_ | refine DL.iteT' rfl ?_ | refine DL.iteF' rfl ?_ | refine ⟨rfl, ?_⟩
  | refine ⟨DL.size_le (Nat.le_of_ble_eq_true rfl), ?_⟩ | refine ⟨by decide +kernel, ?_⟩)
local macro_rules | `(tactic| walk_at "g") => `(tactic| repeat walk_at "w")
local macro_rules | `(tactic| walk_at "b") => `(tactic| repeat (first
  | with_reducible exact ⟨rfl, rfl⟩
  | ((with_reducible apply DL.w_andP); (· walk_at "b"); (· walk_at "b")) | ((with_reducible apply DL.w_orP); (· walk_at "b"); (· walk_at "b"))
  | ((with_reducible apply DL.wt_andP); (· walk_at "b"); (· walk_at "b")) | ((with_reducible apply DL.wt_orP); (· walk_at "b"); (· walk_at "b"))
  | walk_at "w"))
namespace K04
open PySem PySem.Spec PyProof.Rows L2 DL
section
variable {P : Program} {w : World} {K : PySem.W.Frag} {mg : Str → Option Value} {base : Heap} {aP aW : Addr}
def ltS (a b : Str) : Bool := decide (a.cps.toList < b.cps.toList)
/-- ascending texts -/
def ascS : List Str → Bool
  | a :: b :: r => ltS a b && ascS (b :: r)
  | _ => true
def strOf : D → Str
  | .str x => x
  | _ => ""
def ascD (ds : List D) : Bool := ascS (ds.map strOf)
theorem inD_str {d : D} {ws : List Str} (h : inD d (ws.map D.str) = true) : ∃ x, d = .str x ∧ x ∈ ws := by
  unfold inD inV at h
  rw [List.any_eq_true] at h
  obtain ⟨y, hy, e⟩ := h
  rw [List.map_map] at hy
  obtain ⟨x, hx, rfl⟩ := List.mem_map.mp hy
  have e : eqV (V.str x) (vOf d) = true := e
  cases d with
  | str z =>
    have e : (x == z) = true := e
    exact ⟨z, rfl, (eq_of_beq e) ▸ hx⟩
  | _ => cases e
theorem str_inD {x : Str} {ws : List Str} (h : x ∈ ws) : inD (.str x) (ws.map D.str) = true := by
  unfold inD inV
  rw [List.any_eq_true]
  refine ⟨V.str x, by rw [List.map_map]; exact List.mem_map.mpr ⟨x, h, rfl⟩, ?_⟩
  show (x == x) = true
  exact beq_self_eq_true x
theorem all_strs {ds : List D} {ws : List Str} (h : ds.all (fun d => inD d (ws.map D.str)) = true) : ∃ xs : List Str, ds = xs.map D.str ∧ ∀ x ∈ xs, x ∈ ws := by
  rw [List.all_eq_true] at h
  refine ⟨ds.map strOf, ?_, fun x hx => ?_⟩
  · rw [List.map_map]
    refine (List.map_id ds).symm.trans (List.map_congr_left fun d hd => ?_)
    obtain ⟨x, rfl, _⟩ := inD_str (h d hd)
    rfl
  · obtain ⟨d, hd, rfl⟩ := List.mem_map.mp hx
    obtain ⟨x, rfl, hw⟩ := inD_str (h d hd)
    exact hw
theorem asc_zip : ∀ xs : List Str, ((xs.zip (xs.drop 1)).map fun p => ltS p.1 p.2).all id = ascS xs
  | [] => rfl
  | [a] => rfl
  | a :: b :: r => by
    have ih := asc_zip (b :: r)
    show (ltS a b && (((b :: r).zip r).map fun p => ltS p.1 p.2).all id) = (ltS a b && ascS (b :: r))
    rw [← ih]
    rfl
theorem cut_tail (ds : List D) : DL.cutD ds (some 1) none = ds.drop 1 := by
  unfold DL.cutD
  cases ds with
  | nil => rfl
  | cons d r =>
    have e1 : HT.sIx (d :: r).length 0 (some 1) = 1 := by
      simp [HT.sIx]
    have e2 : HT.sIx (d :: r).length (d :: r).length none = (d :: r).length := rfl
    rw [e1, e2]
    simp
/-- a value as is_design sees it: texts and nothings in a tuple, or no tuple -/
def isDes : D → Bool
  | .tup ds => ds.all (fun d => inD d (words.map D.str)) && ascD ds
  | _ => false
def R_isdes (Pt : Addr) : Sd := fun ds m P => ∃ (d : D), ds = [d] ∧ pure d = true ∧ (∀ es, d = .tup es → es.all flatD = true ∧ es.length ≤ 1000) ∧ m Pt = some .tab ∧ P (.bl (isDes d)) m
theorem genfree {env : PySem.Env} : ∀ y ∈ ([(".0", NameKind.local), ("word", NameKind.local), ("WORDS", NameKind.globalImplicit)] : List (Str × NameKind)), y.2 = .free → ∃ c, env.cells.lookup y.1 = some c := by
  intro y hy e
  simp only [List.mem_cons, List.not_mem_nil, or_false] at hy
  rcases hy with rfl | rfl | rfl <;> cases e
theorem ok_isdes {c Pt : Addr} (T : Txt K mg aP aW) (F : DefC K mg "is_design" s_is_design ["value"] c) (TB : GxR.TabB base mg c Pt) (hmod : K.In base ∧ base.Ns mainGlobals mg) : Cal P w K mg base CX0 1 "is_design" ["value"] (spOf K (R_isdes Pt)) := by
  refine F.ok sc_is_design (fun ds m P h => ?_) (fun f A outer s H hr => ⟨_, (pss_cons (ps_if (pt_not (pt_val (pe_callB (isiK (K := K)) (by rfl) T.b_isinstance (by decide +kernel) (pa_cons (pv 0) (pa_cons (pe_bltn (v := .ty "tuple") rfl T.b_tuple (by decide +kernel) rfl) pa_nil))))) (pss_one (ps_ret pe_bl)) pss_nil) (pss_cons (ps_if (pt_not (pt_val (pe_allTK (K := K) (c := c) (P := Pt) (adm := fun y => flatV y = true) (pb := fun y => inV y (words.map V.str)) hr T.b_all TB rfl ⟨rfl, rfl, by decide, rfl, rfl, genfree⟩ (pv 0) (GXT.elt_inK rfl rfl rfl rfl hmod T.c_WORDS T.k_WORDS (by decide))))) (pss_one (ps_ret pe_bl)) pss_nil) (pss_one (ps_ret (pe_callB (allK (K := K) rfl) (by rfl) T.b_all (by decide +kernel) (pa_cons (pe_lc (own := [("one", 1), ("other", 2)]) (g := gTup K 2 (gCons (gName 1) (gCons (gName 2) gNil))) rfl sc_is_design.nd (pi_zipK (K := K) rfl T.b_zip (pa_cons (pv 0) (pa_cons (pe_slice (sl_tupK (K := K)) (pv 0) (po_some pe_int) po_none) pa_nil))) (blkOk_by (own := [("one", 1), ("other", 2)]) (N := ["value", "one", "other"]) (sc := defScope s_is_design) (by decide +kernel)) (fun _ _ _ _ _ => pg_tupK (K := K) (n := 2) rfl (pgs_cons (pg_name (i := 1) sc_is_design.nd rfl (Or.inl rfl)) (pgs_cons (pg_name (i := 2) sc_is_design.nd rfl (Or.inl rfl)) pgs_nil))) (fun _ _ _ _ _ => pts_nil) (fun _ _ _ _ _ => (pe_cmpR op_ltS (pv 1) (pv 2) (nomark _)))) pa_nil)))))), ?_⟩)
  · obtain ⟨d, rfl, _⟩ := h
    rfl
  · rintro ds m PD ⟨d, rfl, hp, hfl, ht, k⟩
    cases d with
    | tup es =>
      obtain ⟨fl, hlen⟩ := hfl es rfl
      walk_at "g"
      refine w_allT (fun d => inD d (words.map D.str)) ?_
      walk_at "g"
      refine ⟨ht, fun b H xs rs => ?_, ?_⟩
      · have e := rs.flat fl
        subst e
        refine ⟨?_, ?_⟩
        · have q := all_flat fl
          rw [List.all_eq_true] at q
          exact q
        · rw [List.all_map]
          rfl
      · walk_at "g"
        have k : PD (.bl (es.all (fun d => inD d (words.map D.str)) && ascD es)) m := k
        cases ha : es.all (fun d => inD d (words.map D.str)) with
        | false =>
          rw [ha] at k
          walk_at "g"
          exact k
        | true =>
          rw [ha, Bool.true_and] at k
          obtain ⟨xs, rfl, hx⟩ := all_strs ha
          rw [List.length_map] at hlen
          walk_at "g"
          refine w_lcZT (fun i m' acc => m' = m ∧ acc = ((xs.zip (xs.drop 1)).take i).map (fun p => D.bl (ltS p.1 p.2))) (by decide) (by decide) rfl ?_
          walk_at "g"
          rw [cut_tail]
          refine ⟨by rw [List.length_map]; omega, ⟨rfl, rfl⟩, fun i x y m' acc hx hy hI => ?_, fun m' acc hI => ?_⟩
          · obtain ⟨rfl, rfl⟩ := hI
            rw [List.getElem?_map] at hx
            rw [← List.map_drop, List.getElem?_map] at hy
            obtain ⟨a, ha, rfl⟩ := Option.map_eq_some_iff.mp hx
            obtain ⟨b, hb, rfl⟩ := Option.map_eq_some_iff.mp hy
            walk_at "g"
            have hz : (xs.zip (xs.drop 1))[i]? = some (a, b) := List.getElem?_zip_eq_some.mpr ⟨ha, hb⟩
            rw [List.take_succ, List.map_append, hz]
            rfl
          · obtain ⟨rfl, rfl⟩ := hI
            walk_at "g"
            rw [List.take_of_length_le (by rw [List.length_zip, List.length_map, ← List.map_drop, List.length_map]; exact Nat.le_refl _), show (xs.zip (xs.drop 1)).map (fun p => D.bl (ltS p.1 p.2)) = ((xs.zip (xs.drop 1)).map fun p => ltS p.1 p.2).map D.bl by rw [List.map_map]; rfl]
            refine wc_all ?_
            rw [asc_zip]
            have e : ascD (xs.map D.str) = ascS xs := by
              unfold ascD
              rw [List.map_map, show strOf ∘ D.str = id from rfl, List.map_id]
            rw [e] at k
            exact k
    | ty n => cases hp
    | ref a => cases hp
    | _ =>
      walk_at "g"
      exact k
/-- drawn designs are designs -/
theorem asc_sub : ∀ {xs : List Str}, xs.Pairwise (fun a b => ltS a b = true) → ascS xs = true
  | [], _ => rfl
  | [a], _ => rfl
  | a :: b :: r, h => by
    rw [List.pairwise_cons] at h
    show (ltS a b && ascS (b :: r)) = true
    rw [h.1 b (by simp), asc_sub h.2]
    rfl
theorem words_asc : words.Pairwise (fun a b => ltS a b = true) := by decide +kernel
theorem des_ok {ws : List Str} (h : ws.Sublist words) : isDes (.tup (ws.map D.str)) = true := by
  show ((ws.map D.str).all (fun d => inD d (words.map D.str)) && ascD (ws.map D.str)) = true
  have e1 : (ws.map D.str).all (fun d => inD d (words.map D.str)) = true := by
    rw [List.all_map, List.all_eq_true]
    exact fun x hx => str_inD (h.subset hx)
  have e : ascD (ws.map D.str) = ascS ws := by
    unfold ascD
    rw [List.map_map, show strOf ∘ D.str = id from rfl, List.map_id]
  rw [e1, e, asc_sub (words_asc.sublist h)]
  rfl
end
end K04
end
section
set_option Elab.async false
set_option linter.all false
set_option maxRecDepth 100000
set_option maxHeartbeats 4000000
local macro_rules | `(tactic| walk_at "p") => `(tactic| first | rfl | exact DL.ty_pure _ | assumption)
local macro_rules | `(tactic| walk_at "c") => `(tactic| first | (show _ ≠ (0 : Int); omega) | exact DL.cdiv_ok (by omega) (by omega) | exact DL.cmul_ok (by omega) (by omega) | exact DL.cpow_ok)
local macro_rules | `(tactic| walk_at "w") => `(tactic| first
  | with_reducible refine DL.w_cint ?_ | with_reducible refine DL.w_cstr ?_ | with_reducible refine DL.w_cbl ?_ | with_reducible refine DL.w_cnon ?_ | with_reducible refine DL.w_cty ?_
  | refine DL.w_var rfl ?_
  | with_reducible refine DL.w_tup ?_ | with_reducible refine DL.w_lst ?_ | with_reducible refine DL.w_call ?_ | with_reducible refine DL.w_isTL ?_ | with_reducible refine DL.w_cb ?_ | with_reducible refine DL.w_op ?_
  | with_reducible refine DL.wt_B ?_ | with_reducible refine DL.wt_test ?_ | with_reducible refine DL.wt_and ?_ | with_reducible refine DL.wt_or ?_ | with_reducible refine DL.wt_not ?_ | with_reducible refine DL.wt_yes ?_
  | with_reducible refine DL.w_and ?_ | with_reducible refine DL.w_or ?_ | with_reducible refine DL.w_not ?_ | with_reducible refine DL.w_if ?_
  | with_reducible refine DL.wa_nil ?_ | with_reducible refine DL.wa_cons ?_
  | with_reducible refine DL.w_sl ?_ | with_reducible refine DL.wo_none ?_ | with_reducible refine DL.wo_some ?_
  | with_reducible refine DL.ws_next ?_ | with_reducible refine DL.ws_seq ?_ | with_reducible refine DL.ws_if ?_ | with_reducible refine DL.ws_ret ?_ | with_reducible refine DL.ws_drop ?_ | with_reducible refine DL.ws_set ?_ | with_reducible refine DL.ws_par ?_ | with_reducible refine DL.ws_sub ?_ | refine DL.ws_tup2 rfl ?_
  | with_reducible refine DL.wr_I0 ?_ | with_reducible refine DL.wr_B0 ?_
  | with_reducible refine DL.wr_I (by walk_at "c") ?_
  | refine DL.wr_cat (DL.size_le (Nat.le_of_ble_eq_true rfl)) ?_
  | refine DL.wr_eqInt ?_ | refine DL.wr_eqBl ?_ | refine DL.wr_neBl ?_ | refine DL.wc_isiTyS ?_ | refine DL.wc_isiTyT ?_ | refine DL.wc_isStr (by walk_at "p") ?_ | refine DL.wc_isTup (by walk_at "p") ?_ | refine DL.wc_isLst (by walk_at "p") ?_ | refine DL.wc_isBool (by walk_at "p") ?_ | refine DL.wc_isInt (by walk_at "p") ?_ | with_reducible refine DL.wr_isNon ?_ | with_reducible refine DL.wr_notNon ?_
  | with_reducible refine DL.wsl_tup ?_ | with_reducible refine DL.wsl_lst ?_ | with_reducible refine DL.wr_ltStr ?_
  | refine DL.wr_hd ?_ | refine DL.wr_hdCell ?_ | refine DL.wr_hdFn ?_ | refine DL.wr_ixCell ?_ | refine DL.wr_ixFn1 ?_ | refine DL.wr_ixFn2 ?_ | refine DL.wr_ixT rfl ?_ | refine DL.wr_ixL rfl ?_ | refine DL.wr_inT0 rfl (DL.strs_flat _) ?_
  | refine DL.wr_ixF rfl ?_ | refine DL.wr_ixM (by assumption) rfl ?_ | refine DL.wr_ixM DL.Mem.set_same rfl ?_
  | refine ⟨_, _, _, _, rfl, rfl, by assumption, rfl, ?_⟩ | refine ⟨_, _, _, _, rfl, rfl, DL.Mem.set_same, rfl, ?_⟩
  | refine DL.wc_tupleL ?_ | refine DL.wc_tupleT ?_ | refine DL.wc_listT ?_
  | refine DL.wc_lenF ?_ | refine DL.wc_lenT ?_ | refine DL.wc_lenL ?_ | refine DL.wc_int ?_
  | with_reducible refine ⟨_, rfl, ?_⟩
  | refine ⟨_, _, rfl, ?_⟩
  | with_reducible refine DL.iteT' rfl ?_ | with_reducible refine DL.iteF' rfl ?_
  | refine DL.iteT' (by assumption) ?_ | refine DL.iteF' (by assumption) ?_ | refine DL.iteT' (by decide +kernel) ?_ | refine DL.iteF' (by decide +kernel) ?_ | refine DL.iteT' rfl ?_ | refine DL.iteF' rfl ?_ | refine ⟨rfl, ?_⟩
  | refine ⟨DL.size_le (Nat.le_of_ble_eq_true rfl), ?_⟩ | refine ⟨by decide +kernel, ?_⟩)
local macro_rules | `(tactic| walk_at "g") => `(tactic| repeat walk_at "w")
local macro_rules | `(tactic| walk_at "b") => `(tactic| repeat (first
  | with_reducible exact ⟨rfl, rfl⟩
  | ((with_reducible apply DL.w_andP); (· walk_at "b"); (· walk_at "b")) | ((with_reducible apply DL.w_orP); (· walk_at "b"); (· walk_at "b"))
  | ((with_reducible apply DL.wt_andP); (· walk_at "b"); (· walk_at "b")) | ((with_reducible apply DL.wt_orP); (· walk_at "b"); (· walk_at "b"))
  | walk_at "w"))
namespace K04
open PySem PySem.Spec PyProof.Rows L2 DL
section
variable {P : Program} {w : World} {K : PySem.W.Frag} {mg : Str → Option Value} {base : Heap} {aP aW : Addr}
def R_reqtype (cT : Addr) : SdX := fun ds m P X => ∃ d, ds = [d] ∧ Cmp d ∧ (isTy 3 d = true → P .non m) ∧ (isTy 3 d = false → X (.ref cT) m)
theorem ok_reqtype {cT : Addr} (F : Def K mg "require_type" s_require_type ["value"]) (eT : ErrC K mg "BadType" cT) (c_is_type : Cal P w K mg base CX0 6 "is_type" ["value"] (spOf K R_istype)) : Cal P w K mg base (L2.CX P w) 7 "require_type" ["value"] (spOfX K (R_reqtype cT)) := by
  refine F.okX sc_require_type (fun ds m P X h => ?_) (fun f cdv A outer s H E hr => ⟨_, (pss_one (ps_if (pt_not (pt_val (pe_cal c_is_type (hr.mono (by omega)) pass0 (pa_cons (pv 0) pa_nil)))) (pss_one (ps_raise rfl (takes_of rfl rfl rfl rfl) (pmk_own PySem.F.excBase_ValueError eT.x eT.g eT.k (raises_own eT.b eT.t) rfl))) pss_nil)), ?_⟩)
  · obtain ⟨d, rfl, _⟩ := h
    rfl
  · rintro ds m PD X b σ Q ⟨d, rfl, hc, h1, h2⟩ sl ok hQ hE
    have t1 : WT K (tNot (tB (tCall (spOf K R_istype) [] E0 (tCons (tVar 0) tNil)))) ([d].map some ++ List.replicate ((["value"] : List Str).length - [d].length) none) m (fun c m1 => c = !isTy 3 d ∧ m1 = m) := by
      walk_at "g"
      exact ⟨d, rfl, hc, _, rfl, rfl, rfl⟩
    refine t1 b σ H sl ok _ fun c m1 H1 e st ok1 => ?_
    obtain ⟨e1, e2⟩ := e
    rw [e2] at st ok1
    rw [e1]
    cases q : isTy 3 d with
    | true => exact hQ .non .non m H1 (h1 q) st ok1 .non
    | false => exact hE (.ref cT) m H1 (h2 q) st ok1
def R_reqdes (cD Pt : Addr) : SdX := fun ds m P X => ∃ d, ds = [d] ∧ pure d = true ∧ (∀ es, d = .tup es → es.all flatD = true ∧ es.length ≤ 1000) ∧ m Pt = some .tab ∧ (isDes d = true → P .non m) ∧ (isDes d = false → X (.ref cD) m)
theorem ok_reqdes {cD Pt : Addr} (F : Def K mg "require_design" s_require_design ["value"]) (eD : ErrC K mg "BadDesign" cD) (c_is_design : Cal P w K mg base CX0 1 "is_design" ["value"] (spOf K (R_isdes Pt))) : Cal P w K mg base (L2.CX P w) 2 "require_design" ["value"] (spOfX K (R_reqdes cD Pt)) := by
  refine F.okX sc_require_design (fun ds m P X h => ?_) (fun f cdv A outer s H E hr => ⟨_, (pss_one (ps_if (pt_not (pt_val (pe_cal c_is_design (hr.mono (by omega)) pass0 (pa_cons (pv 0) pa_nil)))) (pss_one (ps_raise rfl (takes_of rfl rfl rfl rfl) (pmk_own PySem.F.excBase_ValueError eD.x eD.g eD.k (raises_own eD.b eD.t) rfl))) pss_nil)), ?_⟩)
  · obtain ⟨d, rfl, _⟩ := h
    rfl
  · rintro ds m PD X b σ Q ⟨d, rfl, hp, hf, ht, h1, h2⟩ sl ok hQ hE
    have t1 : WT K (tNot (tB (tCall (spOf K (R_isdes Pt)) [] E0 (tCons (tVar 0) tNil)))) ([d].map some ++ List.replicate ((["value"] : List Str).length - [d].length) none) m (fun c m1 => c = !isDes d ∧ m1 = m) := by
      walk_at "g"
      exact ⟨d, rfl, hp, hf, ht, _, rfl, rfl, rfl⟩
    refine t1 b σ H sl ok _ fun c m1 H1 e st ok1 => ?_
    obtain ⟨e1, e2⟩ := e
    rw [e2] at st ok1
    rw [e1]
    cases q : isDes d with
    | true => exact hQ .non .non m H1 (h1 q) st ok1 .non
    | false => exact hE (.ref cD) m H1 (h2 q) st ok1
/-- which error, for a design and two types -/
def R_lies (cD cT Pt : Addr) : SdX := fun ds m P X => ∃ d a c, ds = [d, a, c] ∧ pure d = true ∧ (∀ es, d = .tup es → es.all flatD = true ∧ es.length ≤ 1000) ∧ m Pt = some .tab ∧
  (isDes d = false → X (.ref cD) m) ∧ (isDes d = true → Cmp a ∧ (isTy 3 a = false → X (.ref cT) m) ∧ (isTy 3 a = true → Cmp c ∧ (isTy 3 c = false → X (.ref cT) m) ∧
    (isTy 3 c = true → ∃ ws s t, d = .tup (ws.map D.str) ∧ a = tyd s ∧ c = tyd t ∧ s.depth ≤ 10 ∧ t.depth ≤ 10 ∧ P (.bl (Wi ws s t).1) m)))
theorem ok_lies {cD cT Pt : Addr} (F : Def K mg "lies_within" s_lies_within ["design", "one", "other"]) (c_require_design : Cal P w K mg base (L2.CX P w) 2 "require_design" ["value"] (spOfX K (R_reqdes cD Pt)))
    (c_require_type : Cal P w K mg base (L2.CX P w) 7 "require_type" ["value"] (spOfX K (R_reqtype cT))) (c_within : Cal P w K mg base CX0 22 "within" ["design", "one", "other"] (spOf K (R_within 10))) : Cal P w K mg base (L2.CX P w) 23 "lies_within" ["design", "one", "other"] (spOfX K (R_lies cD cT Pt)) := by
  refine F.okX sc_lies_within (fun ds m P X h => ?_) (fun f cdv A outer s H E hr => ⟨_, (pss_cons (ps_expr (pe_cal c_require_design (hr.mono (by omega)) (passX (takes_of rfl rfl rfl rfl)) (pa_cons (pv 0) pa_nil))) (pss_cons (ps_expr (pe_cal c_require_type (hr.mono (by omega)) (passX (takes_of rfl rfl rfl rfl)) (pa_cons (pv 1) pa_nil))) (pss_cons (ps_expr (pe_cal c_require_type (hr.mono (by omega)) (passX (takes_of rfl rfl rfl rfl)) (pa_cons (pv 2) pa_nil))) (pss_one (ps_ret (pe_cal c_within (hr.mono (by omega)) pass0 (pa_cons (pv 0) (pa_cons (pv 1) (pa_cons (pv 2) pa_nil))))))))), ?_⟩)
  · obtain ⟨d, a, c, rfl, _⟩ := h
    rfl
  · rintro ds m PD X b σ Q ⟨d, a, c, rfl, hp, hf, ht, h1, h2⟩ sl ok hQ hE
    refine run_callX (P := fun _ m' => m' = m ∧ isDes d = true) (X := X) ?_ sl ok hE fun v d' m1 H1 hp1 st1 ok1 r1 => ?_
    · walk_at "g"
      exact ⟨d, rfl, hp, hf, ht, fun e => ⟨rfl, e⟩, h1⟩
    obtain ⟨e1, hd⟩ := hp1
    rw [e1] at st1 ok1
    obtain ⟨ca, a1, a2⟩ := h2 hd
    have sl1 := sl.step st1 fun _ z => z
    show tCall (spOfX K (R_reqtype cT)) [] _ (tCons (tVar 1) tNil) σ H1 _
    refine run_callX (P := fun _ m' => m' = m ∧ isTy 3 a = true) (X := X) ?_ sl1 ok1 (fun cls m' H' hx st ok' => hE cls m' H' hx (st1.trans st) ok') fun v d' m2 H2 hp2 st2 ok2 r2 => ?_
    · walk_at "g"
      exact ⟨a, rfl, ca, fun e => ⟨rfl, e⟩, a1⟩
    obtain ⟨e2, ha⟩ := hp2
    rw [e2] at st2 ok2
    obtain ⟨cc, c1, c2⟩ := a2 ha
    have st12 := st1.trans st2
    have sl2 := sl.step st12 fun _ z => z
    show tCall (spOfX K (R_reqtype cT)) [] _ (tCons (tVar 2) tNil) σ H2 _
    refine run_callX (P := fun _ m' => m' = m ∧ isTy 3 c = true) (X := X) ?_ sl2 ok2 (fun cls m' H' hx st ok' => hE cls m' H' hx (st12.trans st) ok') fun v d' m3 H3 hp3 st3 ok3 r3 => ?_
    · walk_at "g"
      exact ⟨c, rfl, cc, fun e => ⟨rfl, e⟩, c1⟩
    obtain ⟨e3, hc⟩ := hp3
    rw [e3] at st3 ok3
    obtain ⟨ws, s', t', rfl, rfl, rfl, b1, b2, k⟩ := c2 hc
    have st13 := st12.trans st3
    have sl3 := sl.step st13 fun _ z => z
    have wr : WS K (tRet (tCall (spOf K (R_within 10)) [] E0 (tCons (tVar 0) (tCons (tVar 1) (tCons (tVar 2) tNil))))) (([D.tup (ws.map D.str), tyd s', tyd t'] : List D).map some ++ List.replicate ((["design", "one", "other"] : List Str).length - ([D.tup (ws.map D.str), tyd s', tyd t'] : List D).length) none) m (fun _ _ => True) PD (fun _ _ => False) (fun _ _ => False) := by
      walk_at "g"
      exact ⟨ws, s', t', rfl, b1, by omega, by omega, k⟩
    exact wr b σ H3 sl3 ok3 { nx := fun _ _ => True, rt := Q } ⟨fun _ _ _ _ _ _ _ _ => trivial, fun v d m' H' h st ok' r => hQ v d m' H' h (st13.trans st) ok' r, fun _ _ _ _ h => h.elim, fun _ _ _ _ h => h.elim⟩
end
end K04
end
section
set_option Elab.async false
set_option linter.all false
set_option maxRecDepth 100000
set_option maxHeartbeats 4000000
local macro_rules | `(tactic| walk_at "p") => `(tactic| first | rfl | exact DL.ty_pure _ | assumption)
local macro_rules | `(tactic| walk_at "c") => `(tactic| first | (show _ ≠ (0 : Int); omega) | exact DL.cdiv_ok (by omega) (by omega) | exact DL.cmul_ok (by omega) (by omega) | exact DL.cpow_ok)
local macro_rules | `(tactic| walk_at "w") => `(tactic| first
  | with_reducible refine DL.w_cint ?_ | with_reducible refine DL.w_cstr ?_ | with_reducible refine DL.w_cbl ?_ | with_reducible refine DL.w_cnon ?_ | with_reducible refine DL.w_cty ?_
  | refine DL.w_var rfl ?_
  | with_reducible refine DL.w_tup ?_ | with_reducible refine DL.w_lst ?_ | with_reducible refine DL.w_call ?_ | with_reducible refine DL.w_isTL ?_ | with_reducible refine DL.w_cb ?_ | with_reducible refine DL.w_op ?_
  | with_reducible refine DL.wt_B ?_ | with_reducible refine DL.wt_test ?_ | with_reducible refine DL.wt_and ?_ | with_reducible refine DL.wt_or ?_ | with_reducible refine DL.wt_not ?_ | with_reducible refine DL.wt_yes ?_
  | with_reducible refine DL.w_and ?_ | with_reducible refine DL.w_or ?_ | with_reducible refine DL.w_not ?_ | with_reducible refine DL.w_if ?_
  | with_reducible refine DL.wa_nil ?_ | with_reducible refine DL.wa_cons ?_
  | with_reducible refine DL.w_sl ?_ | with_reducible refine DL.wo_none ?_ | with_reducible refine DL.wo_some ?_
  | with_reducible refine DL.ws_next ?_ | with_reducible refine DL.ws_seq ?_ | with_reducible refine DL.ws_if ?_ | with_reducible refine DL.ws_ret ?_ | with_reducible refine DL.ws_drop ?_ | with_reducible refine DL.ws_set ?_ | with_reducible refine DL.ws_par ?_ | with_reducible refine DL.ws_sub ?_ | refine DL.ws_tup2 rfl ?_
  | with_reducible refine DL.wr_I0 ?_ | with_reducible refine DL.wr_B0 ?_
  | with_reducible refine DL.wr_I (by walk_at "c") ?_
  | refine DL.wr_cat (DL.size_le (Nat.le_of_ble_eq_true rfl)) ?_
  | refine DL.wr_eqInt ?_ | refine DL.wr_eqBl ?_ | refine DL.wr_neBl ?_ | refine DL.wc_isiTyS ?_ | refine DL.wc_isiTyT ?_ | refine DL.wc_isStr (by walk_at "p") ?_ | refine DL.wc_isTup (by walk_at "p") ?_ | refine DL.wc_isLst (by walk_at "p") ?_ | refine DL.wc_isBool (by walk_at "p") ?_ | refine DL.wc_isInt (by walk_at "p") ?_ | with_reducible refine DL.wr_isNon ?_ | with_reducible refine DL.wr_notNon ?_
  | with_reducible refine DL.wsl_tup ?_ | with_reducible refine DL.wsl_lst ?_ | with_reducible refine DL.wr_ltStr ?_
  | refine DL.wr_hd ?_ | refine DL.wr_hdCell ?_ | refine DL.wr_hdFn ?_ | refine DL.wr_ixCell ?_ | refine DL.wr_ixFn1 ?_ | refine DL.wr_ixFn2 ?_ | refine DL.wr_ixT rfl ?_ | refine DL.wr_ixL rfl ?_ | refine DL.wr_inT0 rfl (DL.strs_flat _) ?_
  | refine DL.wr_ixF rfl ?_ | refine DL.wr_ixM (by assumption) rfl ?_ | refine DL.wr_ixM DL.Mem.set_same rfl ?_
  | refine ⟨_, _, _, _, rfl, rfl, by assumption, rfl, ?_⟩ | refine ⟨_, _, _, _, rfl, rfl, DL.Mem.set_same, rfl, ?_⟩
  | refine DL.wc_tupleL ?_ | refine DL.wc_tupleT ?_ | refine DL.wc_listT ?_
  | refine DL.wc_lenF ?_ | refine DL.wc_lenT ?_ | refine DL.wc_lenL ?_ | refine DL.wc_int ?_
  | with_reducible refine ⟨_, rfl, ?_⟩
  | refine ⟨_, _, rfl, ?_⟩
  | with_reducible refine DL.iteT' rfl ?_ | with_reducible refine DL.iteF' rfl ?_
  | refine DL.iteT' (by assumption) ?_ | refine DL.iteF' (by assumption) ?_ | refine DL.iteT' (by decide +kernel) ?_ | refine DL.iteF' (by decide +kernel) ?_ | refine DL.iteT' rfl ?_ | refine DL.iteF' rfl ?_ | refine ⟨rfl, ?_⟩
  | refine ⟨DL.size_le (Nat.le_of_ble_eq_true rfl), ?_⟩ | refine ⟨by decide +kernel, ?_⟩)
local macro_rules | `(tactic| walk_at "g") => `(tactic| repeat walk_at "w")
local macro_rules | `(tactic| walk_at "b") => `(tactic| repeat (first
  | with_reducible exact ⟨rfl, rfl⟩
  | ((with_reducible apply DL.w_andP); (· walk_at "b"); (· walk_at "b")) | ((with_reducible apply DL.w_orP); (· walk_at "b"); (· walk_at "b"))
  | ((with_reducible apply DL.wt_andP); (· walk_at "b"); (· walk_at "b")) | ((with_reducible apply DL.wt_orP); (· walk_at "b"); (· walk_at "b"))
  | walk_at "w"))
namespace K04
open PySem PySem.Spec PyProof.Rows L2 DL
section
variable {P : Program} {w : World} {K : PySem.W.Frag} {mg : Str → Option Value} {base : Heap} {aP aW : Addr}
def rIsW (K : PySem.W.Frag) (a : Addr) (cls : Value) (d : Option Addr) : List V → Hp → VK → Prop := fun xs H Q => ∃ D, cls = .ref D ∧ d = none ∧ ExcC K D ∧ rIsE K D a xs H Q
theorem call_isW {X : Cx} {a : Addr} {cls : Value} {d : Option Addr} {oe : Obj} {pn : List (Addr × Obj)} (hz : Zc cls d oe) (hf : ∃ vs, oe.data = .fields vs) (hK : X.K = K := by rfl) : CallR (X.suite a ((a, oe) :: pn)) (.builtin "isinstance") (rIsW K a cls d) := by
  intro pins s σ H xs us Q I r h
  obtain ⟨D, rfl, rfl, C, h⟩ := h
  subst hK
  exact call_isE C hz hf pins s σ H xs us Q I r h
/-- the classes of the errors -/
structure ErrW (K : PySem.W.Frag) (mg : Str → Option Value) (cB cT cD : Addr) : Prop where
  gB : mg "BorderError" = some (.ref cB)
  gT : mg "BadType" = some (.ref cT)
  gD : mg "BadDesign" = some (.ref cD)
  xT : PySem.W.exmOne K (.ref cT) (.ref cB) = some true
  xD : PySem.W.exmOne K (.ref cD) (.ref cB) = some true
  eT : ExcC K cT
  eD : ExcC K cD
  kTT : PySem.W.kitOne K (.ref cT) (.ref cT) = some true
  kDT : PySem.W.kitOne K (.ref cD) (.ref cT) = some false
  kDD : PySem.W.kitOne K (.ref cD) (.ref cD) = some true
def TTw (cT cD : Addr) : (XK → Hp → VK → Prop) → Hp → VK → Prop := fun tl H Q =>
  tl (fun cls d H' => d = none ∧ ((cls = .ref cT ∧ Q (.str "type") H') ∨ (cls = .ref cD ∧ Q (.str "design") H'))) H (fun _ H' => Q (.str "") H')
theorem gives_wrong {cB cT cD : Addr} {k : Nat} {g : Addr} {cdg : Value} (T : Txt K mg aP aW) (e : ErrW K mg cB cT cD) :
    GivesW P w K mg base k ["work", "e"] "_law_wrong" (defScope s_p_law_wrong) g cdg (defBody s_p_law_wrong) "work" (TTw cT cD) := by
  intro A outer f s H Q tl hr act h
  refine ⟨_, pss_cons (ps_try_as (i := 1) (c := .ref cB)
      (tb := fun W D σ H => ∃ Ech : XK, (∀ cls d σ' H', σ'.length = 2 → Ech cls d H' → W cls d σ' H') ∧ σ[0]? = some (some (.ref f)) ∧ tl Ech H fun _ H' => D.nx σ H')
      rfl rfl sc_p_law_wrong.nd rfl rfl ⟨rfl, by decide, .inl e.gB⟩ LamX.takes0 (fun W pn xe tk _ => ?_)
      (fun a oe cls d pn hz hf => pss_one (ps_ret (pe_ifExp (pt_val (pe_callB (call_isW (K := K) hz hf) (by rfl) T.b_isinstance (by decide +kernel) (pa_cons (pv 1) (pa_cons (pe_glob (v := .ref cT) rfl e.gT rfl) pa_nil)))) pe_str
        (pe_ifExp (pt_val (pe_callB (call_isW (K := K) hz hf) (by rfl) T.b_isinstance (by decide +kernel) (pa_cons (pv 1) (pa_cons (pe_glob (v := .ref cD) rfl e.gD rfl) pa_nil)))) pe_str pe_str)))))
      (pss_one (ps_ret pe_str)), ?_⟩
  · refine ⟨fun pins s' σ H' D I h' => ?_⟩
    obtain ⟨Ech, hW, h1, h2⟩ := h'
    have hp := act W pn xe Ech ⟨127, 8, 127, 12⟩ ⟨127, 8, 127, 14⟩ tk hW
    exact (pss_one (ps_expr hp)).run pins s' σ H' D I ⟨h1, h2⟩
  · refine ⟨_, ?_, rfl, h⟩
    rintro cls d σ' H' hl ⟨rfl, h⟩
    have hv : ∀ a : Addr, (σ'.set 1 (some (V.ref a)))[1]? = some (some (V.ref a)) := fun a => List.getElem?_set_self (by omega)
    rcases h with ⟨rfl, q⟩ | ⟨rfl, q⟩
    · refine ⟨true, e.xT, fun _ a ha => ?_, fun z => nomatch z⟩
      refine ⟨_, hv a, ?_⟩
      exact ⟨cT, rfl, rfl, e.eT, .ref cT, .ref cT, true, rfl, fun u z => z, e.kTT, true, rfl, q⟩
    · refine ⟨true, e.xD, fun _ a ha => ?_, fun z => nomatch z⟩
      refine ⟨_, hv a, ?_⟩
      refine ⟨cD, rfl, rfl, e.eD, .ref cT, .ref cT, false, rfl, fun u z => z, e.kDT, false, rfl, ?_⟩
      refine ⟨_, hv a, ?_⟩
      exact ⟨cD, rfl, rfl, e.eD, .ref cD, .ref cD, true, rfl, fun u z => z, e.kDD, true, rfl, q⟩
/-- _law_wrong, to be called -/
theorem cal_wrong {cB cT cD : Addr} {k : Nat} (T : Txt K mg aP aW) (e : ErrW K mg cB cT cD) (F : Def K mg "_law_wrong" s_p_law_wrong ["work"]) : CalW P w K mg base k "_law_wrong" "work" (TTw cT cD) := by
  obtain ⟨f, fd, F, hm, hb⟩ := F.ex
  obtain ⟨oc, od, kV, doc, pm, an, cdv, ct, osl, e1, lk, hcd⟩ := F.ex
  subst e1
  exact ⟨f, _, _, _, .none, kV, doc, pm, cdv, ct, oc, an, od, osl, ["work", "e"], hm, F.kp, lk, hcd, hb, sc_p_law_wrong, rfl, .inl rfl, gives_wrong T e⟩
end
end K04
end
section
set_option Elab.async false
set_option linter.all false
set_option maxRecDepth 100000
set_option maxHeartbeats 4000000
local macro_rules | `(tactic| walk_at "p") => `(tactic| first | rfl | exact DL.ty_pure _ | assumption)
local macro_rules | `(tactic| walk_at "c") => `(tactic| first | (show _ ≠ (0 : Int); omega) | exact DL.cdiv_ok (by omega) (by omega) | exact DL.cmul_ok (by omega) (by omega) | exact DL.cpow_ok)
local macro_rules | `(tactic| walk_at "w") => `(tactic| first
  | with_reducible refine DL.w_cint ?_ | with_reducible refine DL.w_cstr ?_ | with_reducible refine DL.w_cbl ?_ | with_reducible refine DL.w_cnon ?_ | with_reducible refine DL.w_cty ?_
  | refine DL.w_var rfl ?_
  | with_reducible refine DL.w_tup ?_ | with_reducible refine DL.w_lst ?_ | with_reducible refine DL.w_call ?_ | with_reducible refine DL.w_isTL ?_ | with_reducible refine DL.w_cb ?_ | with_reducible refine DL.w_op ?_
  | with_reducible refine DL.wt_B ?_ | with_reducible refine DL.wt_test ?_ | with_reducible refine DL.wt_and ?_ | with_reducible refine DL.wt_or ?_ | with_reducible refine DL.wt_not ?_ | with_reducible refine DL.wt_yes ?_
  | with_reducible refine DL.w_and ?_ | with_reducible refine DL.w_or ?_ | with_reducible refine DL.w_not ?_ | with_reducible refine DL.w_if ?_
  | with_reducible refine DL.wa_nil ?_ | with_reducible refine DL.wa_cons ?_
  | with_reducible refine DL.w_sl ?_ | with_reducible refine DL.wo_none ?_ | with_reducible refine DL.wo_some ?_
  | with_reducible refine DL.ws_next ?_ | with_reducible refine DL.ws_seq ?_ | with_reducible refine DL.ws_if ?_ | with_reducible refine DL.ws_ret ?_ | with_reducible refine DL.ws_drop ?_ | with_reducible refine DL.ws_set ?_ | with_reducible refine DL.ws_par ?_ | with_reducible refine DL.ws_sub ?_ | refine DL.ws_tup2 rfl ?_
  | with_reducible refine DL.wr_I0 ?_ | with_reducible refine DL.wr_B0 ?_
  | with_reducible refine DL.wr_I (by walk_at "c") ?_
  | refine DL.wr_cat (DL.size_le (Nat.le_of_ble_eq_true rfl)) ?_
  | refine DL.wr_eqInt ?_ | refine DL.wr_eqBl ?_ | refine DL.wr_neBl ?_ | refine DL.wc_isiTyS ?_ | refine DL.wc_isiTyT ?_ | refine DL.wc_isStr (by walk_at "p") ?_ | refine DL.wc_isTup (by walk_at "p") ?_ | refine DL.wc_isLst (by walk_at "p") ?_ | refine DL.wc_isBool (by walk_at "p") ?_ | refine DL.wc_isInt (by walk_at "p") ?_ | with_reducible refine DL.wr_isNon ?_ | with_reducible refine DL.wr_notNon ?_
  | with_reducible refine DL.wsl_tup ?_ | with_reducible refine DL.wsl_lst ?_ | with_reducible refine DL.wr_ltStr ?_
  | refine DL.wr_hd ?_ | refine DL.wr_hdCell ?_ | refine DL.wr_hdFn ?_ | refine DL.wr_ixCell ?_ | refine DL.wr_ixFn1 ?_ | refine DL.wr_ixFn2 ?_ | refine DL.wr_ixT rfl ?_ | refine DL.wr_ixL rfl ?_ | refine DL.wr_inT0 rfl (DL.strs_flat _) ?_
  | refine DL.wr_ixF rfl ?_ | refine DL.wr_ixM (by assumption) rfl ?_ | refine DL.wr_ixM DL.Mem.set_same rfl ?_
  | refine ⟨_, _, _, _, rfl, rfl, by assumption, rfl, ?_⟩ | refine ⟨_, _, _, _, rfl, rfl, DL.Mem.set_same, rfl, ?_⟩
  | refine DL.wc_tupleL ?_ | refine DL.wc_tupleT ?_ | refine DL.wc_listT ?_
  | refine DL.wc_lenF ?_ | refine DL.wc_lenT ?_ | refine DL.wc_lenL ?_ | refine DL.wc_int ?_
  | with_reducible refine ⟨_, rfl, ?_⟩
  | refine ⟨_, _, rfl, ?_⟩
  | with_reducible refine DL.iteT' rfl ?_ | with_reducible refine DL.iteF' rfl ?_
  | refine DL.iteT' (by assumption) ?_ | refine DL.iteF' (by assumption) ?_ | refine DL.iteT' (by decide +kernel) ?_ | refine DL.iteF' (by decide +kernel) ?_ | refine DL.iteT' rfl ?_ | refine DL.iteF' rfl ?_ | refine ⟨rfl, ?_⟩
  | refine ⟨DL.size_le (Nat.le_of_ble_eq_true rfl), ?_⟩ | refine ⟨by decide +kernel, ?_⟩)
local macro_rules | `(tactic| walk_at "g") => `(tactic| repeat walk_at "w")
local macro_rules | `(tactic| walk_at "b") => `(tactic| repeat (first
  | with_reducible exact ⟨rfl, rfl⟩
  | ((with_reducible apply DL.w_andP); (· walk_at "b"); (· walk_at "b")) | ((with_reducible apply DL.w_orP); (· walk_at "b"); (· walk_at "b"))
  | ((with_reducible apply DL.wt_andP); (· walk_at "b"); (· walk_at "b")) | ((with_reducible apply DL.wt_orP); (· walk_at "b"); (· walk_at "b"))
  | walk_at "w"))
namespace K04
open PySem PySem.Spec PyProof.Rows L2 DL
def nmL : Nat → Nat → Str := fun _ _ => "law.<locals>.<lambda>"
abbrev lawN : List Str := ["script", "turn", "one", "other", "near", "deep", "odd", "works", "words", "drawn", "due", "bad", "design", "row", "word"]
/-- the parts of a lambda's text -/
def lamOf : Expr → Arguments × Expr × Scope
  | .Lambda p b s _ => (p, b, s)
  | _ => (defArgs s_law, .Constant .none 0 ⟨0, 0, 0, 0⟩, defScope s_law)
def stE : Stmt → Expr
  | .Assign _ v _ => v
  | .Return (some v) _ => v
  | _ => .Constant .none 0 ⟨0, 0, 0, 0⟩
def eltE (i : Nat) : Expr → Expr
  | .List es _ => es.getD i (.Constant .none 0 ⟨0, 0, 0, 0⟩)
  | .Call _ es _ _ => es.getD i (.Constant .none 0 ⟨0, 0, 0, 0⟩)
  | .Compare a _ _ _ => a
  | e => e
abbrev la1 : Arguments × Expr × Scope := lamOf (eltE 0 (stE ((defBody s_law).getD 7 (.Pass ⟨0, 0, 0, 0⟩))))
abbrev la2 : Arguments × Expr × Scope := lamOf (eltE 1 (stE ((defBody s_law).getD 7 (.Pass ⟨0, 0, 0, 0⟩))))
abbrev la3 : Arguments × Expr × Scope := lamOf (eltE 0 (eltE 0 (stE ((defBody s_law).getD 13 (.Pass ⟨0, 0, 0, 0⟩)))))
abbrev mkF (X : Cx) (l : Arguments × Expr × Scope) (dvs : List V) (c' : Addr) (dV : Value) : LF := ⟨X.env.qual ++ "<lambda>", l.1, l.2.1, l.2.2, cloFrom X.env.cells l.2.2.names [], c', dV, dvs⟩
section
variable {P : Program} {w : World} {K : PySem.W.Frag} {mg : Str → Option Value} {base : Heap} {aP aW : Addr} {cD cT Pt : Addr}
abbrev lawCx (P : Program) (w : World) (K : PySem.W.Frag) (mg : Str → Option Value) (base : Heap) (f c : Addr) (A : Around) (outer : List PySem.Env) (s : Shared) (H : Hp) : Cx := (cxOf CX0 P w K mg base lawN "law" (defScope s_law) f (.ref c) A outer s H (fun _ _ _ => False)).nox
theorem lamS1 : LamP (defScope s_law) la1.2.2 ["a"] := lamP_by (by decide +kernel)
theorem lamS2 : LamP (defScope s_law) la2.2.2 ["a"] := lamP_by (by decide +kernel)
theorem lamS3 : LamP (defScope s_law) la3.2.2 ["a"] := lamP_by (by decide +kernel)
theorem lawHps : ∀ p ∈ (["a"] : List Str), p ∉ lawN := by decide
/-- what the lambdas of works read -/
abbrev tb1 (K : PySem.W.Frag) (cD cT Pt : Addr) : XK → TE := fun E => tCall (spOfX K (R_lies cD cT Pt)) [] E (tCons (tVar 12) (tCons (tVar 11) (tCons (tC (.str "num")) tNil)))
abbrev tb2 (K : PySem.W.Frag) (cD cT Pt : Addr) : XK → TE := fun E => tCall (spOfX K (R_lies cD cT Pt)) [] E (tCons (tVar 12) (tCons (tC (.str "num")) (tCons (tVar 11) tNil)))
def Bod1 (X : Cx) (cD cT Pt : Addr) (F : LF) (tb : XK → TE) : Prop := ∃ c' dV, (F = mkF X la1 [] c' dV ∧ dV = .none ∧ tb = tb1 X.K cD cT Pt) ∨ (F = mkF X la2 [.int 0] c' dV ∧ (∃ d, dV = .ref d) ∧ tb = tb2 X.K cD cT Pt)
theorem hB1 {f c : Addr} {A : Around} {outer : List PySem.Env} {s : Shared} {H : Hp} (c_lies_within : Cal P w K mg base (L2.CX P w) 23 "lies_within" ["design", "one", "other"] (spOfX K (R_lies cD cT Pt))) :
    ∀ F tb, Bod1 (lawCx P w K mg base f c A outer s H) cD cT Pt F tb → LamP (lawCx P w K mg base f c A outer s H).env.scope F.scope ["a"] ∧ F.qual = (lawCx P w K mg base f c A outer s H).env.qual ++ "<lambda>" ∧ F.cl = cloFrom (lawCx P w K mg base f c A outer s H).env.cells F.scope.names [] ∧ LamB F ["a"] ∧
      ∀ (A' : Around) (outer' : List PySem.Env) (s' : Shared) (H' : Hp) (E : XK) (f' c' : Addr), Room 23 (A'.deeper (LamX.lamEnv (lawCx P w K mg base f c A outer s H) F.scope s'.heap.objs.size f' c')) → PE (LamX.lamCx (lawCx P w K mg base f c A outer s H) A' outer' s' H' E F.scope f' c') F.body (tb E) := by
  rintro F tb ⟨c0, dV, h | h⟩
  · obtain ⟨rfl, rfl, rfl⟩ := h
    refine ⟨lamP_by (show lamPB (defScope s_law) la1.2.2 ["a"] = true by decide +kernel), rfl, rfl, fun s1 doc pm ctv _ => ⟨[], fun y hy => (nomatch hy), BindsTo.of_eq rfl⟩, fun A' outer' s' H' E f' c' hr => ?_⟩
    exact pe_cal c_lies_within hr (passX (takes_of rfl rfl rfl rfl)) (pa_cons (pv 12) (pa_cons (pv 11) (pa_cons pe_str pa_nil)))
  · obtain ⟨rfl, ⟨d, rfl⟩, rfl⟩ := h
    refine ⟨lamP_by (show lamPB (defScope s_law) la2.2.2 ["a"] = true by decide +kernel), rfl, rfl, fun s1 doc pm ctv h => ?_, fun A' outer' s' H' E f' c' hr => ?_⟩
    · rcases h with z | ⟨d', its, e, ⟨o, ho, hc, n, hd⟩, r⟩
      · cases z
      · cases e
        cases r with
        | cons r1 r2 =>
          cases r2
          rename_i u
          refine ⟨[("a", u)], fun y hy => ?_, BindsTo.of_defaults rfl ho hd rfl rfl⟩
          rw [List.mem_singleton] at hy
          subst hy
          show la2.2.2.names.lookup ("a" : Str) = some NameKind.local
          decide +kernel
    · exact pe_cal c_lies_within hr (passX (takes_of rfl rfl rfl rfl)) (pa_cons (pv 12) (pa_cons pe_str (pa_cons (pv 11) pa_nil)))
/-- what the last lambda reads -/
abbrev tl3 : TE := tLst (tCons (tC .non) (tCons (tC (.str "put")) (tCons (tLst (tCons (tC (.str "put")) tNil)) (tCons (tTup (tCons (tC (.str "share")) (tCons (tC (.str "put")) tNil))) (tCons (tTup (tCons (tC (.str "put")) (tCons (tC (.str "put")) tNil))) (tCons (tTup (tCons (tC .non) tNil)) tNil))))))
abbrev tb3 (K : PySem.W.Frag) (cD cT Pt : Addr) : XK → TE := fun E => tCall (spOfX K (R_lies cD cT Pt)) [] E (tCons (tCall (spOf K R_pick) [] E0 (tCons (tVar 13) (tCons tl3 tNil))) (tCons (tC .non) (tCons (tC .non) tNil)))
def Bod2 (X : Cx) (cD cT Pt : Addr) (F : LF) (tb : XK → TE) : Prop := ∃ c' dV, F = mkF X la3 [] c' dV ∧ dV = .none ∧ tb = tb3 X.K cD cT Pt
theorem hB2 {f c : Addr} {A : Around} {outer : List PySem.Env} {s : Shared} {H : Hp} (c_lies_within : Cal P w K mg base (L2.CX P w) 23 "lies_within" ["design", "one", "other"] (spOfX K (R_lies cD cT Pt))) (c_p_law_pick : Cal P w K mg base CX0 2 "_law_pick" ["row", "kinds"] (spOf K R_pick)) :
    ∀ F tb, Bod2 (lawCx P w K mg base f c A outer s H) cD cT Pt F tb → LamP (lawCx P w K mg base f c A outer s H).env.scope F.scope ["a"] ∧ F.qual = (lawCx P w K mg base f c A outer s H).env.qual ++ "<lambda>" ∧ F.cl = cloFrom (lawCx P w K mg base f c A outer s H).env.cells F.scope.names [] ∧ LamB F ["a"] ∧
      ∀ (A' : Around) (outer' : List PySem.Env) (s' : Shared) (H' : Hp) (E : XK) (f' c' : Addr), Room 23 (A'.deeper (LamX.lamEnv (lawCx P w K mg base f c A outer s H) F.scope s'.heap.objs.size f' c')) → PE (LamX.lamCx (lawCx P w K mg base f c A outer s H) A' outer' s' H' E F.scope f' c') F.body (tb E) := by
  rintro F tb ⟨c0, dV, rfl, rfl, rfl⟩
  refine ⟨lamP_by (show lamPB (defScope s_law) la3.2.2 ["a"] = true by decide +kernel), rfl, rfl, fun s1 doc pm ctv _ => ⟨[], fun y hy => (nomatch hy), BindsTo.of_eq rfl⟩, fun A' outer' s' H' E f' c' hr => ?_⟩
  exact pe_cal c_lies_within hr (passX (takes_of rfl rfl rfl rfl)) (pa_cons (pe_cal c_p_law_pick (hr.mono (by omega)) pass0 (pa_cons (pv 13) (pa_cons (pe_lst (pa_cons pe_non (pa_cons pe_str (pa_cons (pe_lst (pa_cons pe_str pa_nil)) (pa_cons (pe_tup (pa_cons pe_str (pa_cons pe_str pa_nil))) (pa_cons (pe_tup (pa_cons pe_str (pa_cons pe_str pa_nil))) (pa_cons (pe_tup (pa_cons pe_non pa_nil)) pa_nil))))))) pa_nil))) (pa_cons pe_non (pa_cons pe_non pa_nil)))
/-- _law_wrong(e), e a lambda that calls lies_within -/
theorem w_wrong {ρ : DL.Env} {m : Mem} {Pp : D → Mem → Prop} {te : TE} {Bod : LF → (XK → TE) → Prop} {R : SdX} (h : W K te ρ m fun d m1 => ∃ f F, d = .ref f ∧ m1 f = some (.fn F) ∧ ∃ tr, Bod F (fun E => tCall (spOfX K R) [] E tr) ∧
    WA K tr ρ m1 fun ds m2 => R ds m2 (fun _ m' => Pp (.str "") m') (fun cls m' => (cls = .ref cT ∧ Pp (.str "type") m') ∨ (cls = .ref cD ∧ Pp (.str "design") m'))) : W K (tWrong Bod (TTw cT cD) te) ρ m Pp := fun b σ H s ok Q q =>
  h b σ H s ok _ fun v d m1 H1 ⟨f, F, e, hm, tr, hB, hw⟩ st1 ok1 r => by
    subst e
    cases r
    have hf := ok1.has f _ hm
    refine ⟨f, F, _, rfl, hB, ?_⟩
    refine ⟨⟨hf.1, hf.2.1.1, hf.2.2.imp id fun ⟨d, a, b, c⟩ => ⟨d, a, b⟩⟩, run_callX hw (s.step st1 fun _ z => z) ok1 (fun cls m' H' hx st ok' => ⟨rfl, ?_⟩) fun v d m' H' hp st ok' r' => ?_⟩
    · rcases hx with ⟨e, p⟩ | ⟨e, p⟩
      · exact .inl ⟨e, q _ _ m' H' p (st1.trans st) ok' (.str _)⟩
      · exact .inr ⟨e, q _ _ m' H' p (st1.trans st) ok' (.str _)⟩
    · exact q _ _ m' H' hp (st1.trans st) ok' (.str _)
theorem RowStep.keep {r a : Addr} {m m' : Mem} (st : RowStep r m m') (h : a ≠ r) : m' a = m a := by
  obtain ⟨_, o, rfl⟩ := st
  exact Mem.set_ne h
end
end K04
end
section
set_option Elab.async false
set_option linter.all false
set_option maxRecDepth 100000
set_option maxHeartbeats 4000000
local macro_rules | `(tactic| walk_at "p") => `(tactic| first | rfl | exact DL.ty_pure _ | assumption)
local macro_rules | `(tactic| walk_at "c") => `(tactic| first | (show _ ≠ (0 : Int); omega) | exact DL.cdiv_ok (by omega) (by omega) | exact DL.cmul_ok (by omega) (by omega) | exact DL.cpow_ok)
local macro_rules | `(tactic| walk_at "w") => `(tactic| first
  | with_reducible refine DL.w_cint ?_ | with_reducible refine DL.w_cstr ?_ | with_reducible refine DL.w_cbl ?_ | with_reducible refine DL.w_cnon ?_ | with_reducible refine DL.w_cty ?_
  | refine DL.w_var rfl ?_
  | with_reducible refine DL.w_tup ?_ | with_reducible refine DL.w_lst ?_ | with_reducible refine DL.w_call ?_ | with_reducible refine DL.w_isTL ?_ | with_reducible refine DL.w_cb ?_ | with_reducible refine DL.w_op ?_
  | with_reducible refine DL.wt_B ?_ | with_reducible refine DL.wt_test ?_ | with_reducible refine DL.wt_and ?_ | with_reducible refine DL.wt_or ?_ | with_reducible refine DL.wt_not ?_ | with_reducible refine DL.wt_yes ?_
  | with_reducible refine DL.w_and ?_ | with_reducible refine DL.w_or ?_ | with_reducible refine DL.w_not ?_ | with_reducible refine DL.w_if ?_
  | with_reducible refine DL.wa_nil ?_ | with_reducible refine DL.wa_cons ?_
  | with_reducible refine DL.w_sl ?_ | with_reducible refine DL.wo_none ?_ | with_reducible refine DL.wo_some ?_
  | with_reducible refine DL.ws_next ?_ | with_reducible refine DL.ws_seq ?_ | with_reducible refine DL.ws_if ?_ | with_reducible refine DL.ws_ret ?_ | with_reducible refine DL.ws_drop ?_ | with_reducible refine DL.ws_set ?_ | with_reducible refine DL.ws_par ?_ | with_reducible refine DL.ws_sub ?_ | refine DL.ws_tup2 rfl ?_
  | with_reducible refine DL.wr_I0 ?_ | with_reducible refine DL.wr_B0 ?_
  | with_reducible refine DL.wr_I (by walk_at "c") ?_
  | refine DL.wr_cat (DL.size_le (Nat.le_of_ble_eq_true rfl)) ?_
  | refine DL.wr_eqInt ?_ | refine DL.wr_eqBl ?_ | refine DL.wr_neBl ?_ | refine DL.wc_isiTyS ?_ | refine DL.wc_isiTyT ?_ | refine DL.wc_isStr (by walk_at "p") ?_ | refine DL.wc_isTup (by walk_at "p") ?_ | refine DL.wc_isLst (by walk_at "p") ?_ | refine DL.wc_isBool (by walk_at "p") ?_ | refine DL.wc_isInt (by walk_at "p") ?_ | with_reducible refine DL.wr_isNon ?_ | with_reducible refine DL.wr_notNon ?_
  | with_reducible refine DL.wsl_tup ?_ | with_reducible refine DL.wsl_lst ?_ | with_reducible refine DL.wr_ltStr ?_
  | refine DL.wr_hd ?_ | refine DL.wr_hdCell ?_ | refine DL.wr_hdFn ?_ | refine DL.wr_ixCell ?_ | refine DL.wr_ixFn1 ?_ | refine DL.wr_ixFn2 ?_ | refine DL.wr_ixT rfl ?_ | refine DL.wr_ixL rfl ?_ | refine DL.wr_inT0 rfl (DL.strs_flat _) ?_
  | refine DL.wr_ixF rfl ?_ | refine DL.wr_ixM (by assumption) rfl ?_ | refine DL.wr_ixM DL.Mem.set_same rfl ?_
  | refine ⟨_, _, _, _, rfl, rfl, by assumption, rfl, ?_⟩ | refine ⟨_, _, _, _, rfl, rfl, DL.Mem.set_same, rfl, ?_⟩
  | refine DL.wc_tupleL ?_ | refine DL.wc_tupleT ?_ | refine DL.wc_listT ?_
  | refine DL.wc_lenF ?_ | refine DL.wc_lenT ?_ | refine DL.wc_lenL ?_ | refine DL.wc_int ?_
  | with_reducible refine ⟨_, rfl, ?_⟩
  | refine ⟨_, _, rfl, ?_⟩
  | with_reducible refine DL.iteT' rfl ?_ | with_reducible refine DL.iteF' rfl ?_
  | refine DL.iteT' (by assumption) ?_ | refine DL.iteF' (by assumption) ?_ | refine DL.iteT' (by decide +kernel) ?_ | refine DL.iteF' (by decide +kernel) ?_ | refine DL.iteT' rfl ?_ | refine DL.iteF' rfl ?_ | refine ⟨rfl, ?_⟩
  | refine ⟨DL.size_le (Nat.le_of_ble_eq_true rfl), ?_⟩ | refine ⟨by decide +kernel, ?_⟩)
local macro_rules | `(tactic| walk_at "g") => `(tactic| repeat walk_at "w")
local macro_rules | `(tactic| walk_at "b") => `(tactic| repeat (first
  | with_reducible exact ⟨rfl, rfl⟩
  | ((with_reducible apply DL.w_andP); (· walk_at "b"); (· walk_at "b")) | ((with_reducible apply DL.w_orP); (· walk_at "b"); (· walk_at "b"))
  | ((with_reducible apply DL.wt_andP); (· walk_at "b"); (· walk_at "b")) | ((with_reducible apply DL.wt_orP); (· walk_at "b"); (· walk_at "b"))
  | walk_at "w"))
namespace K04
open PySem PySem.Spec PyProof.Rows L2 DL
abbrev words17 : List Str := words ++ (["any", "put checked", ""] : List Str)
section
variable {K : PySem.W.Frag} {Pt PL r : Addr} {m : Mem} {P : D → Mem → Prop} {ρ : DL.Env} {xs : List Str}
theorem words_ok : ∀ x ∈ words17, PyData.strOk x = true := by
  have h : words17.all PyData.strOk = true := by decide +kernel
  exact fun x hx => List.all_eq_true.mp h x hx
theorem w_drawn (h8 : (wipeD ρ [1])[8]? = some (some (.lst (words17.map D.str)))) (h13 : ρ[13]? = some (some (.ref r))) (h13' : (wipeD ρ [1])[13]? = some (some (.ref r))) (nT : Pt ≠ r) (nL : PL ≠ r) (ok5 : RowOk r m) (hT5 : m Pt = some .tab) (hL5 : m PL = some (.tabN nmL))
    (k : ∀ (xs : List Str) m', xs.length ≤ 60 → (∀ x ∈ xs, PyData.strOk x = true) → RowOk r m' → m' Pt = some .tab → m' PL = some (.tabN nmL) → P (.lst (xs.map D.str)) m') :
    W K (tLc (iRng1 (tCons (tCall (spOf K R_taken) [] E0 (tCons (tVar 13) (tCons (tC (V.int 4)) tNil))) tNil)) (gName 1) tYes (tCall (spOf K R_pick) [] E0 (tCons (tVar 13) (tCons (tVar 8) tNil))) [1]) ρ m P := by
  refine w_lcR (fun i m' acc => RowOk r m' ∧ m' Pt = some .tab ∧ m' PL = some (.tabN nmL) ∧ ∃ xs : List Str, acc = xs.map D.str ∧ xs.length = i ∧ ∀ x ∈ xs, PyData.strOk x = true) (by decide) ?_
  refine wa_cons (w_call (wa_cons (w_var h13 (wa_cons (w_cint (wa_nil ⟨r, 4, rfl, by decide, by decide, ok5, fun v m6 v0 v1 st6 => ?_⟩))))))
  obtain ⟨n, rfl⟩ := Int.eq_ofNat_of_zero_le v0
  refine wa_nil ⟨n, rfl, by omega, ⟨st6.1, by rw [RowStep.keep st6 nT]; exact hT5, by rw [RowStep.keep st6 nL]; exact hL5, [], rfl, rfl, fun _ z => nomatch z⟩, fun i m7 acc hi hI => ?_, fun m7 acc hI => ?_⟩
  · obtain ⟨okr, hT, hL, xs, rfl, hl, hw⟩ := hI
    have len : (wipeD ρ [1]).length = ρ.length := by simp [wipeD]
    refine wt_yes (iteT' rfl (w_call (wa_cons (w_var (d := .ref r) ?_ (wa_cons (w_var (d := .lst (words17.map D.str)) ?_ (wa_nil ⟨r, _, rfl, by decide, by decide, okr, fun v m8 hv st8 => ?_⟩)))))))
    · rw [List.getElem?_set_ne (by decide)]
      exact h13'
    · rw [List.getElem?_set_ne (by decide)]
      exact h8
    · obtain ⟨y, hy, rfl⟩ := List.mem_map.mp hv
      exact ⟨st8.1, by rw [RowStep.keep st8 nT]; exact hT, by rw [RowStep.keep st8 nL]; exact hL, xs ++ [y], by rw [List.map_append]; rfl, by rw [List.length_append, hl]; rfl, fun z hz => (List.mem_append.mp hz).elim (hw z) fun e => by rw [List.mem_singleton.mp e]; exact words_ok y hy⟩
  · obtain ⟨ok7, hT7, hL7, xs, rfl, hl, hw⟩ := hI
    exact k xs m7 (by omega) hw ok7 hT7 hL7
theorem cut14 : cutD (words17.map D.str) none (some 14) = words.map D.str := by rfl
/-- no word from outside -/
theorem w_due1 (h9 : ρ[9]? = some (some (.tup (xs.map D.str)))) (h8 : ∀ x : D, ((wipeD ρ [14]).set 14 (some x))[8]? = some (some (.lst (words17.map D.str)))) (h14 : ∀ x : D, ((wipeD ρ [14]).set 14 (some x))[14]? = some (some x)) (hx : xs.length ≤ 60) (hw : ∀ x ∈ xs, PyData.strOk x = true) :
    W K (tOp (rEqD K) (tLc (iTup K (tVar 9)) (gName 14) (tTest (tOp (rIn K true) (tVar 14) (tSl (rSlL K) (tVar 8) tNoPart (tPart (tC (V.int 14)))))) (tVar 14) [14]) (tLst tNil)) ρ m (IsB (xs.all (fun w => inD (.str w) (words.map D.str))) m) := by
  refine w_op (w_lcT (fun i m' acc => m' = m ∧ acc = ((xs.take i).filter (fun w => !inD (.str w) (words.map D.str))).map D.str) (by decide) (w_var h9 ⟨_, rfl, by rw [List.length_map]; omega, ⟨rfl, rfl⟩, fun i x m' acc hx' hI => ?_, fun m' acc hI => ?_⟩))
  · obtain ⟨rfl, rfl⟩ := hI
    rw [List.getElem?_map] at hx'
    obtain ⟨y, hy, rfl⟩ := Option.map_eq_some_iff.mp hx'
    refine wt_test (w_op (w_var (h14 _) (w_sl (w_var (h8 _) (wo_none (wo_some (w_cint ⟨14, rfl, wsl_lst ?_⟩)))))))
    rw [cut14]
    refine wr_inL1 rfl (strs_flat _) ⟨_, rfl, ?_⟩
    have key : (xs.take (i + 1)).filter (fun w => !inD (.str w) (words.map D.str)) = (xs.take i).filter (fun w => !inD (.str w) (words.map D.str)) ++ (if (!inD (.str y) (words.map D.str)) = true then [y] else []) := by
      rw [List.take_succ, hy, List.filter_append]
      cases h : (!inD (.str y) (words.map D.str)) <;> simp [h]
    cases h : (!inD (.str y) (words.map D.str)) with
    | true =>
      refine iteT' rfl (w_var (h14 _) ⟨rfl, ?_⟩)
      rw [key, h, if_pos rfl, List.map_append]
      rfl
    | false =>
      refine iteF' rfl ⟨rfl, ?_⟩
      rw [key, h, if_neg Bool.false_ne_true, List.append_nil]
  · obtain ⟨rfl, rfl⟩ := hI
    rw [List.length_map, List.take_length]
    refine w_lst (wa_nil ⟨Nat.zero_le _, wr_eqD (cmp_strs _ fun y hy => hw y (List.mem_filter.mp hy).1) (cmp_strs [] fun _ z => nomatch z) ⟨?_, rfl⟩⟩)
    refine (congrArg D.bl (eqv_strs _ [])).trans ?_
    congr 1
    rw [Bool.eq_iff_iff, decide_eq_true_iff, List.filter_eq_nil_iff, List.all_eq_true]
    simp
theorem ascS_iff : ∀ xs : List Str, ascS xs = true ↔ xs.Pairwise (fun a b : Str => a.cps.toList < b.cps.toList)
  | [] => by simp [ascS]
  | [a] => by simp [ascS]
  | a :: b :: l => by
    have ih := ascS_iff (b :: l)
    show (ltS a b && ascS (b :: l)) = true ↔ _
    rw [Bool.and_eq_true, ih, List.pairwise_cons (a := a)]
    refine and_congr_left fun h => ?_
    have e : ltS a b = true ↔ a.cps.toList < b.cps.toList := decide_eq_true_iff
    rw [e]
    refine ⟨fun q c hc => ?_, fun q => q b (by simp)⟩
    rcases List.mem_cons.mp hc with rfl | hc
    · exact q
    · exact lt_cps q ((List.pairwise_cons.mp h).1 c hc)
theorem w_due2 (h9 : ρ[9]? = some (some (.tup (xs.map D.str)))) (hx : xs.length ≤ 60) (hw : ∀ x ∈ xs, PyData.strOk x = true) :
    W K (tOp (rEqD K) (tCB (rListOf K) (tCons (tVar 9) tNil)) (tSortSet K (tVar 9))) ρ m (IsB (ascS xs) m) := by
  refine w_op (w_cb (wa_cons (w_var h9 (wa_nil (wc_listT (w_sortSet (w_var h9 ⟨xs, rfl, hx, fun ys mem so => wr_eqD (cmp_strs _ hw) (cmp_strs _ fun y hy => hw y ((mem y).mp hy)) ⟨?_, rfl⟩⟩)))))))
  rw [eqv_strs]
  congr 1
  rw [Bool.eq_iff_iff, decide_eq_true_iff, ascS_iff]
  exact sorted_eq mem so
theorem isDes_strs (xs : List Str) : isDes (.tup (xs.map D.str)) = (xs.all (fun w => inD (.str w) (words.map D.str)) && ascS xs) := by
  show ((xs.map D.str).all (fun d => inD d (words.map D.str)) && ascD (xs.map D.str)) = _
  rw [List.all_map]
  unfold ascD
  rw [List.map_map, show strOf ∘ D.str = id from rfl, List.map_id]
  rfl
theorem pures_strs : ∀ ws : List Str, pures (ws.map D.str) = true
  | [] => rfl
  | _ :: ws => pures_strs ws
theorem flt_strs {ws : List Str} (h : ws.length ≤ 1000) : ∀ es, D.tup (ws.map D.str) = .tup es → es.all flatD = true ∧ es.length ≤ 1000 := fun es e => by
  injection e with e
  subst e
  refine ⟨strs_flat _, ?_⟩
  rw [List.length_map]
  exact h
theorem sub_len {ws : List Str} (sub : ws.Sublist words) : ws.length ≤ 1000 := Nat.le_trans sub.length_le (by decide)
theorem w_if3 {ws : List Str} (h9 : ρ[9]? = some (some (.tup (xs.map D.str)))) (h10 : ρ[10]? = some (some (.bl (xs.all (fun w => inD (.str w) (words.map D.str)) && ascS xs)))) (h12 : ρ[12]? = some (some (.tup (ws.map D.str)))) (hx : xs.length ≤ 60) (sub : ws.Sublist words) (hT : m Pt = some .tab) :
    WT K (tOr (tNot (tB (tCall (spOf K R_alikeB) [] E0 (tCons (tCall (spOf K (R_isdes Pt)) [] E0 (tCons (tVar 9) tNil)) (tCons (tVar 10) tNil))))) (tOr (tTest (tOp rNotB (tCall (spOf K (R_isdes Pt)) [] E0 (tCons (tVar 12) tNil)) (tC (.bl true)))) (tTest (tOp rNotB (tCall (spOf K (R_isdes Pt)) [] E0 (tCons (tCB (rListOf K) (tCons (tVar 12) tNil)) tNil)) (tC (.bl false)))))) ρ m (IsT false m) := by
  refine wt_orP (x := false) (y := false) ?_ (wt_orP (x := false) (y := false) ?_ ?_ ⟨rfl, rfl⟩) ⟨rfl, rfl⟩
  · refine wt_not (wt_B (w_call (wa_cons (w_call (wa_cons (w_var h9 (wa_nil ⟨_, rfl, pures_strs xs, flt_strs (by omega), hT, ?_⟩)))))))
    rw [isDes_strs]
    refine wa_cons (w_var h10 (wa_nil ⟨_, _, rfl, ?_⟩))
    rw [decide_eq_true rfl]
    exact ⟨_, rfl, rfl, rfl⟩
  · refine wt_test (w_op (w_call (wa_cons (w_var h12 (wa_nil ⟨_, rfl, pures_strs ws, flt_strs (sub_len sub), hT, ?_⟩)))))
    rw [des_ok sub]
    exact w_cbl (wr_notB ⟨_, rfl, rfl, rfl⟩)
  · refine wt_test (w_op (w_call (wa_cons (w_cb (wa_cons (w_var h12 (wa_nil (wc_listT (wa_nil ⟨_, rfl, pures_strs ws, (fun es e => nomatch e), hT, ?_⟩)))))))))
    exact w_cbl (wr_notB ⟨_, rfl, rfl, rfl⟩)
abbrev noDes : List D := [.non, .str "put", .lst [.str "put"], .tup [.str "share", .str "put"], .tup [.str "put", .str "put"], .tup [.non]]
theorem noDes_ok : ∀ v ∈ noDes, pure v = true ∧ isDes v = false ∧ ∀ es, v = .tup es → es.all flatD = true ∧ es.length ≤ 1000 := by
  intro v hv
  simp only [List.mem_cons, List.not_mem_nil, or_false] at hv
  rcases hv with rfl | rfl | rfl | rfl | rfl | rfl
  · exact ⟨rfl, rfl, fun es e => nomatch e⟩
  · exact ⟨rfl, rfl, fun es e => nomatch e⟩
  · exact ⟨rfl, rfl, fun es e => nomatch e⟩
  · refine ⟨rfl, by decide +kernel, fun es e => ?_⟩
    cases e
    exact ⟨rfl, by decide⟩
  · refine ⟨rfl, by decide +kernel, fun es e => ?_⟩
    cases e
    exact ⟨rfl, by decide⟩
  · refine ⟨rfl, by decide +kernel, fun es e => ?_⟩
    cases e
    exact ⟨rfl, by decide⟩
variable {cT cD : Addr}
theorem w_last {X : Cx} {Pp : D → Mem → Prop} (hK : X.K = K) (h13 : ρ[13]? = some (some (.ref r))) (nT : Pt ≠ r) (okr : RowOk r m) (hT : m Pt = some .tab) (hL : m PL = some (.tabN nmL)) (k : ∀ m', Pp (.str "design") m') :
    W K (tWrong (Bod2 X cD cT Pt) (TTw cT cD) (tLamD K PL nmL [] (mkF X la3 []))) ρ m Pp := by
  subst hK
  refine w_wrong (R := R_lies cD cT Pt) (w_lamA hL fun f c' dV m1 nf d1 _ e1 k1 => ?_)
  have nTf : Pt ≠ f := fun z => by rw [z, nf] at hT; cases hT
  have nrf : f ≠ r := fun z => by
    obtain ⟨_, _, _, _, q, _⟩ := okr
    rw [← z, nf] at q
    cases q
  have hT1 : m1 Pt = some .tab := by rw [k1 _ nTf]; exact hT
  have ok1 : RowOk r m1 := by
    obtain ⟨a, b, c, d, q, z⟩ := okr
    exact ⟨a, b, c, d, (k1 _ (Ne.symm nrf)).trans q, z⟩
  refine ⟨f, _, rfl, e1, _, ⟨c', dV, rfl, d1 rfl, rfl⟩, ?_⟩
  refine wa_cons (w_call (wa_cons (w_var h13 (wa_cons ?_))))
  walk_at "g"
  refine ⟨ok1, fun v m2 hv st2 => ?_⟩
  obtain ⟨pv, dv, fv⟩ := noDes_ok v hv
  have hT2 : m2 Pt = some .tab := by rw [RowStep.keep st2 nT]; exact hT1
  walk_at "g"
  refine ⟨v, .non, .non, rfl, pv, fv, hT2, fun _ => .inr ⟨rfl, k m2⟩, fun e => ?_⟩
  rw [dv] at e
  cases e
end
end K04
end
section
set_option Elab.async false
set_option linter.all false
set_option maxRecDepth 100000
set_option maxHeartbeats 4000000
local macro_rules | `(tactic| walk_at "p") => `(tactic| first | rfl | exact DL.ty_pure _ | assumption)
local macro_rules | `(tactic| walk_at "c") => `(tactic| first | (show _ ≠ (0 : Int); omega) | exact DL.cdiv_ok (by omega) (by omega) | exact DL.cmul_ok (by omega) (by omega) | exact DL.cpow_ok)
local macro_rules | `(tactic| walk_at "w") => `(tactic| first
  | with_reducible refine DL.w_cint ?_ | with_reducible refine DL.w_cstr ?_ | with_reducible refine DL.w_cbl ?_ | with_reducible refine DL.w_cnon ?_ | with_reducible refine DL.w_cty ?_
  | refine DL.w_var rfl ?_
  | with_reducible refine DL.w_tup ?_ | with_reducible refine DL.w_lst ?_ | with_reducible refine DL.w_call ?_ | with_reducible refine DL.w_isTL ?_ | with_reducible refine DL.w_cb ?_ | with_reducible refine DL.w_op ?_
  | with_reducible refine DL.wt_B ?_ | with_reducible refine DL.wt_test ?_ | with_reducible refine DL.wt_and ?_ | with_reducible refine DL.wt_or ?_ | with_reducible refine DL.wt_not ?_ | with_reducible refine DL.wt_yes ?_
  | with_reducible refine DL.w_and ?_ | with_reducible refine DL.w_or ?_ | with_reducible refine DL.w_not ?_ | with_reducible refine DL.w_if ?_
  | with_reducible refine DL.wa_nil ?_ | with_reducible refine DL.wa_cons ?_
  | with_reducible refine DL.w_sl ?_ | with_reducible refine DL.wo_none ?_ | with_reducible refine DL.wo_some ?_
  | with_reducible refine DL.ws_next ?_ | with_reducible refine DL.ws_seq ?_ | with_reducible refine DL.ws_if ?_ | with_reducible refine DL.ws_ret ?_ | with_reducible refine DL.ws_drop ?_ | with_reducible refine DL.ws_set ?_ | with_reducible refine DL.ws_par ?_ | with_reducible refine DL.ws_sub ?_ | refine DL.ws_tup2 rfl ?_
  | with_reducible refine DL.wr_I0 ?_ | with_reducible refine DL.wr_B0 ?_
  | with_reducible refine DL.wr_I (by walk_at "c") ?_
  | refine DL.wr_cat (DL.size_le (Nat.le_of_ble_eq_true rfl)) ?_
  | refine DL.wr_eqInt ?_ | refine DL.wr_eqBl ?_ | refine DL.wr_neBl ?_ | refine DL.wc_isiTyS ?_ | refine DL.wc_isiTyT ?_ | refine DL.wc_isStr (by walk_at "p") ?_ | refine DL.wc_isTup (by walk_at "p") ?_ | refine DL.wc_isLst (by walk_at "p") ?_ | refine DL.wc_isBool (by walk_at "p") ?_ | refine DL.wc_isInt (by walk_at "p") ?_ | with_reducible refine DL.wr_isNon ?_ | with_reducible refine DL.wr_notNon ?_
  | with_reducible refine DL.wsl_tup ?_ | with_reducible refine DL.wsl_lst ?_ | with_reducible refine DL.wr_ltStr ?_
  | refine DL.wr_hd ?_ | refine DL.wr_hdCell ?_ | refine DL.wr_hdFn ?_ | refine DL.wr_ixCell ?_ | refine DL.wr_ixFn1 ?_ | refine DL.wr_ixFn2 ?_ | refine DL.wr_ixT rfl ?_ | refine DL.wr_ixL rfl ?_ | refine DL.wr_inT0 rfl (DL.strs_flat _) ?_
  | refine DL.wr_ixF rfl ?_ | refine DL.wr_ixM (by assumption) rfl ?_ | refine DL.wr_ixM DL.Mem.set_same rfl ?_
  | refine ⟨_, _, _, _, rfl, rfl, by assumption, rfl, ?_⟩ | refine ⟨_, _, _, _, rfl, rfl, DL.Mem.set_same, rfl, ?_⟩
  | refine DL.wc_tupleL ?_ | refine DL.wc_tupleT ?_ | refine DL.wc_listT ?_
  | refine DL.wc_lenF ?_ | refine DL.wc_lenT ?_ | refine DL.wc_lenL ?_ | refine DL.wc_int ?_
  | with_reducible refine ⟨_, rfl, ?_⟩
  | refine ⟨_, _, rfl, ?_⟩
  | with_reducible refine DL.iteT' rfl ?_ | with_reducible refine DL.iteF' rfl ?_
  | refine DL.iteT' (by assumption) ?_ | refine DL.iteF' (by assumption) ?_ | refine DL.iteT' (by decide +kernel) ?_ | refine DL.iteF' (by decide +kernel) ?_ | refine DL.iteT' rfl ?_ | refine DL.iteF' rfl ?_ | refine ⟨rfl, ?_⟩
  | refine ⟨DL.size_le (Nat.le_of_ble_eq_true rfl), ?_⟩ | refine ⟨by decide +kernel, ?_⟩)
local macro_rules | `(tactic| walk_at "g") => `(tactic| repeat walk_at "w")
local macro_rules | `(tactic| walk_at "b") => `(tactic| repeat (first
  | with_reducible exact ⟨rfl, rfl⟩
  | ((with_reducible apply DL.w_andP); (· walk_at "b"); (· walk_at "b")) | ((with_reducible apply DL.w_orP); (· walk_at "b"); (· walk_at "b"))
  | ((with_reducible apply DL.wt_andP); (· walk_at "b"); (· walk_at "b")) | ((with_reducible apply DL.wt_orP); (· walk_at "b"); (· walk_at "b"))
  | walk_at "w"))
namespace K04
open PySem PySem.Spec PyProof.Rows L2 DL
section
variable {P : Program} {w : World} {K : PySem.W.Frag} {mg : Str → Option Value} {base : Heap} {aP aW : Addr} {cD cT Pt PL c : Addr}
theorem isTy_ty : ∀ (n : Nat) (t : Ty), t.depth ≤ n → noAny t = true → isTy n (tyd t) = true
  | n, .num, _, _ => by cases n <;> rfl
  | n, .small, _, _ => by cases n <;> rfl
  | n, .big, _, _ => by cases n <;> rfl
  | n, .any, _, h => by cases h
  | 0, .cell t, h, _ => by simp [Ty.depth] at h
  | 0, .fn t u, h, _ => by simp [Ty.depth] at h
  | n + 1, .cell t, h, h2 => by
    have ih := isTy_ty n t (by simp only [Ty.depth] at h; omega) h2
    show (PyData.eqv (.str "cell") (.str "cell") && isTy n (tyd t)) = true
    rw [ih]
    decide +kernel
  | n + 1, .fn t u, h, h2 => by
    have h2 : (noAny t && noAny u) = true := h2
    rw [Bool.and_eq_true] at h2
    have ih1 := isTy_ty n t (by simp only [Ty.depth] at h; omega) h2.1
    have ih2 := isTy_ty n u (by simp only [Ty.depth] at h; omega) h2.2
    show (PyData.eqv (.str "fun") (.str "fun") && isTy n (tyd t) && isTy n (tyd u)) = true
    rw [ih1, ih2]
    decide +kernel
theorem lies_ok {ws : List Str} {s t : Ty} {m : Mem} {PD : D → Mem → Prop} (sub : ws.Sublist words) (hs : s.depth ≤ 3) (ns : noAny s = true) (ht : t.depth ≤ 3) (nt : noAny t = true) (hT : m Pt = some .tab) (k : PD (.bl (Wi ws s t).1) m) :
    R_lies cD cT Pt [.tup (ws.map D.str), tyd s, tyd t] m PD (fun _ _ => False) := by
  refine ⟨_, _, _, rfl, pures_strs ws, flt_strs (sub_len sub), hT, fun e => ?_, fun _ => ⟨ty_cmp (by omega), fun e => ?_, fun _ => ⟨ty_cmp (by omega), fun e => ?_, fun _ => ⟨ws, s, t, rfl, rfl, rfl, by omega, by omega, k⟩⟩⟩⟩
  · rw [des_ok sub] at e
    cases e
  · rw [isTy_ty 3 s hs ns] at e
    cases e
  · rw [isTy_ty 3 t ht nt] at e
    cases e
abbrev deepD : D := .tup [.str "cell", .tup [.str "cell", .tup [.str "cell", .str "num"]]]
abbrev odds : List D := [.non, .tup [], .str "any", .tup [.str "cell"], .tup [.str "cell", .str "any"], .tup [.str "cell", deepD], .tup [.str "fun", .str "num"], .tup [.str "fun", deepD, .str "num"], .lst [.str "cell", .str "num"], .tup [.str "num"], .int 5] ++
  [.tup [.str "cell", .str "num", .str "num"], .str "Num", .tup [.str "fun", .str "num", .str "num", .str "num"], .tup [.non, .str "num"], .tup [.str "cell", .non], .str ""]
theorem odd_ok : ∀ x ∈ odds, Cmp x ∧ isTy 3 x = false := by
  have h : odds.all (fun x => pure x && SeqAt.shaped (toPy x) && !isTy 3 x) = true := by decide +kernel
  intro x hx
  have z := List.all_eq_true.mp h x hx
  simp only [Bool.and_eq_true, Bool.not_eq_true'] at z
  exact ⟨⟨z.1.1, z.1.2⟩, z.2⟩
theorem deep_ok : Cmp deepD ∧ isTy 3 deepD = true := ⟨⟨by decide +kernel, by decide +kernel⟩, by decide +kernel⟩
theorem num_ok : Cmp (.str "num") ∧ isTy 3 (.str "num") = true := ⟨cmp_str _, by decide +kernel⟩
theorem lies_bad {ws : List Str} {x y : D} {m : Mem} {PD : D → Mem → Prop} {XP : Value → Mem → Prop} (sub : ws.Sublist words) (hT : m Pt = some .tab) (hx : Cmp x) (h : isTy 3 x = false ∨ (isTy 3 x = true ∧ Cmp y ∧ isTy 3 y = false)) (k : XP (.ref cT) m) :
    R_lies cD cT Pt [.tup (ws.map D.str), x, y] m PD XP := by
  refine ⟨_, _, _, rfl, pures_strs ws, flt_strs (sub_len sub), hT, fun e => ?_, fun _ => ⟨hx, fun _ => k, fun e => ?_⟩⟩
  · rw [des_ok sub] at e
    cases e
  · rcases h with h | ⟨h1, h2, h3⟩
    · rw [h] at e
      cases e
    · refine ⟨h2, fun _ => k, fun e2 => ?_⟩
      rw [h3] at e2
      cases e2
theorem RowOk.at {r : Addr} {m m' : Mem} (h : RowOk r m) (e : m' r = m r) : RowOk r m' := by
  obtain ⟨a, b, c, d, q, z⟩ := h
  exact ⟨a, b, c, d, e.trans q, z⟩
/-- _law_wrong(works[..]): both find the wrong type -/
theorem w_works {X : Cx} {ρ : DL.Env} {m : Mem} {Pp : D → Mem → Prop} {te : TE} (hK : X.K = K) (h : W K te ρ m fun d m1 => ∃ f, d = .ref f ∧ ((∃ c' dV, m1 f = some (.fn (mkF X la1 [] c' dV)) ∧ dV = .none) ∨ (∃ c' dV, m1 f = some (.fn (mkF X la2 [.int 0] c' dV)) ∧ ∃ d, dV = .ref d)) ∧
    ∃ ws x, ρ[12]? = some (some (.tup (List.map D.str ws))) ∧ ρ[11]? = some (some x) ∧ ws.Sublist words ∧ Cmp x ∧ isTy 3 x = false ∧ m1 Pt = some .tab ∧ Pp (.str "type") m1) : W K (tWrong (Bod1 X cD cT Pt) (TTw cT cD) te) ρ m Pp := by
  subst hK
  refine w_wrong (R := R_lies cD cT Pt) ?_
  refine W.imp h fun d m1 h => ?_
  obtain ⟨f, rfl, hf, ws, x, r12, r11, sub, cx, tx, hT, k⟩ := h
  rcases hf with ⟨c', dV, hf, e⟩ | ⟨c', dV, hf, e⟩
  · refine ⟨f, _, rfl, hf, _, ⟨c', dV, .inl ⟨rfl, e, rfl⟩⟩, ?_⟩
    exact wa_cons (w_var r12 (wa_cons (w_var r11 (wa_cons (w_cstr (wa_nil (lies_bad sub hT cx (.inl tx) (.inl ⟨rfl, k⟩))))))))
  · refine ⟨f, _, rfl, hf, _, ⟨c', dV, .inr ⟨rfl, e, rfl⟩⟩, ?_⟩
    exact wa_cons (w_var r12 (wa_cons (w_cstr (wa_cons (w_var r11 (wa_nil (lies_bad sub hT num_ok.1 (.inr ⟨num_ok.2, cx, tx⟩) (.inl ⟨rfl, k⟩))))))))
def R_law (Pt PL : Addr) : Sd := fun ds m PD => ∃ ns : List Int, ds = [.flst (ns.map D.int)] ∧ m Pt = some .tab ∧ m PL = some (.tabN nmL) ∧ ∀ m', PD (.bl true) m'
theorem ok_law (T : Txt K mg aP aW) {f0 : Addr} {oc kV doc pm ct : Value} {od an : Option Addr} {osl : Array (Option Value)} (lk : K.lookup f0 = some ⟨oc, od, .func (PySem.W.fnOf "law" "law" (defArgs s_law) (defBody s_law) (defScope s_law) .none kV doc pm an (.ref c) ct), osl⟩) (hcd : PySem.W.codeIn K (.ref c) "law" = true) (TBL : LamX.TabB base mg c PL)
    (c_lies_within : Cal P w K mg base (L2.CX P w) 23 "lies_within" ["design", "one", "other"] (spOfX K (R_lies cD cT Pt)))
    (c_p_law_wrong : CalW P w K mg base 24 "_law_wrong" "work" (TTw cT cD))
    (c_p_law_taken : Cal P w K mg base CX0 1 "_law_taken" ["row", "many"] (spOf K R_taken)) (c_p_law_pick : Cal P w K mg base CX0 2 "_law_pick" ["row", "kinds"] (spOf K R_pick)) (c_p_law_words : Cal P w K mg base CX0 1 "_law_words" [] (spOf K R_words))
    (c_p_law_design : Cal P w K mg base CX0 3 "_law_design" ["row"] (spOf K R_design)) (c_p_law_type : Cal P w K mg base CX0 5 "_law_type" ["row", "deep"] (spOf K (R_type 4)))
    (c_p_law_within : Cal P w K mg base CX0 5 "_law_within" ["design", "one", "other"] (spOf K (R_lw 4))) (c_p_law_alike : Cal P w K mg base CX0 2 "_law_alike" ["found", "due"] (spOf K R_alikeB))
    (c_is_type : Cal P w K mg base CX0 6 "is_type" ["value"] (spOf K R_istype)) (c_is_design : Cal P w K mg base CX0 1 "is_design" ["value"] (spOf K (R_isdes Pt))) :
    FnOk P w K mg base CX0 26 f0 (PySem.W.fnOf "law" "law" (defArgs s_law) (defBody s_law) (defScope s_law) .none kV doc pm an (.ref c) ct) ["script"] (spOf K (R_law Pt PL)) := by
  refine fnOk_at lk hcd sc_law (fun ds m P h => ?_) (fun f A outer s H hr => ⟨_, (pss_cons (ps_set (i := 13) sc_law.nd rfl (Or.inr rfl) (pe_lst (pa_cons (pv 0) (pa_cons pe_int (pa_cons pe_int (pa_cons pe_int pa_nil)))))) (pss_cons (ps_set (i := 12) sc_law.nd rfl (Or.inr rfl) (pe_cal c_p_law_design (hr.mono (by omega)) pass0 (pa_cons (pv 13) pa_nil))) (pss_cons (ps_for PassesOwn.never rfl (pi_range1 (by rfl) T.b_range (pa_cons pe_int pa_nil)) (pg_name (i := 1) sc_law.nd rfl (Or.inl rfl)) (pss_cons (ps_par (i := 2) (j := 3) (by rfl) sc_law.nd rfl rfl (by decide) rfl rfl (pa_cons (pe_cal c_p_law_type (hr.mono (by omega)) pass0 (pa_cons (pv 13) (pa_cons pe_int pa_nil))) (pa_cons (pe_cal c_p_law_type (hr.mono (by omega)) pass0 (pa_cons (pv 13) (pa_cons pe_int pa_nil))) pa_nil)) (by rfl)) (pss_cons (ps_set (i := 4) sc_law.nd rfl (Or.inl rfl) (pe_cal c_p_law_pick (hr.mono (by omega)) pass0 (pa_cons (pv 13) (pa_cons (pe_lst (pa_cons (pv 3) (pa_cons (pe_tup (pa_cons pe_str (pa_cons (pe_cal c_p_law_type (hr.mono (by omega)) pass0 (pa_cons (pv 13) (pa_cons pe_int pa_nil))) pa_nil))) (pa_cons (pe_tup (pa_cons pe_str (pa_cons pe_str (pa_cons pe_str pa_nil)))) (pa_cons (pe_tup (pa_cons pe_str (pa_cons pe_str (pa_cons pe_str pa_nil)))) pa_nil))))) pa_nil)))) (pss_cons (ps_if (PW.pt (pw_or (pt_cmpR op_notBl (pe_cal c_is_type (hr.mono (by omega)) pass0 (pa_cons (pv 2) pa_nil)) pe_bl (nomark _)) (pw_or1 (pt_not (pt_val (pe_cal c_p_law_alike (hr.mono (by omega)) pass0 (pa_cons (pe_cal c_lies_within (hr.mono (by omega)) (passes_call LamX.takes0 (fun _ _ _ _ h => h)) (pa_cons (pv 12) (pa_cons (pv 2) (pa_cons (pv 4) pa_nil)))) (pa_cons (pe_cal c_p_law_within (hr.mono (by omega)) pass0 (pa_cons (pv 12) (pa_cons (pv 2) (pa_cons (pv 4) pa_nil)))) pa_nil)))))))) (pss_one (ps_ret pe_bl)) pss_nil) (pss_one (ps_if (pt_cmpR op_notBl (pe_cal c_lies_within (hr.mono (by omega)) (passes_call LamX.takes0 (fun _ _ _ _ h => h)) (pa_cons (pv 12) (pa_cons (pv 2) (pa_cons (pv 2) pa_nil)))) pe_bl (nomark _)) (pss_one (ps_ret pe_bl)) pss_nil)))))) (pss_cons (ps_set (i := 5) sc_law.nd rfl (Or.inl rfl) (pe_tup (pa_cons pe_str (pa_cons (pe_tup (pa_cons pe_str (pa_cons (pe_tup (pa_cons pe_str (pa_cons pe_str pa_nil))) pa_nil))) pa_nil)))) (pss_cons (ps_set (i := 6) sc_law.nd rfl (Or.inl rfl) (pe_lst (pa_cons pe_non (pa_cons (pe_tup pa_nil) (pa_cons pe_str (pa_cons (pe_tup (pa_cons pe_str pa_nil)) (pa_cons (pe_tup (pa_cons pe_str (pa_cons pe_str pa_nil))) (pa_cons (pe_tup (pa_cons pe_str (pa_cons (pv 5) pa_nil))) (pa_cons (pe_tup (pa_cons pe_str (pa_cons pe_str pa_nil))) (pa_cons (pe_tup (pa_cons pe_str (pa_cons (pv 5) (pa_cons pe_str pa_nil)))) (pa_cons (pe_lst (pa_cons pe_str (pa_cons pe_str pa_nil))) (pa_cons (pe_tup (pa_cons pe_str pa_nil)) (pa_cons pe_int pa_nil))))))))))))) (pss_cons (ps_set (i := 6) sc_law.nd rfl (Or.inl rfl) (pe_op op_cat (pv 6) (pe_lst (pa_cons (pe_tup (pa_cons pe_str (pa_cons pe_str (pa_cons pe_str pa_nil)))) (pa_cons pe_str (pa_cons (pe_tup (pa_cons pe_str (pa_cons pe_str (pa_cons pe_str (pa_cons pe_str pa_nil))))) (pa_cons (pe_tup (pa_cons pe_non (pa_cons pe_str pa_nil))) (pa_cons (pe_tup (pa_cons pe_str (pa_cons pe_non pa_nil))) (pa_cons pe_str pa_nil))))))))) (pss_cons (ps_set (i := 11) sc_law.nd rfl (Or.inr rfl) (pe_ix (ixK (K := K)) (pv 6) (pe_cal c_p_law_taken (hr.mono (by omega)) pass0 (pa_cons (pv 13) (pa_cons (pe_callB (lenK (K := K)) (by rfl) T.b_len (by decide +kernel) (pa_cons (pv 6) pa_nil)) pa_nil))) (fun _ _ => rfl))) (pss_cons (ps_set (i := 7) sc_law.nd rfl (Or.inl rfl) (pe_lst (pa_cons (pe_lam0 (K := K) (nm := nmL) TBL rfl rfl lamS1.free rfl) (pa_cons (pe_lam1 (K := K) (nm := nmL) TBL rfl rfl lamS2.free rfl rfl) pa_nil)))) (pss_cons (ps_if (PW.pt (pw_or (pt_cmpR op_notBl (pe_cal c_is_type (hr.mono (by omega)) pass0 (pa_cons (pv 11) pa_nil)) pe_bl (nomark _)) (pw_or (pt_cmpR op_notBl (pe_cal c_is_type (hr.mono (by omega)) pass0 (pa_cons (pv 5) pa_nil)) pe_bl (nomark _)) (pw_or1 (pt_cmpR (op_neK (K := K) hr.units) (pe_wrong (ps := ["a"]) (k := 23) c_p_law_wrong rfl (hr.mono (by omega)) lawHps (pe_ix (ixK (K := K)) (pv 7) (pe_cal c_p_law_taken (hr.mono (by omega)) pass0 (pa_cons (pv 13) (pa_cons pe_int pa_nil))) (fun _ _ => rfl)) (hB1 c_lies_within)) pe_str (nomark _)))))) (pss_one (ps_ret pe_bl)) pss_nil) (pss_cons (ps_set (i := 8) sc_law.nd rfl (Or.inr rfl) (pe_op op_cat (pe_cal0 c_p_law_words (hr.mono (by omega)) pass0) (pe_lst (pa_cons pe_str (pa_cons pe_str (pa_cons pe_str pa_nil)))))) (pss_cons (ps_set (i := 9) sc_law.nd rfl (Or.inl rfl) (pe_callTy (tupleK (K := K)) (by rfl) T.b_tuple (by decide +kernel) (pa_cons (pe_lc (own := [("turn", 1)]) (g := gName 1) rfl sc_law.nd (pi_range1 (by rfl) T.b_range (pa_cons (pe_cal c_p_law_taken (hr.mono (by omega)) pass0 (pa_cons (pv 13) (pa_cons pe_int pa_nil))) pa_nil)) (blkOk_by (own := [("turn", 1)]) (N := ["script", "turn", "one", "other", "near", "deep", "odd", "works", "words", "drawn", "due", "bad", "design", "row", "word"]) (sc := defScope s_law) (by decide +kernel)) (fun _ _ _ _ _ => pg_name (i := 1) sc_law.nd rfl (Or.inl rfl)) (fun _ _ _ _ _ => pts_nil) (fun _ _ _ _ _ => (pe_cal c_p_law_pick (hr.mono (by omega)) pass0 (pa_cons (pv 13) (pa_cons (pv 8) pa_nil))))) pa_nil))) (pss_cons (ps_set (i := 10) sc_law.nd rfl (Or.inl rfl) (pe_and (pe_cmpR (op_eqK (K := K) hr.units) (pe_lc (own := [("word", 14)]) (g := gName 14) rfl sc_law.nd (pi_tupK (K := K) (pv 9)) (blkOk_by (own := [("word", 14)]) (N := ["script", "turn", "one", "other", "near", "deep", "odd", "works", "words", "drawn", "due", "bad", "design", "row", "word"]) (sc := defScope s_law) (by decide +kernel)) (fun _ _ _ _ _ => pg_name (i := 14) sc_law.nd rfl (Or.inl rfl)) (fun _ _ _ _ _ => (pts_one (pt_cmpR (op_niK (K := K)) (pv 14) (pe_slice (sl_lstK (K := K)) (pv 8) po_none (po_some pe_int)) (by rfl)))) (fun _ _ _ _ _ => (pv 14))) (pe_lst pa_nil) (nomark _)) (pe_one (pe_cmpR (op_eqK (K := K) hr.units) (pe_callTy (listK (K := K)) (by rfl) T.b_list (by decide +kernel) (pa_cons (pv 9) pa_nil)) (pe_sortSet (K := K) rfl rfl T.b_sorted rfl T.b_set (pv 9)) (nomark _))))) (pss_cons (ps_if (PW.pt (pw_or (pt_not (pt_val (pe_cal c_p_law_alike (hr.mono (by omega)) pass0 (pa_cons (pe_cal c_is_design (hr.mono (by omega)) pass0 (pa_cons (pv 9) pa_nil)) (pa_cons (pv 10) pa_nil))))) (pw_or (pt_cmpR op_notBl (pe_cal c_is_design (hr.mono (by omega)) pass0 (pa_cons (pv 12) pa_nil)) pe_bl (nomark _)) (pw_or1 (pt_cmpR op_notBl (pe_cal c_is_design (hr.mono (by omega)) pass0 (pa_cons (pe_callTy (listK (K := K)) (by rfl) T.b_list (by decide +kernel) (pa_cons (pv 12) pa_nil)) pa_nil)) pe_bl (nomark _)))))) (pss_one (ps_ret pe_bl)) pss_nil) (pss_one (ps_ret (pe_cmpR (op_eqK (K := K) hr.units) (pe_wrong (ps := ["a"]) (k := 23) c_p_law_wrong rfl (hr.mono (by omega)) lawHps (pe_lam0 (K := K) (nm := nmL) TBL rfl rfl lamS3.free rfl) (hB2 c_lies_within c_p_law_pick)) pe_str (nomark _))))))))))))))))), ?_⟩)
  · obtain ⟨ns, rfl, _⟩ := h
    rfl
  · rintro ds m PD ⟨ns, rfl, hT, hL, k⟩
    refine ws_seq (ws_set (w_lstM ?_))
    walk_at "g"
    intro r hr0
    have nT : Pt ≠ r := fun z => by rw [z, hr0] at hT; cases hT
    have nL : PL ≠ r := fun z => by rw [z, hr0] at hL; cases hL
    walk_at "g"
    refine ⟨r, rfl, ⟨ns, 0, 14274, 0, Mem.set_same, by decide, by decide, by decide⟩, fun ws m1 sub st1 => ?_⟩
    have hT1 : m1 Pt = some .tab := by rw [RowStep.keep st1 nT, Mem.set_ne nT]; exact hT
    have hL1 : m1 PL = some (.tabN nmL) := by rw [RowStep.keep st1 nL, Mem.set_ne nL]; exact hL
    have ok1 := st1.1
    clear st1 hT hL
    refine ws_seq (ws_forR (fun i ρ' m' => ∃ x1 x2 x3 x4 : Option D, ρ' = [some (.flst (ns.map D.int)), x1, x2, x3, x4, none, none, none, none, none, none, none, some (.tup (ws.map D.str)), some (.ref r), none] ∧ RowOk r m' ∧ m' Pt = some .tab ∧ m' PL = some (.tabN nmL)) ?_)
    refine wa_cons (w_cint (wa_nil ?_))
    refine ⟨8, rfl, by decide, ⟨none, none, none, none, rfl, ok1, hT1, hL1⟩, fun i ρ' m' hi hI => ?_, fun ρ' m' hI => ?_⟩
    · obtain ⟨x1, x2, x3, x4, rfl, okr, hT, hL⟩ := hI
      clear ok1 hT1 hL1
      show WS K _ [some (.flst (ns.map D.int)), some (.int i), x2, x3, x4, none, none, none, none, none, none, none, some (.tup (ws.map D.str)), some (.ref r), none] m' _ _ _ _
      walk_at "g"
      refine ⟨okr, fun s0 m2 hs na1 st2 => ?_⟩
      walk_at "g"
      refine ⟨st2.1, fun t0 m3 ht na2 st3 => ?_⟩
      walk_at "g"
      refine ⟨st3.1, fun u0 m4 hu na3 st4 => ?_⟩
      walk_at "g"
      refine ⟨by simp, by simp, st4.1, fun v m5 hv st5 => ?_⟩
      have near : ∃ n0 : Ty, v = tyd n0 ∧ n0.depth ≤ 3 ∧ noAny n0 = true := by
        simp only [List.mem_cons, List.not_mem_nil, or_false] at hv
        rcases hv with rfl | rfl | rfl | rfl
        · exact ⟨t0, rfl, by omega, na2⟩
        · exact ⟨.cell u0, rfl, by simp only [Ty.depth]; omega, na3⟩
        · exact ⟨.fn .big .small, rfl, by decide, rfl⟩
        · exact ⟨.fn .small .big, rfl, by decide, rfl⟩
      obtain ⟨n0, rfl, hn0, nan⟩ := near
      have st := ((st2.trans st3).trans st4).trans st5
      have hT5 : m5 Pt = some .tab := by rw [RowStep.keep st nT]; exact hT
      have hL5 : m5 PL = some (.tabN nmL) := by rw [RowStep.keep st nL]; exact hL
      have hs3 : s0.depth ≤ 3 := by omega
      have tys := isTy_ty 3 s0 hs3 na1
      have tyn := isTy_ty 3 n0 hn0 nan
      walk_at "g"
      refine ⟨_, rfl, ty_cmp (by omega), ?_⟩
      rw [tys]
      walk_at "g"
      refine wr_notB ?_
      walk_at "g"
      refine w_callX0 ?_
      walk_at "g"
      refine lies_ok sub hs3 na1 hn0 nan hT5 ?_
      walk_at "g"
      refine ⟨ws, s0, n0, rfl, by omega, by omega, by omega, by omega, wa_nil ⟨_, _, rfl, ?_⟩⟩
      rw [decide_eq_true rfl]
      walk_at "g"
      refine w_callX0 ?_
      walk_at "g"
      refine lies_ok sub hs3 na1 hs3 na1 hT5 ?_
      rw [show (Wi ws s0 s0).1 = true by unfold Wi; rw [wi_refl]]
      walk_at "g"
      refine wr_notB ?_
      walk_at "g"
      exact ⟨_, _, _, _, rfl, st5.1, hT5, hL5⟩
    · obtain ⟨x1, x2, x3, x4, rfl, okr, hT, hL⟩ := hI
      clear ok1 hT1 hL1
      walk_at "g"
      refine ⟨okr, fun v m2 v0 v1 st2 => ?_⟩
      obtain ⟨x, hx, hmem⟩ := atI_lt v0 v1
      obtain ⟨cx, tx⟩ := odd_ok x hmem
      refine wr_ixL hx ?_
      have hT2 : m2 Pt = some .tab := by rw [RowStep.keep st2 nT]; exact hT
      have hL2 : m2 PL = some (.tabN nmL) := by rw [RowStep.keep st2 nL]; exact hL
      have ok2 := st2.1
      clear okr hT hL hx hmem v0 v1 st2
      show WS K _ [some (.flst (ns.map D.int)), x1, x2, x3, x4, some deepD, some (.lst odds), none, none, none, none, some x, some (.tup (ws.map D.str)), some (.ref r), none] m2 _ _ _ _
      generalize (some (D.lst odds)) = o6
      walk_at "g"
      refine w_lamA hL2 fun f1 c1 dV1 m3 nf1 d1 _ e1 k1 => ?_
      have nLf1 : PL ≠ f1 := fun z => by rw [z, nf1] at hL2; cases hL2
      have nTf1 : Pt ≠ f1 := fun z => by rw [z, nf1] at hT2; cases hT2
      have nrf1 : f1 ≠ r := fun z => by
        obtain ⟨_, _, _, _, q, _⟩ := ok2
        rw [← z, nf1] at q
        cases q
      have hL3 : m3 PL = some (.tabN nmL) := by rw [k1 _ nLf1]; exact hL2
      have hT3 : m3 Pt = some .tab := by rw [k1 _ nTf1]; exact hT2
      have ok3 : RowOk r m3 := RowOk.at ok2 (k1 _ (Ne.symm nrf1))
      clear k1 hL2 hT2 ok2 nf1
      walk_at "g"
      refine w_lamA hL3 fun f2 c2 dV2 m4 nf2 _ d2 e2 k2 => ?_
      have nLf2 : PL ≠ f2 := fun z => by rw [z, nf2] at hL3; cases hL3
      have nTf2 : Pt ≠ f2 := fun z => by rw [z, nf2] at hT3; cases hT3
      have n12 : f1 ≠ f2 := fun z => by rw [← z, e1] at nf2; cases nf2
      have nrf2 : f2 ≠ r := fun z => by
        obtain ⟨_, _, _, _, q, _⟩ := ok3
        rw [← z, nf2] at q
        cases q
      have hL4 : m4 PL = some (.tabN nmL) := by rw [k2 _ nLf2]; exact hL3
      have hT4 : m4 Pt = some .tab := by rw [k2 _ nTf2]; exact hT3
      have ok4 : RowOk r m4 := RowOk.at ok3 (k2 _ (Ne.symm nrf2))
      have e1 := (k2 _ n12).trans e1
      clear k2 hL3 hT3 ok3 nf2
      refine wa_nil ?_
      walk_at "g"
      refine ⟨_, rfl, cx, ?_⟩
      rw [tx]
      walk_at "g"
      refine wr_notB ?_
      walk_at "g"
      refine ⟨_, rfl, deep_ok.1, ?_⟩
      rw [deep_ok.2]
      walk_at "g"
      refine wr_notB ?_
      walk_at "g"
      refine w_works rfl ?_
      walk_at "g"
      refine ⟨ok4, fun v m5 v0 v1 st5 => ?_⟩
      have hT5 : m5 Pt = some .tab := by rw [RowStep.keep st5 nT]; exact hT4
      have hL5 : m5 PL = some (.tabN nmL) := by rw [RowStep.keep st5 nL]; exact hL4
      have e15 := (RowStep.keep st5 nrf1).trans e1
      have e25 := (RowStep.keep st5 nrf2).trans e2
      have ok5 := st5.1
      have hv : v = 0 ∨ v = 1 := by omega
      have ix : ∃ f, atI [D.ref f1, D.ref f2] v = some (D.ref f) ∧ (f = f1 ∨ f = f2) := by
        rcases hv with rfl | rfl
        · exact ⟨f1, rfl, .inl rfl⟩
        · exact ⟨f2, rfl, .inr rfl⟩
      obtain ⟨f0, ix, hf0⟩ := ix
      refine wr_ixL ix ⟨f0, rfl, ?_, ws, x, rfl, rfl, sub, cx, tx, hT5, ?_⟩
      · rcases hf0 with rfl | rfl
        · exact .inl ⟨c1, dV1, e15, d1 rfl⟩
        · exact .inr ⟨c2, dV2, e25, d2 (fun z => nomatch z)⟩
      clear ok4 hT4 hL4 e1 e2 e15 e25 ix hf0 hv v0 v1 st5
      refine w_cstr (wr_neD (cmp_str _) (cmp_str _) ?_)
      rw [show (!PyData.eqv (toPy (.str "type")) (toPy (.str "type"))) = false by decide +kernel]
      refine ⟨false, rfl, iteF' rfl (ws_next ?_)⟩
      show WS K _ [some (.flst (ns.map D.int)), x1, x2, x3, x4, some deepD, o6, some (.lst [.ref f1, .ref f2]), none, none, none, some x, some (.tup (ws.map D.str)), some (.ref r), none] m5 _ _ _ _
      generalize (some (D.lst [D.ref f1, D.ref f2])) = o7
      refine ws_seq (ws_set (w_op (w_call (wa_nil ⟨rfl, w_lst (wa_cons (w_cstr (wa_cons (w_cstr (wa_cons (w_cstr (wa_nil ⟨by decide, wr_cat (by decide) ?_⟩)))))))⟩))))
      show WS K _ [some (.flst (ns.map D.int)), x1, x2, x3, x4, some deepD, o6, o7, some (.lst (words17.map D.str)), none, none, some x, some (.tup (ws.map D.str)), some (.ref r), none] m5 _ _ _ _
      refine ws_seq (ws_set (w_cb (wa_cons (w_drawn rfl rfl rfl nT nL ok5 hT5 hL5 fun xs m7 hx3 hw ok7 hT7 hL7 => wa_nil (wc_tupleL ?_)))))
      clear ok5 hT5 hL5
      show WS K _ [some (.flst (ns.map D.int)), x1, x2, x3, x4, some deepD, o6, o7, some (.lst (words17.map D.str)), some (.tup (xs.map D.str)), none, some x, some (.tup (ws.map D.str)), some (.ref r), none] m7 _ _ _ _
      refine ws_seq (ws_set (w_andP (w_due1 rfl (fun _ => rfl) (fun _ => rfl) hx3 hw) (w_due2 rfl hx3 hw) ?_))
      show WS K _ [some (.flst (ns.map D.int)), x1, x2, x3, x4, some deepD, o6, o7, some (.lst (words17.map D.str)), some (.tup (xs.map D.str)), some (.bl (xs.all (fun w => inD (.str w) (words.map D.str)) && ascS xs)), some x, some (.tup (ws.map D.str)), some (.ref r), none] m7 _ _ _ _
      refine ws_seq (ws_if (wt_use (w_if3 rfl rfl rfl hx3 sub hT7) (iteF' rfl (ws_next ?_))))
      refine ws_ret (w_op (w_last rfl rfl nT ok7 hT7 hL7 fun m' => w_cstr (wr_eqD (cmp_str _) (cmp_str _) ?_)))
      rw [show PyData.eqv (toPy (.str "design")) (toPy (.str "design")) = true by decide +kernel]
      exact k m'
end
end K04
end
section
set_option Elab.async false
set_option linter.all false
set_option maxRecDepth 100000
set_option maxHeartbeats 2000000
namespace DL
open PySem PySem.Spec PyProof.Rows L2 LamX
/-- the end, where the tables of several of the text's defs are asked: each is empty at the head -/
theorem walk_tabs {l : PySem.W.OpenLaw} {n k : Nat} {q : Program} {loose : List Str} {XP : (Str → Option Value) → Heap → Prop} {YP : World → Heap → Prop} {d : DefRec} {K : Params → PySem.W.Frag} {CX : World → CXT} {x : Str} (xs : List Str)
    (hn : l.most = some n) (hn2 : n ≤ sizeLine) (hdf : d.params.defaults = []) (hr : Room k callerA) (hrec : ∀ y ∈ xs, ((recsOf q).any fun e => e.name == y) = true) (hY : ∀ (w : World) (h : Heap), YP w h → (K w.params).In h)
    (F : ∀ (w : World) (mg : Str → Option Value) (fa : Addr) (h : Heap), YP w h → (K w.params).In h → h.Ns mainGlobals mg → mg d.name = some (.ref fa) → (∀ y ∈ xs, ∀ fb, mg y = some (.ref fb) → OwnTab (K w.params) fb h) → LawAtS l w (K w.params) (CX w) k n x mg fa h)
    (hCX : ∀ (w : World) (H : Hp) (s : Shared) (e : Value) (s' : Shared), CX w [] H s (fun _ _ _ => False) e s' → False) :
    PySem.W.WalkO q loose XP YP l.row.toRowW d [] (fun f vs => PySem.call f vs) := by
  refine Att.attach_callB hn hdf fun w _ s₁ mg _ fa _ _ _ _ a vs ns G Y _ _ _ hmg hobj hints hlen hbits hg => ?_
  have KX := hY w _ Y
  have tabs : ∀ y ∈ xs, ∀ fb, mg y = some (.ref fb) → OwnTab (K w.params) fb s₁.heap := by
    intro y hy fb hfb c P o fd e dd vz sl lo ld lc lv lp
    obtain ⟨r, hr1, hr2⟩ := List.any_eq_true.mp (hrec y hy)
    obtain rfl : r.name = y := eq_of_beq hr2
    obtain ⟨f', o', fd', c', P', t1, t2, t3, t4, t5, ⟨⟨oc, vc, t6, _, t7, t8⟩, t9⟩⟩ := G.T.tab r hr1
    obtain rfl : fb = f' := by
      rw [hfb] at t1
      exact Value.ref.inj (Option.some.inj t1)
    obtain rfl : o = o' := Option.some.inj ((KX _ _ lo).symm.trans t2)
    obtain rfl : fd = fd' := Data.func.inj (ld.symm.trans t3)
    obtain rfl : c = c' := Value.ref.inj (lc.symm.trans t4)
    have eo := Option.some.inj ((KX _ _ lv).symm.trans t6)
    rw [← eo] at t7
    obtain rfl : vz = vc := Data.fields.inj t7
    obtain rfl : P = P' := Value.ref.inj (Option.some.inj (lp.symm.trans t8))
    exact t9
  obtain ⟨fd, cs, sp, z1, z2, z3, z4, z5, z6⟩ := F w mg fa _ Y KX G.T.g hmg tabs
  exact law_callTs KX G.T.g G.T.b G.T.builtins G.T.nolimit hg z1 z2 z3 G.T.bmain hobj hints (Nat.le_trans hlen hn2) hr z6 z4 (fun H hH hS => z5 H a ns hlen hbits hH hS) fun H e s' => hCX w H s₁ e s'
/-- a def of the text, by what K tells -/
theorem def_mk {K : PySem.W.Frag} {h : Heap} {mg : Str → Option Value} {x : Str} {st : Stmt} {ps : List Str} {f : Addr} {oc : Value} {od an : Option Addr} {osl : Array (Option Value)} {kV doc pm cdv ct : Value} (X : K.In h) (G : h.Ns mainGlobals mg)
    (hb : ∀ (kV doc pm : Value) (an : Option Addr) (cdv ct : Value) (us : List Value), us.length = ps.length → bindArgs (PySem.W.fnOf x x (defArgs st) (defBody st) (defScope st) .none kV doc pm an cdv ct) ⟨us, []⟩ = Pure.pure (ps.zip us))
    (g : PySem.W.nsIn K mainGlobals x = some (some (.ref f))) (l : K.lookup f = some ⟨oc, od, .func (PySem.W.fnOf x x (defArgs st) (defBody st) (defScope st) .none kV doc pm an cdv ct), osl⟩)
    (c : PySem.W.codeIn K cdv x = true) (k : PySem.W.keepIn K (.ref f) = true) : Def K mg x st ps :=
  ⟨f, _, fun_mk l c k, PySem.W.mg_of X G g, Binds.all (hb kV doc pm an cdv ct)⟩
end DL
end
section
set_option Elab.async false
set_option linter.all false
set_option maxRecDepth 100000
set_option maxHeartbeats 2000000
namespace DL
open PySem PySem.Spec PyProof.Rows L2 LamX
/-- a def of the text whose code's table is asked -/
structure DefT (K : PySem.W.Frag) (h : Heap) (mg : Str → Option Value) (x : Str) (st : Stmt) (ps : List Str) (c P : Addr) : Prop where
  df : DefC K mg x st ps c
  tab : h.get? P = some { cls := .none, data := .fields #[] }
  hd : PySem.W.codeHdIn K c P = true
  no : K.lookup P = none
theorem defT_mk {K : PySem.W.Frag} {h : Heap} {mg : Str → Option Value} {x : Str} {st : Stmt} {ps : List Str} {f c P : Addr} {oc : Value} {od an : Option Addr} {osl : Array (Option Value)} {kV doc pm ct e : Value} {dd : Option Addr} {vs : Array Value} {sl : Array (Option Value)} (X : K.In h) (G : h.Ns mainGlobals mg)
    (own : ∀ fb, mg x = some (.ref fb) → OwnTab K fb h)
    (hb : ∀ (kV doc pm : Value) (an : Option Addr) (cdv ct : Value) (us : List Value), us.length = ps.length → bindArgs (PySem.W.fnOf x x (defArgs st) (defBody st) (defScope st) .none kV doc pm an cdv ct) ⟨us, []⟩ = Pure.pure (ps.zip us))
    (g : PySem.W.nsIn K mainGlobals x = some (some (.ref f))) (l : K.lookup f = some ⟨oc, od, .func (PySem.W.fnOf x x (defArgs st) (defBody st) (defScope st) .none kV doc pm an (.ref c) ct), osl⟩)
    (cc : PySem.W.codeIn K (.ref c) x = true) (k : PySem.W.keepIn K (.ref f) = true) (lv : K.lookup c = some ⟨e, dd, .fields vs, sl⟩) (lp : vs[11]? = some (.ref P)) (hd : PySem.W.codeHdIn K c P = true) (no : K.lookup P = none) : DefT K h mg x st ps c P :=
  ⟨⟨f, oc, od, kV, doc, pm, an, ct, osl, l, cc, k, PySem.W.mg_of X G g, Binds.all (hb kV doc pm an (.ref c) ct)⟩, own f (PySem.W.mg_of X G g) c P _ _ e dd vs sl l rfl rfl lv lp, hd, no⟩
theorem kt_mk {K : PySem.W.Frag} {a : Addr} {o : Obj} {its : Array Value} {n : Nat} {xs : List V} (l : K.lookup a = some o) (h1 : o.cls = .type "tuple") (h2 : o.data = .seq its n) (h3 : its.size ≤ sizeLine) (h4 : Vals xs its.toList) : KT K a xs := .inr ⟨o, its, n, l, h1, h2, h3, h4⟩
end DL
namespace K04
open PySem PySem.Spec PyProof.Rows L2 DL
/-- what the top has written -/
structure Top (K : PySem.W.Frag) (h : Heap) (mg : Str → Option Value) (aP aW cB cT cD c1 Pt c2 PL : Addr) : Prop where
  T : Txt K mg aP aW
  eW : ErrW K mg cB cT cD
  eT : ErrC K mg "BadType" cT
  eD : ErrC K mg "BadDesign" cD
  ne : Pt ≠ PL
  t1 : DefT K h mg "is_design" s_is_design ["value"] c1 Pt
  t2 : DefT K h mg "law" s_law ["script"] c2 PL
  d_is_type : Def K mg "is_type" s_is_type ["value"]
  d_p_is_type_of : Def K mg "_is_type_of" s_p_is_type_of ["value", "most"]
  d_require_design : Def K mg "require_design" s_require_design ["value"]
  d_require_type : Def K mg "require_type" s_require_type ["value"]
  d_has : Def K mg "has" s_has ["design", "word"]
  d_lies_within : Def K mg "lies_within" s_lies_within ["design", "one", "other"]
  d_within : Def K mg "within" s_within ["design", "one", "other"]
  d_p_both_ways : Def K mg "_both_ways" s_p_both_ways ["design", "one", "other"]
  d_p_cells_both_ways : Def K mg "_cells_both_ways" s_p_cells_both_ways ["design", "one", "other"]
  d_p_functions_both_ways : Def K mg "_functions_both_ways" s_p_functions_both_ways ["design", "one", "other"]
  d_p_law_taken : Def K mg "_law_taken" s_p_law_taken ["row", "many"]
  d_p_law_pick : Def K mg "_law_pick" s_p_law_pick ["row", "kinds"]
  d_p_law_alike : Def K mg "_law_alike" s_p_law_alike ["found", "due"]
  d_p_law_words : Def K mg "_law_words" s_p_law_words []
  d_p_law_design : Def K mg "_law_design" s_p_law_design ["row"]
  d_p_law_type : Def K mg "_law_type" s_p_law_type ["row", "deep"]
  d_p_law_has : Def K mg "_law_has" s_p_law_has ["design", "word"]
  d_p_law_within : Def K mg "_law_within" s_p_law_within ["design", "one", "other"]
  d_p_law_wrong : Def K mg "_law_wrong" s_p_law_wrong ["work"]
end K04
end
section
set_option Elab.async false
set_option linter.all false
set_option maxRecDepth 100000
set_option maxHeartbeats 4000000
namespace K04
open PySem PySem.Spec PyProof.Rows L2 DL LamX
/-- the law's promise, at the head -/
theorem law_at {l : PySem.W.OpenLaw} {w : World} {K : PySem.W.Frag} {mg : Str → Option Value} {fa aP aW cB cT cD c1 Pt c2 PL : Addr} {h : Heap} {n : Nat} (KX : K.In h) (hfa : mg "law" = some (.ref fa)) (Z : Top K h mg aP aW cB cT cD c1 Pt c2 PL) : LawAtS l w K CX0 26 n "script" mg fa h := by
  have T := Z.T
  obtain ⟨f, oc, od, kV, doc, pm, an, ct, osl, lk, hcd, kp, hm, hb⟩ := Z.t2.df.ex
  obtain rfl : f = fa := Value.ref.inj (Option.some.inj (hm.symm.trans hfa))
  refine ⟨PySem.W.fnOf "law" "law" (defArgs s_law) (defBody s_law) (defScope s_law) .none kV doc pm an (.ref c2) ct, [(c1, Pt), (c2, PL)], spOf K (R_law Pt PL), ?_, ?_, ?_, fun s u => .of_eq rfl, fun H a ns hl _ hH hS => ?_, fun base Kb Nb TB => ?_⟩
  · intro p hp
    simp only [List.mem_cons, List.not_mem_nil, or_false] at hp
    rcases hp with rfl | rfl
    · exact Z.t1.tab
    · exact Z.t2.tab
  · intro p hp
    simp only [List.mem_cons, List.not_mem_nil, or_false] at hp
    rcases hp with rfl | rfl
    · exact Z.t1.no
    · exact Z.t2.no
  · intro p hp
    simp only [List.mem_cons, List.not_mem_nil, or_false] at hp
    rcases hp with rfl | rfl
    · exact PySem.W.codeHd_of_K KX Z.t1.hd
    · exact PySem.W.codeHd_of_K KX Z.t2.hd
  · have h1 : H Pt = some (.tbl #[]) := hH (c1, Pt) (by simp)
    have h2 : H PL = some (.tbl #[]) := hH (c2, PL) (by simp)
    have none0 : ∀ (pos : Pos) (cv : Value), codeAmong pos (#[] : Array Value).toList ≠ some cv := fun pos cv z => by
      have z : codeAmong pos [] = some cv := z
      simp [codeAmong] at z
    refine ⟨[.flst (ns.map D.int)], fun b => if b = PL then some (.tabN nmL) else if b = Pt then some .tab else none, fun _ => False, fun d _ => d = .bl true, .cons (.flst ?_ (Rps.ints ns)) .nil, ⟨fun a o e => ?_, fun _ z => z.elim⟩, ⟨ns, rfl, ?_, if_pos rfl, fun _ => rfl⟩, fun v d m' H' e _ _ r => ?_⟩
    · rcases hS with hS | hS
      · refine .inl ⟨hS, ?_, fun z => z⟩
        have n1 : a ≠ PL := fun z => by
          rw [z] at hS
          rcases hS with q | ⟨o, q⟩ <;> rw [h2] at q <;> cases q
        have n2 : a ≠ Pt := fun z => by
          rw [z] at hS
          rcases hS with q | ⟨o, q⟩ <;> rw [h1] at q <;> cases q
        show (if a = PL then _ else if a = Pt then _ else none) = none
        rw [if_neg n1, if_neg n2]
      · exact .inr (.inr hS)
    · by_cases e1 : a = PL
      · have e : some (MO.tabN nmL) = some o := (if_pos e1).symm.trans e
        cases e
        subst e1
        exact ⟨#[], h2, True.intro, fun pos cv z => absurd z (none0 pos cv)⟩
      · have e := (if_neg e1).symm.trans e
        by_cases e2 : a = Pt
        · have e : some MO.tab = some o := (if_pos e2).symm.trans e
          cases e
          subst e2
          exact ⟨#[], h1, True.intro⟩
        · have e := (if_neg e2).symm.trans e
          cases e
    · show (if Pt = PL then _ else if Pt = Pt then _ else none) = _
      rw [if_neg Z.ne, if_pos rfl]
    · subst e
      cases r
      rfl
  · have tb1 := TB (c1, Pt) (by simp)
    have tb2 := TB (c2, PL) (by simp)
    have c_both := ok_both (P := l.prog) (w := w) (base := base) Z.d_p_both_ways Z.d_p_cells_both_ways Z.d_p_functions_both_ways (ok_has Z.d_has) 10
    have c_istype := ok_istype (P := l.prog) (w := w) (base := base) T Z.d_is_type (ok_isty T Z.d_p_is_type_of 4)
    have c_isdes := ok_isdes (P := l.prog) (w := w) T Z.t1.df ⟨tb1.code, tb1.bm, tb1.gP⟩ ⟨Kb, Nb⟩
    have c_lies := ok_lies Z.d_lies_within (ok_reqdes Z.d_require_design Z.eD c_isdes) (ok_reqtype Z.d_require_type Z.eT c_istype) (ok_within Z.d_within c_both)
    have c_taken := ok_taken (P := l.prog) (w := w) (base := base) T Z.d_p_law_taken
    have c_pick := ok_pick T Z.d_p_law_pick c_taken
    have c_words := ok_words (P := l.prog) (w := w) (base := base) Z.d_p_law_words
    have c_design := ok_design T Z.d_p_law_design c_taken c_pick c_words
    have c_type := ok_type T Z.d_p_law_type c_taken 4
    have c_lw := ok_lw T Z.d_p_law_within (ok_lhas (P := l.prog) (w := w) (base := base) Z.d_p_law_has) 4
    have c_alike := ok_alikeB (P := l.prog) (w := w) (base := base) T Z.d_p_law_alike (Cal.vac Z.d_p_law_alike fun _ _ _ h => h)
    have c_wrong := cal_wrong (P := l.prog) (w := w) (base := base) (k := 24) T Z.eW Z.d_p_law_wrong
    exact ok_law T lk hcd tb2 c_lies c_wrong c_taken c_pick c_words c_design c_type c_lw c_alike c_istype c_isdes
end K04
end
set_option Elab.async false
set_option maxRecDepth 100000
open PySem PySem.W PyProof.Rows in
set_option maxRecDepth 100000 in
set_option maxHeartbeats 0 in
theorem PySem.Challenge.cw_soundborder_k04_whole_types_holds : PySem.Challenge.rw_soundborder_k04_whole_types.Holds := by
  w_on; o_law; k_head; (case hw => w_witness2)
  k_fill
  refine DL.walk_tabs (l := PySem.Challenge.rw_soundborder_k04_whole_types) (k := 26) (x := "script") (CX := fun _ => L2.CX0) ["is_design", "law"] rfl (by decide) rfl ⟨rfl, by decide, by decide⟩ (by decide +kernel) (fun w h Y => PySem.W.km_in_of Y) ?F (fun _ _ _ _ _ z => z)
  case F =>
    intro w mg fa h Y KX G hmg tabs
    have d_is_type := DL.def_mk (x := "is_type") (st := K04.s_is_type) (ps := ["value"]) KX G (fun _ _ _ _ _ _ us hl => match us, hl with | [_], _ => rfl) (by k_is) (by k_is) (by k_is) (by k_is)
    have d_p_is_type_of := DL.def_mk (x := "_is_type_of") (st := K04.s_p_is_type_of) (ps := ["value", "most"]) KX G (fun _ _ _ _ _ _ us hl => match us, hl with | [_, _], _ => rfl) (by k_is) (by k_is) (by k_is) (by k_is)
    have d_require_design := DL.def_mk (x := "require_design") (st := K04.s_require_design) (ps := ["value"]) KX G (fun _ _ _ _ _ _ us hl => match us, hl with | [_], _ => rfl) (by k_is) (by k_is) (by k_is) (by k_is)
    have d_require_type := DL.def_mk (x := "require_type") (st := K04.s_require_type) (ps := ["value"]) KX G (fun _ _ _ _ _ _ us hl => match us, hl with | [_], _ => rfl) (by k_is) (by k_is) (by k_is) (by k_is)
    have d_has := DL.def_mk (x := "has") (st := K04.s_has) (ps := ["design", "word"]) KX G (fun _ _ _ _ _ _ us hl => match us, hl with | [_, _], _ => rfl) (by k_is) (by k_is) (by k_is) (by k_is)
    have d_lies_within := DL.def_mk (x := "lies_within") (st := K04.s_lies_within) (ps := ["design", "one", "other"]) KX G (fun _ _ _ _ _ _ us hl => match us, hl with | [_, _, _], _ => rfl) (by k_is) (by k_is) (by k_is) (by k_is)
    have d_within := DL.def_mk (x := "within") (st := K04.s_within) (ps := ["design", "one", "other"]) KX G (fun _ _ _ _ _ _ us hl => match us, hl with | [_, _, _], _ => rfl) (by k_is) (by k_is) (by k_is) (by k_is)
    have d_p_both_ways := DL.def_mk (x := "_both_ways") (st := K04.s_p_both_ways) (ps := ["design", "one", "other"]) KX G (fun _ _ _ _ _ _ us hl => match us, hl with | [_, _, _], _ => rfl) (by k_is) (by k_is) (by k_is) (by k_is)
    have d_p_cells_both_ways := DL.def_mk (x := "_cells_both_ways") (st := K04.s_p_cells_both_ways) (ps := ["design", "one", "other"]) KX G (fun _ _ _ _ _ _ us hl => match us, hl with | [_, _, _], _ => rfl) (by k_is) (by k_is) (by k_is) (by k_is)
    have d_p_functions_both_ways := DL.def_mk (x := "_functions_both_ways") (st := K04.s_p_functions_both_ways) (ps := ["design", "one", "other"]) KX G (fun _ _ _ _ _ _ us hl => match us, hl with | [_, _, _], _ => rfl) (by k_is) (by k_is) (by k_is) (by k_is)
    have d_p_law_taken := DL.def_mk (x := "_law_taken") (st := K04.s_p_law_taken) (ps := ["row", "many"]) KX G (fun _ _ _ _ _ _ us hl => match us, hl with | [_, _], _ => rfl) (by k_is) (by k_is) (by k_is) (by k_is)
    have d_p_law_pick := DL.def_mk (x := "_law_pick") (st := K04.s_p_law_pick) (ps := ["row", "kinds"]) KX G (fun _ _ _ _ _ _ us hl => match us, hl with | [_, _], _ => rfl) (by k_is) (by k_is) (by k_is) (by k_is)
    have d_p_law_alike := DL.def_mk (x := "_law_alike") (st := K04.s_p_law_alike) (ps := ["found", "due"]) KX G (fun _ _ _ _ _ _ us hl => match us, hl with | [_, _], _ => rfl) (by k_is) (by k_is) (by k_is) (by k_is)
    have d_p_law_words := DL.def_mk (x := "_law_words") (st := K04.s_p_law_words) (ps := []) KX G (fun _ _ _ _ _ _ us hl => match us, hl with | [], _ => rfl) (by k_is) (by k_is) (by k_is) (by k_is)
    have d_p_law_design := DL.def_mk (x := "_law_design") (st := K04.s_p_law_design) (ps := ["row"]) KX G (fun _ _ _ _ _ _ us hl => match us, hl with | [_], _ => rfl) (by k_is) (by k_is) (by k_is) (by k_is)
    have d_p_law_type := DL.def_mk (x := "_law_type") (st := K04.s_p_law_type) (ps := ["row", "deep"]) KX G (fun _ _ _ _ _ _ us hl => match us, hl with | [_, _], _ => rfl) (by k_is) (by k_is) (by k_is) (by k_is)
    have d_p_law_has := DL.def_mk (x := "_law_has") (st := K04.s_p_law_has) (ps := ["design", "word"]) KX G (fun _ _ _ _ _ _ us hl => match us, hl with | [_, _], _ => rfl) (by k_is) (by k_is) (by k_is) (by k_is)
    have d_p_law_within := DL.def_mk (x := "_law_within") (st := K04.s_p_law_within) (ps := ["design", "one", "other"]) KX G (fun _ _ _ _ _ _ us hl => match us, hl with | [_, _, _], _ => rfl) (by k_is) (by k_is) (by k_is) (by k_is)
    have d_p_law_wrong := DL.def_mk (x := "_law_wrong") (st := K04.s_p_law_wrong) (ps := ["work"]) KX G (fun _ _ _ _ _ _ us hl => match us, hl with | [_], _ => rfl) (by k_is) (by k_is) (by k_is) (by k_is)
    have t1 := DL.defT_mk (x := "is_design") (st := K04.s_is_design) (ps := ["value"]) KX G (tabs "is_design" (by decide)) (fun _ _ _ _ _ _ us hl => match us, hl with | [_], _ => rfl) (by k_is) (by k_is) (by k_is) (by k_is) (by k_is) (by rfl) (by first | rfl | decide +kernel) (by first | rfl | decide +kernel)
    have t2 := DL.defT_mk (x := "law") (st := K04.s_law) (ps := ["script"]) KX G (tabs "law" (by decide)) (fun _ _ _ _ _ _ us hl => match us, hl with | [_], _ => rfl) (by k_is) (by k_is) (by k_is) (by k_is) (by k_is) (by rfl) (by first | rfl | decide +kernel) (by first | rfl | decide +kernel)
    have b_len := PySem.W.mg_none_of KX G (n := "len") (by k_is)
    have b_isinstance := PySem.W.mg_none_of KX G (n := "isinstance") (by k_is)
    have b_str := PySem.W.mg_none_of KX G (n := "str") (by k_is)
    have b_tuple := PySem.W.mg_none_of KX G (n := "tuple") (by k_is)
    have b_list := PySem.W.mg_none_of KX G (n := "list") (by k_is)
    have b_bool := PySem.W.mg_none_of KX G (n := "bool") (by k_is)
    have b_int := PySem.W.mg_none_of KX G (n := "int") (by k_is)
    have b_range := PySem.W.mg_none_of KX G (n := "range") (by k_is)
    have b_all := PySem.W.mg_none_of KX G (n := "all") (by k_is)
    have b_zip := PySem.W.mg_none_of KX G (n := "zip") (by k_is)
    have b_sorted := PySem.W.mg_none_of KX G (n := "sorted") (by k_is)
    have b_set := PySem.W.mg_none_of KX G (n := "set") (by k_is)
    have c_MT := PySem.W.mg_of KX G (n := "MOST_TUPLES") (by k_is)
    have c_P := PySem.W.mg_of KX G (n := "PLAIN") (by k_is)
    have c_W := PySem.W.mg_of KX G (n := "WORDS") (by k_is)
    have gB := PySem.W.mg_of KX G (n := "BorderError") (by k_is)
    have gT := PySem.W.mg_of KX G (n := "BadType") (by k_is)
    have gD := PySem.W.mg_of KX G (n := "BadDesign") (by k_is)
    refine K04.law_at KX hmg (Z := ⟨⟨b_len, b_isinstance, b_str, b_tuple, b_list, b_bool, b_int, b_range, b_all, b_zip, b_sorted, b_set, ⟨_, c_MT⟩, c_P, ?kP, c_W, ?kW⟩, ⟨gB, gT, gD, ?xT, ?xD, ?eT, ?eD, ?kTT, ?kDT, ?kDD⟩, ⟨gT, ?x1, ?k1, ?b1, ?t1⟩, ⟨gD, ?x2, ?k2, ?b2, ?t2⟩, ?ne, t1, t2, d_is_type, d_p_is_type_of, d_require_design, d_require_type, d_has, d_lies_within, d_within, d_p_both_ways, d_p_cells_both_ways, d_p_functions_both_ways, d_p_law_taken, d_p_law_pick, d_p_law_alike, d_p_law_words, d_p_law_design, d_p_law_type, d_p_law_has, d_p_law_within, d_p_law_wrong⟩)
    (case kP => exact DL.kt_mk (by k_is) rfl rfl (by decide) (.cons ⟨_, rfl⟩ (.cons ⟨_, rfl⟩ (.cons ⟨_, rfl⟩ .nil))))
    (case kW => exact DL.kt_mk (by k_is) rfl rfl (by decide) (.cons ⟨_, rfl⟩ (.cons ⟨_, rfl⟩ (.cons ⟨_, rfl⟩ (.cons ⟨_, rfl⟩ (.cons ⟨_, rfl⟩ (.cons ⟨_, rfl⟩ (.cons ⟨_, rfl⟩ (.cons ⟨_, rfl⟩ (.cons ⟨_, rfl⟩ (.cons ⟨_, rfl⟩ (.cons ⟨_, rfl⟩ (.cons ⟨_, rfl⟩ (.cons ⟨_, rfl⟩ (.cons ⟨_, rfl⟩ .nil)))))))))))))))
    (case xT => exact PySem.W.exm_ref (by k_is) (by k_is) (by k_is) (by k_is))
    (case xD => exact PySem.W.exm_ref (by k_is) (by k_is) (by k_is) (by k_is))
    (case eT => exact ⟨(by k_is), (by k_is), (by k_is), (by k_is), (by k_is), (by k_is), (by k_is), (by k_is)⟩)
    (case eD => exact ⟨(by k_is), (by k_is), (by k_is), (by k_is), (by k_is), (by k_is), (by k_is), (by k_is)⟩)
    (case kTT => first | k_is | rfl | decide +kernel)
    (case kDT => first | k_is | rfl | decide +kernel)
    (case kDD => first | k_is | rfl | decide +kernel)
    (case x1 => first | kernel_rfl | rfl)
    (case k1 => k_is)
    (case b1 => k_is)
    (case t1 => k_is)
    (case x2 => first | kernel_rfl | rfl)
    (case k2 => k_is)
    (case b2 => k_is)
    (case t2 => k_is)
    (case ne => decide)
