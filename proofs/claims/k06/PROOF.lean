import PyProof.Rows.All
import Wide.All
import OpenK.AllK
import Wide.FinOn
import HandS.ForMost
import HandS.ForExc
import HandS.Wide
import HandS.Gcd
import HandS.Lambda
import HandS.ExcInit
import HandS.MakeKwOnly
import HandS.IsInst
import HandS.CallSlots
import HandS.More
import HandS.Flow
import HandS.Zip
import HandS.Strs
import HandS.OwnEq
import HandS.SortInts
import HandS.ExcField
import HandS.ExcIs
import HandS.TryMany
import HandS.EndTab
import HandS.Style
import HandS.Small
import KE.GoesEnum
import HandS.SetFor
import HandS.Conv
import HandS.Star
import HandS.DictComp
import KE.KMathGC
import KE.GoesMore
import PyProof.EnumMake
import PyProof.Draws
import HandS.Defaults
import HandS.Iter
import KE.GoesZip
import KE.KItemsList
import KE.KNestM
import HandS.Ends
import PySem.Challenge.RW_propfall_k06_whole_less_standing_more_li
set_option Elab.async false
set_option linter.all false
set_option maxRecDepth 100000
set_option maxHeartbeats 4000000
/-! Dx: the heap told as data. -/
namespace Dx
open PySem PySem.Spec PyProof.Rows L2

inductive D where
  | non | bl (b : Bool) | int (i : Int) | str (x : Str)
  | tup (ds : List D) | trk (ds : List D) | lst (ds : List D) | sql (ds : List D)
  | dic (kvs : List (Key × D)) | obj (C : Addr) (fs : List (Str × D)) | raw (a : Addr) | exc (a C : Addr) (d : Option Addr) (gs : List (Str × D))

mutual
inductive Dr (K : PySem.W.Frag) (B : Hp) : V → D → Prop
  | non : Dr K B .non .non
  | bl (b : Bool) : Dr K B (.bl b) (.bl b)
  | int (i : Int) : Dr K B (.int i) (.int i)
  | str (x : Str) : Dr K B (.str x) (.str x)
  | tup {a : Addr} {xs : List V} {ds : List D} : SqT K B a xs → DrA K B xs ds → Dr K B (.ref a) (.tup ds)
  | trk {a : Addr} {xs : List V} {ds : List D} : B a = some (.tup xs) → DrA K B xs ds → Dr K B (.ref a) (.trk ds)
  | lst {a : Addr} {xs : List V} {ds : List D} : B a = some (.lst xs) → DrA K B xs ds → Dr K B (.ref a) (.lst ds)
  | sql {a : Addr} {xs : List V} {ds : List D} : SqL K B a xs → DrA K B xs ds → Dr K B (.ref a) (.sql ds)
  | dic {a : Addr} {kvs : List (Key × V)} {es : List (Key × D)} : B a = some (.dK kvs) → DrK K B kvs es → Dr K B (.ref a) (.dic es)
  | obj {a C dx : Addr} {fs : List (Str × V)} {gs : List (Str × D)} : B a = some (.ins C dx fs) → DrF K B fs gs → Dr K B (.ref a) (.obj C gs)
  | raw (a : Addr) : Dr K B (.ref a) (.raw a)
  | exc0 (a C : Addr) : Dr K B (.ref a) (.exc a C none [])
  | exc {a C dd : Addr} {fs : List (Str × V)} {gs : List (Str × D)} : B dd = some (.xd fs) → DrF K B fs gs → Dr K B (.ref a) (.exc a C (some dd) gs)
inductive DrA (K : PySem.W.Frag) (B : Hp) : List V → List D → Prop
  | nil : DrA K B [] []
  | cons {v : V} {vs : List V} {d : D} {ds : List D} : Dr K B v d → DrA K B vs ds → DrA K B (v :: vs) (d :: ds)
inductive DrK (K : PySem.W.Frag) (B : Hp) : List (Key × V) → List (Key × D) → Prop
  | nil : DrK K B [] []
  | cons {k : Key} {v : V} {vs : List (Key × V)} {d : D} {ds : List (Key × D)} : Dr K B v d → DrK K B vs ds → DrK K B ((k, v) :: vs) ((k, d) :: ds)
inductive DrF (K : PySem.W.Frag) (B : Hp) : List (Str × V) → List (Str × D) → Prop
  | nil : DrF K B [] []
  | cons {k : Str} {v : V} {vs : List (Str × V)} {d : D} {ds : List (Str × D)} : Dr K B v d → DrF K B vs ds → DrF K B ((k, v) :: vs) ((k, d) :: ds)
end

theorem Same.sqT {K : PySem.W.Frag} {H H' : Hp} {a : Addr} {xs : List V} (e : Same H H') (h : SqT K H a xs) : SqT K H' a xs := by
  rcases h with (h | ⟨o, h⟩) | h
  · exact .inl (.inl (e _ _ h))
  · exact .inl (.inr ⟨o, e _ _ h⟩)
  · exact .inr h

mutual
theorem Dr.mono {K : PySem.W.Frag} {B B' : Hp} (e : Same B B') {v : V} {d : D} (h : Dr K B v d) : Dr K B' v d := by
  cases h with
  | non => exact .non
  | bl b => exact .bl b
  | int i => exact .int i
  | str x => exact .str x
  | tup h1 h2 => exact .tup (Same.sqT e h1) (DrA.mono e h2)
  | trk h1 h2 => exact .trk (e _ _ h1) (DrA.mono e h2)
  | lst h1 h2 => exact .lst (e _ _ h1) (DrA.mono e h2)
  | sql h1 h2 => exact .sql (e.seq h1) (DrA.mono e h2)
  | dic h1 h2 => exact .dic (e _ _ h1) (DrK.mono e h2)
  | obj h1 h2 => exact .obj (e _ _ h1) (DrF.mono e h2)
  | raw a => exact .raw a
  | exc0 a C => exact .exc0 a C
  | exc h1 h2 => exact .exc (e _ _ h1) (DrF.mono e h2)
theorem DrA.mono {K : PySem.W.Frag} {B B' : Hp} (e : Same B B') {v : List V} {d : List D} (h : DrA K B v d) : DrA K B' v d := by
  cases h with
  | nil => exact .nil
  | cons h1 h2 => exact .cons (Dr.mono e h1) (DrA.mono e h2)
theorem DrK.mono {K : PySem.W.Frag} {B B' : Hp} (e : Same B B') {v : List (Key × V)} {d : List (Key × D)} (h : DrK K B v d) : DrK K B' v d := by
  cases h with
  | nil => exact .nil
  | cons h1 h2 => exact .cons (Dr.mono e h1) (DrK.mono e h2)
theorem DrF.mono {K : PySem.W.Frag} {B B' : Hp} (e : Same B B') {v : List (Str × V)} {d : List (Str × D)} (h : DrF K B v d) : DrF K B' v d := by
  cases h with
  | nil => exact .nil
  | cons h1 h2 => exact .cons (Dr.mono e h1) (DrF.mono e h2)
end

theorem DrA.length {K : PySem.W.Frag} {B : Hp} {vs : List V} {ds : List D} (h : DrA K B vs ds) : vs.length = ds.length := by
  induction ds generalizing vs with
  | nil => cases h; rfl
  | cons d ds ih => cases h with | cons h1 h2 => rw [List.length_cons, List.length_cons, ih h2]
theorem DrA.get {K : PySem.W.Frag} {B : Hp} {vs : List V} {ds : List D} {i : Nat} {d : D} (h : DrA K B vs ds) (e : ds[i]? = some d) : ∃ v, vs[i]? = some v ∧ Dr K B v d := by
  induction ds generalizing vs i with
  | nil => simp at e
  | cons c ds ih =>
    cases h with
    | cons h1 h2 =>
      cases i with
      | zero => simp at e; subst e; exact ⟨_, rfl, h1⟩
      | succ i =>
        simp at e
        obtain ⟨v, a, b⟩ := ih h2 e
        exact ⟨v, by simpa using a, b⟩
theorem DrA.get' {K : PySem.W.Frag} {B : Hp} {vs : List V} {ds : List D} {i : Nat} {v : V} (h : DrA K B vs ds) (e : vs[i]? = some v) : ∃ d, ds[i]? = some d ∧ Dr K B v d := by
  induction vs generalizing ds i with
  | nil => simp at e
  | cons c vs ih =>
    cases h with
    | cons h1 h2 =>
      cases i with
      | zero => simp at e; subst e; exact ⟨_, rfl, h1⟩
      | succ i =>
        simp at e
        obtain ⟨v, a, b⟩ := ih h2 e
        exact ⟨v, by simpa using a, b⟩
theorem DrA.append {K : PySem.W.Frag} {B : Hp} {vs ws : List V} {ds es : List D} (h : DrA K B vs ds) (g : DrA K B ws es) : DrA K B (vs ++ ws) (ds ++ es) := by
  induction ds generalizing vs with
  | nil => cases h; exact g
  | cons c ds ih => cases h with | cons h1 h2 => exact .cons h1 (ih h2)
theorem DrA.set {K : PySem.W.Frag} {B : Hp} {vs : List V} {ds : List D} {v : V} {d : D} (h : DrA K B vs ds) (g : Dr K B v d) (i : Nat) : DrA K B (vs.set i v) (ds.set i d) := by
  induction ds generalizing vs i with
  | nil => cases h; exact .nil
  | cons c ds ih =>
    cases h with
    | cons h1 h2 =>
      cases i with
      | zero => exact .cons g h2
      | succ i => exact .cons h1 (ih h2 i)
theorem DrA.drop {K : PySem.W.Frag} {B : Hp} {vs : List V} {ds : List D} (h : DrA K B vs ds) (n : Nat) : DrA K B (vs.drop n) (ds.drop n) := by
  induction ds generalizing vs n with
  | nil => cases h; rw [List.drop_nil, List.drop_nil]; exact .nil
  | cons c ds ih =>
    cases h with
    | cons h1 h2 =>
      cases n with
      | zero => exact .cons h1 h2
      | succ n => exact ih h2 n
theorem DrA.take {K : PySem.W.Frag} {B : Hp} {vs : List V} {ds : List D} (h : DrA K B vs ds) (n : Nat) : DrA K B (vs.take n) (ds.take n) := by
  induction ds generalizing vs n with
  | nil => cases h; rw [List.take_nil, List.take_nil]; exact .nil
  | cons c ds ih =>
    cases h with
    | cons h1 h2 =>
      cases n with
      | zero => exact .nil
      | succ n => exact .cons h1 (ih h2 n)
theorem DrF.look {K : PySem.W.Frag} {B : Hp} {fs : List (Str × V)} {gs : List (Str × D)} {f : Str} {d : D} (h : DrF K B fs gs) (e : gs.lookup f = some d) : ∃ v, fs.lookup f = some v ∧ Dr K B v d := by
  induction gs generalizing fs with
  | nil => simp at e
  | cons c gs ih =>
    cases h with
    | cons h1 h2 =>
      rename_i k v vs d' 
      rw [List.lookup_cons] at e ⊢
      cases q : (f == k) with
      | true => rw [q] at e; cases e; exact ⟨_, rfl, h1⟩
      | false => rw [q] at e; exact ih h2 e
theorem DrF.lookN {K : PySem.W.Frag} {B : Hp} {fs : List (Str × V)} {gs : List (Str × D)} {f : Str} (h : DrF K B fs gs) (e : gs.lookup f = none) : fs.lookup f = none := by
  induction gs generalizing fs with
  | nil => cases h; rfl
  | cons c gs ih =>
    cases h with
    | cons h1 h2 =>
      rename_i k v vs d' 
      rw [List.lookup_cons] at e ⊢
      cases q : (f == k) with
      | true => rw [q] at e; cases e
      | false => rw [q] at e; exact ih h2 e
theorem DrA.at {K : PySem.W.Frag} {B : Hp} {vs : List V} {ds : List D} {i : Int} {d : D} (h : DrA K B vs ds) (e : atI ds i = some d) : ∃ v, atI vs i = some v ∧ Dr K B v d := by
  unfold atI at e ⊢
  rw [h.length]
  cases q : ixN ds.length i with
  | none => rw [q] at e; cases e
  | some j =>
    rw [q] at e
    exact h.get e
theorem Dr.untrk {K : PySem.W.Frag} {B : Hp} {v : V} {ds : List D} (h : Dr K B v (.trk ds)) : Dr K B v (.tup ds) := by
  cases h with
  | trk h1 h2 => exact .tup (.inl (.inl h1)) h2
end Dx
set_option Elab.async false
set_option linter.all false
set_option maxRecDepth 100000
set_option maxHeartbeats 4000000
set_option autoImplicit false
/-! Ms: which fields keep what was found once, and what may stand there. -/
namespace Dx
open PySem L2
def memoName (f : Str) : Bool := (["_known", "_overlaid", "_held", "_spares", "_many", "_many_ahead"] : List Str).contains f
/-! ### what data are, whatever tells them -/
mutual
def D.cn : D → D
  | .trk ds => .tup (D.cnA ds)
  | .tup ds => .tup (D.cnA ds)
  | .lst ds => .lst (D.cnA ds)
  | .sql ds => .lst (D.cnA ds)
  | .non => .non
  | .bl b => .bl b
  | .int i => .int i
  | .str x => .str x
  | .dic es => .dic es
  | .obj C fs => .obj C fs
  | .raw a => .raw a
  | .exc a C d gs => .exc a C d gs
def D.cnA : List D → List D
  | [] => []
  | d :: ds => D.cn d :: D.cnA ds
end
theorem cnA_map : ∀ ds : List D, D.cnA ds = ds.map D.cn
  | [] => rfl
  | d :: ds => by
    unfold D.cnA
    rw [cnA_map ds, List.map_cons]
/-- data that are told by what is in them -/
inductive Sq : D → Prop
  | non : Sq .non
  | bl (b : Bool) : Sq (.bl b)
  | int (i : Int) : Sq (.int i)
  | str (x : Str) : Sq (.str x)
  | trk {ds : List D} (h : ∀ d ∈ ds, Sq d) : Sq (.trk ds)
  | tup {ds : List D} (h : ∀ d ∈ ds, Sq d) : Sq (.tup ds)
  | lst {ds : List D} (h : ∀ d ∈ ds, Sq d) : Sq (.lst ds)
  | sql {ds : List D} (h : ∀ d ∈ ds, Sq d) : Sq (.sql ds)
/-- the module's own things are not tracked -/
def KFun (K : PySem.W.Frag) (H : Hp) : Prop := ∀ a o, K.lookup a = some o → H a = none
theorem vals_fun : ∀ {xs ys : List V} {its : List Value}, Vals xs its → Vals ys its → xs = ys
  | [], ys, its, h, g => by cases h; cases g; rfl
  | x :: xs, ys, its, h, g => by
    cases h with
    | cons h1 h2 =>
      cases g with
      | cons g1 g2 =>
        have e := h1.abs
        rw [g1.abs] at e
        rw [Option.some.inj e, vals_fun h2 g2]
section
variable {K : PySem.W.Frag} {B : Hp} {a : Addr} {xs ys : List V}
theorem KFun.rd (k : KFun K B) {o : Obj} {u : HO} (e : K.lookup a = some o) (r : Rd B a u) : False := by
  have := k a o e
  rcases r with r | ⟨ob, r⟩ <;> · rw [this] at r; cases r
theorem rd_fun {u w : HO} (h : Rd B a u) (g : Rd B a w) (n : ∀ o v, u ≠ .frz o v) (m : ∀ o v, w ≠ .frz o v) : u = w := by
  rcases h with h | ⟨o, h⟩ <;> rcases g with g | ⟨o', g⟩ <;> rw [h] at g <;> cases g
  · rfl
  · exact absurd rfl (n _ _)
  · exact absurd rfl (m _ _)
  · rfl
theorem sqT_fun (k : KFun K B) (h : SqT K B a xs) (g : SqT K B a ys) : xs = ys := by
  rcases h with h | ⟨o, its, n, e, c, d, z, v⟩ <;> rcases g with g | ⟨o', its', n', e', c', d', z', v'⟩
  · have := rd_fun h g (fun _ _ z => nomatch z) (fun _ _ z => nomatch z)
    cases this
    rfl
  · exact (k.rd e' h).elim
  · exact (k.rd e g).elim
  · rw [e] at e'
    cases e'
    rw [d] at d'
    cases d'
    exact vals_fun v v'
theorem sqL_fun (k : KFun K B) (h : SqL K B a xs) (g : SqL K B a ys) : xs = ys := by
  rcases h with h | ⟨o, its, n, e, c, d, z, w, v⟩ <;> rcases g with g | ⟨o', its', n', e', c', d', z', w', v'⟩
  · have := rd_fun h g (fun _ _ z => nomatch z) (fun _ _ z => nomatch z)
    cases this
    rfl
  · exact (k.rd e' h).elim
  · exact (k.rd e g).elim
  · rw [e] at e'
    cases e'
    rw [z] at z'
    cases z'
    exact vals_fun v v'
theorem sqLT_no (k : KFun K B) (h : SqL K B a xs) (g : SqT K B a ys) : False := by
  rcases h with h | ⟨o, its, n, e, c, d, z, w, v⟩ <;> rcases g with g | ⟨o', its', n', e', c', d', z', v'⟩
  · have := rd_fun h g (fun _ _ z => nomatch z) (fun _ _ z => nomatch z)
    cases this
  · exact (k.rd e' h).elim
  · exact (k.rd e g).elim
  · rw [e] at e'
    cases e'
    rw [c] at c'
    exact absurd c' (by decide)
/-- a sequence, told as what -/
inductive Seq (K : PySem.W.Frag) (B : Hp) (a : Addr) : Bool → List V → Prop
  | l {xs : List V} : SqL K B a xs → Seq K B a true xs
  | t {xs : List V} : SqT K B a xs → Seq K B a false xs
theorem Seq.fun {p q : Bool} (k : KFun K B) (h : Seq K B a p xs) (g : Seq K B a q ys) : p = q ∧ xs = ys := by
  cases h with
  | l h => cases g with
    | l g => exact ⟨rfl, sqL_fun k h g⟩
    | t g => exact (sqLT_no k h g).elim
  | t h => cases g with
    | l g => exact (sqLT_no k g h).elim
    | t g => exact ⟨rfl, sqT_fun k h g⟩
def D.sqk : D → Option (Bool × List D)
  | .trk ds => some (false, ds)
  | .tup ds => some (false, ds)
  | .lst ds => some (true, ds)
  | .sql ds => some (true, ds)
  | _ => none
theorem Dr.sqk {v : V} {d : D} {p : Bool} {ds : List D} (h : Dr K B v d) (e : d.sqk = some (p, ds)) : ∃ a xs, v = .ref a ∧ Seq K B a p xs ∧ DrA K B xs ds ∧ d.cn = if p = true then .lst (D.cnA ds) else .tup (D.cnA ds) := by
  cases h with
  | tup h1 h2 => cases e; exact ⟨_, _, rfl, .t h1, h2, rfl⟩
  | trk h1 h2 => cases e; exact ⟨_, _, rfl, .t (.inl (.inl h1)), h2, rfl⟩
  | lst h1 h2 => cases e; exact ⟨_, _, rfl, .l (SqL.of h1), h2, rfl⟩
  | sql h1 h2 => cases e; exact ⟨_, _, rfl, .l h1, h2, rfl⟩
  | _ => cases e
theorem Sq.cases2 {d : D} (h : Sq d) : (∃ p ds, d.sqk = some (p, ds) ∧ ∀ x ∈ ds, Sq x) ∨ d = .non ∨ (∃ b, d = .bl b) ∨ (∃ i, d = .int i) ∨ ∃ x, d = .str x := by
  cases h with
  | non => exact .inr (.inl rfl)
  | bl b => exact .inr (.inr (.inl ⟨b, rfl⟩))
  | int i => exact .inr (.inr (.inr (.inl ⟨i, rfl⟩)))
  | str x => exact .inr (.inr (.inr (.inr ⟨x, rfl⟩)))
  | trk h => exact .inl ⟨_, _, rfl, h⟩
  | tup h => exact .inl ⟨_, _, rfl, h⟩
  | lst h => exact .inl ⟨_, _, rfl, h⟩
  | sql h => exact .inl ⟨_, _, rfl, h⟩
theorem cn_arr (k : KFun K B) : ∀ {xs : List V} {ds es : List D}, (∀ d ∈ ds, ∀ v e, Sq e → Dr K B v d → Dr K B v e → d.cn = e.cn) → (∀ e ∈ es, Sq e) → DrA K B xs ds → DrA K B xs es → D.cnA ds = D.cnA es
  | [], ds, es, _, _, h, g => by cases h; cases g; rfl
  | x :: xs, ds, es, ih, he, h, g => by
    cases h with
    | cons h1 h2 =>
      cases g with
      | cons g1 g2 =>
        unfold D.cnA
        rw [ih _ List.mem_cons_self _ _ (he _ List.mem_cons_self) h1 g1, cn_arr k (fun d hd => ih d (List.mem_cons_of_mem _ hd)) (fun e h => he e (List.mem_cons_of_mem _ h)) h2 g2]
theorem cn_step (k : KFun K B) {v : V} {d e : D} {p : Bool} {ds : List D} (hd : d.sqk = some (p, ds)) (ih : ∀ x ∈ ds, ∀ v e, Sq e → Dr K B v x → Dr K B v e → x.cn = e.cn) (q : Sq e) (h : Dr K B v d) (g : Dr K B v e) : d.cn = e.cn := by
  obtain ⟨a, xs, rfl, s1, h1, c1⟩ := h.sqk hd
  rcases q.cases2 with ⟨p', es, he, hs⟩ | rfl | ⟨b, rfl⟩ | ⟨i, rfl⟩ | ⟨x, rfl⟩
  · obtain ⟨a', ys, e, s2, g1, c2⟩ := g.sqk he
    cases e
    obtain ⟨rfl, rfl⟩ := s1.fun k s2
    rw [c1, c2, cn_arr k ih hs h1 g1]
  all_goals cases g
theorem cn_fun (k : KFun K B) {d : D} (s : Sq d) : ∀ v e, Sq e → Dr K B v d → Dr K B v e → d.cn = e.cn := by
  induction s with
  | non =>
    intro v e q h g
    cases h
    rcases q.cases2 with ⟨p', es, he, hs⟩ | rfl | ⟨b, rfl⟩ | ⟨i, rfl⟩ | ⟨x, rfl⟩
    · obtain ⟨a', ys, e, _⟩ := g.sqk he
      cases e
    · rfl
    all_goals cases g
  | bl b =>
    intro v e q h g
    cases h
    rcases q.cases2 with ⟨p', es, he, hs⟩ | rfl | ⟨b, rfl⟩ | ⟨i, rfl⟩ | ⟨x, rfl⟩
    · obtain ⟨a', ys, e, _⟩ := g.sqk he
      cases e
    all_goals first | (cases g; done) | (cases g; rfl)
  | int i =>
    intro v e q h g
    cases h
    rcases q.cases2 with ⟨p', es, he, hs⟩ | rfl | ⟨b, rfl⟩ | ⟨i, rfl⟩ | ⟨x, rfl⟩
    · obtain ⟨a', ys, e, _⟩ := g.sqk he
      cases e
    all_goals first | (cases g; done) | (cases g; rfl)
  | str x =>
    intro v e q h g
    cases h
    rcases q.cases2 with ⟨p', es, he, hs⟩ | rfl | ⟨b, rfl⟩ | ⟨i, rfl⟩ | ⟨x, rfl⟩
    · obtain ⟨a', ys, e, _⟩ := g.sqk he
      cases e
    all_goals first | (cases g; done) | (cases g; rfl)
  | trk h ih => intro v e q a b; exact cn_step k rfl (fun x hx => ih x hx) q a b
  | tup h ih => intro v e q a b; exact cn_step k rfl (fun x hx => ih x hx) q a b
  | lst h ih => intro v e q a b; exact cn_step k rfl (fun x hx => ih x hx) q a b
  | sql h ih => intro v e q a b; exact cn_step k rfl (fun x hx => ih x hx) q a b
theorem DrF.look' {fs : List (Str × V)} {gs : List (Str × D)} {f : Str} {v : V} (h : DrF K B fs gs) (e : fs.lookup f = some v) : ∃ d, gs.lookup f = some d ∧ Dr K B v d := by
  cases q : gs.lookup f with
  | none => rw [h.lookN q] at e; cases e
  | some d =>
    obtain ⟨u, h1, h2⟩ := h.look q
    rw [e] at h1
    cases h1
    exact ⟨d, rfl, h2⟩
end
/-- a weight over one bottom: its place, it, and it as often as its place -/
def wD (w : (Int × Int) × Int × Int) : D := .tup [.tup [.int w.1.1, .int w.1.2], .int w.2.1, .int w.2.2]
/-- the moment at p / q, over the one bottom and q -/
def momT (ws : List ((Int × Int) × Int × Int)) (p q : Int) : Int := ws.foldl (fun m w => if w.1.1 * q < p * w.1.2 then m + (w.2.1 * p - w.2.2 * q) else m) 0
/-- keys, their many bounded -/
def keyBox (k : List Key) : Prop := (∃ p q : Int, k = [.inl p, .inl q] ∧ -100000 ≤ p ∧ p ≤ 100000 ∧ -2 ≤ q ∧ q ≤ 60) ∨ ∃ p q r : Int, k = [.inl p, .inl q, .inl r] ∧ -20 ≤ p ∧ p ≤ 20 ∧ -20 ≤ q ∧ q ≤ 20 ∧ -20 ≤ r ∧ r ≤ 20
/-! ### what boards bend, for what is kept of them -/
def hSum (qs : List Rat) : Rat := qs.foldl (· + ·) 0
def hRamp (p x : Rat) : Rat := if x < p then p - x else 0
def hMom (ws : List (Rat × Rat)) (p : Rat) : Rat := hSum (ws.map fun z => z.2 * hRamp p z.1)
def hAbove (ws : List (Rat × Rat)) (l u : Int) (q : Rat) : Rat := hMom ws l * ((u : Rat) - q) + hMom ws u * (q - (l : Rat)) - hMom ws q * (((u - l : Int)) : Rat)
def hBend (ws : List (Rat × Rat)) (l u : Int) (q : Rat) : Rat := hAbove ws l u q / (((u - l : Int)) : Rat)
def hStep (ws : List (Rat × Rat)) (l u : Int) (s : Rat × Rat) (x : Rat) : Rat × Rat :=
  if (l : Rat) < x then (if x < (u : Rat) then (if s.1 < hBend ws l u x then (hBend ws l u x, x) else (if hBend ws l u x < s.1 then s else (if x < s.2 then (hBend ws l u x, x) else s))) else s) else s
def hFold (ws : List (Rat × Rat)) (l u : Int) (xs : List Rat) : Rat × Rat := xs.foldl (hStep ws l u) (0, (l : Rat))
def hGreat (ws : List (Rat × Rat)) (l u : Int) : Rat × Rat := hFold ws l u (ws.map fun z => z.1)
def hTm (B : Int) (z : Rat × Rat) : Int := B / ((z.1.den : Int) * (z.2.den : Int))
/-- a weight's row over the one bottom -/
def hRow (B : Int) (z : Rat × Rat) : (Int × Int) × Int × Int := ((z.1.num, (z.1.den : Int)), z.2.num * (z.1.den : Int) * hTm B z, z.2.num * z.1.num * hTm B z)
def frC (q : Rat) : D := .tup [.int q.num, .int (q.den : Int)]
def valM (es : List (Key × D)) (k : Key) : Option D := (es.find? fun kv => decide (kv.1 = k)).map (·.2)
/-- the bend, the place of a rest, the weights that a bearing keeps -/
def BndIs (gs : List (Str × D)) (bq : Rat) : Prop := ∃ d, gs.lookup ("_bend" : Str) = some d ∧ d.cn = frC bq
def PlcIs (gs : List (Str × D)) (i l : Int) : Prop := ∃ ps, gs.lookup ("_places" : Str) = some (.dic ps) ∧ valM ps (.inl i) = some (.int l)
def WtsIs (gs : List (Str × D)) (zs : List (Rat × Rat)) : Prop := ∃ C gs2 d0 B, gs.lookup ("_moments" : Str) = some (.obj C gs2) ∧ gs2.lookup ("_weights" : Str) = some d0 ∧ d0.cn = D.lst ((zs.map (hRow B)).map wD) ∧ gs2.lookup ("_bottom" : Str) = some (.int B) ∧ 0 < B ∧ ∀ z ∈ zs, (z.1.den : Int) * (z.2.den : Int) ∣ B
def HeldIs (gs : List (Str × D)) (k : List Key) (d : D) : Prop := ∃ bq p q l u zs, k = [.inl p, .inl q] ∧ BndIs gs bq ∧ PlcIs gs p l ∧ PlcIs gs q u ∧ WtsIs gs zs ∧ d = .bl (!decide (bq < (hGreat zs l u).1))
def BrgWf (gs : List (Str × D)) : Prop := (∀ d, gs.lookup ("_bend" : Str) = some d → Sq d) ∧ (∀ d, gs.lookup ("_places" : Str) = some d → ∃ ps, d = .dic ps) ∧ ∀ d, gs.lookup ("_moments" : Str) = some d → ∃ C gs2, d = .obj C gs2 ∧ ∀ d0, gs2.lookup ("_weights" : Str) = some d0 → Sq d0
/-- what the spec speaks of is told by what is in it -/
def memoWf (f : Str) (gs : List (Str × D)) : Prop :=
  (f = "_known" → ∀ d, gs.lookup ("_weights" : Str) = some d → Sq d) ∧ (f = "_held" → BrgWf gs)
def memoSpec (f : Str) (gs : List (Str × D)) (k : List Key) (d : D) : Prop :=
  (f = "_known" → ∀ d0 ws, gs.lookup ("_weights" : Str) = some d0 → d0.cn = D.lst (ws.map wD) → ∃ p q : Int, k = [.inl p, .inl q] ∧ d = .int (momT ws p q)) ∧ (f = "_held" → HeldIs gs k d)
section
variable {K : PySem.W.Frag} {B : Hp} {fs : List (Str × V)} {gs gs' : List (Str × D)}
theorem Dr.int_only {i : Int} {d : D} (h : Dr K B (.int i) d) : d = .int i := by
  cases h
  rfl
theorem DrK.int_at {kvs : List (Key × V)} {es es' : List (Key × D)} {k : Key} {l : Int} (h : DrK K B kvs es) (g : DrK K B kvs es') (e : valM es k = some (.int l)) : valM es' k = some (.int l) := by
  induction es generalizing kvs es' with
  | nil => cases e
  | cons c es ih =>
    cases h with
    | cons h1 h2 =>
      cases g with
      | cons g1 g2 =>
        rename_i k0 v0 vs0 d0 d1 ds1
        unfold valM at e ⊢
        rw [List.find?_cons] at e ⊢
        by_cases hk : k0 = k
        · rw [show decide ((k0, d0).1 = k) = true from decide_eq_true hk] at e
          rw [show decide ((k0, d1).1 = k) = true from decide_eq_true hk]
          have e : some d0 = some (D.int l) := e
          cases e
          cases h1
          rw [g1.int_only]
          rfl
        · rw [show decide ((k0, d0).1 = k) = false from decide_eq_false hk] at e
          rw [show decide ((k0, d1).1 = k) = false from decide_eq_false hk]
          exact ih h2 g2 e
theorem BndIs.tr {bq : Rat} (kf : KFun K B) (h : DrF K B fs gs) (h' : DrF K B fs gs') (w : BrgWf gs) (w' : BrgWf gs') (s : BndIs gs bq) : BndIs gs' bq := by
  obtain ⟨d, e, c⟩ := s
  obtain ⟨v, e1, dr⟩ := h.look e
  obtain ⟨d', e2, dr'⟩ := h'.look' e1
  exact ⟨d', e2, by rw [← c]; exact (cn_fun kf (w.1 d e) v d' (w'.1 d' e2) dr dr').symm⟩
theorem PlcIs.tr {i l : Int} (h : DrF K B fs gs) (h' : DrF K B fs gs') (w' : BrgWf gs') (s : PlcIs gs i l) : PlcIs gs' i l := by
  obtain ⟨ps, e, c⟩ := s
  obtain ⟨v, e1, dr⟩ := h.look e
  obtain ⟨d', e2, dr'⟩ := h'.look' e1
  obtain ⟨ps', rfl⟩ := w'.2.1 d' e2
  cases dr with
  | dic b1 k1 =>
    cases dr' with
    | dic b2 k2 =>
      rw [b1] at b2
      cases b2
      exact ⟨ps', e2, k1.int_at k2 c⟩
theorem WtsIs.tr {zs : List (Rat × Rat)} (kf : KFun K B) (h : DrF K B fs gs) (h' : DrF K B fs gs') (w : BrgWf gs) (w' : BrgWf gs') (s : WtsIs gs zs) : WtsIs gs' zs := by
  obtain ⟨C, gs2, d0, Bo, e, e0, c, eb, B0, hz⟩ := s
  obtain ⟨v, e1, dr⟩ := h.look e
  obtain ⟨d', e2, dr'⟩ := h'.look' e1
  obtain ⟨C', gs2', rfl, s'⟩ := w'.2.2 d' e2
  obtain ⟨C'', gs2'', e3, s⟩ := w.2.2 _ e
  cases e3
  cases dr with
  | obj b1 k1 =>
    cases dr' with
    | obj b2 k2 =>
      rw [b1] at b2
      cases b2
      obtain ⟨v0, f0, dr0⟩ := k1.look e0
      obtain ⟨d0', g0, dr0'⟩ := k2.look' f0
      obtain ⟨vb, fb, drb⟩ := k1.look eb
      obtain ⟨db, gb, drb'⟩ := k2.look' fb
      cases drb
      rw [drb'.int_only] at gb
      exact ⟨_, gs2', d0', Bo, e2, g0, by rw [← c]; exact (cn_fun kf (s d0 e0) v0 d0' (s' d0' g0) dr0 dr0').symm, gb, B0, hz⟩
end
theorem memo_trans {K : PySem.W.Frag} {B : Hp} {f : Str} {fs : List (Str × V)} {gs gs' : List (Str × D)} {k : List Key} {d : D} (kf : KFun K B) (h : DrF K B fs gs) (h' : DrF K B fs gs') (w : memoWf f gs) (w' : memoWf f gs') (s : memoSpec f gs k d) : memoSpec f gs' k d := ⟨fun hf d0 ws e c => by
  obtain ⟨v, e1, dr'⟩ := h'.look e
  obtain ⟨d1, e2, dr⟩ := h.look' e1
  exact s.1 hf d1 ws e2 (by rw [← c]; exact cn_fun kf (w.1 hf d1 e2) v d0 (w'.1 hf d0 e) dr dr'), fun hf => by
  obtain ⟨bq, p, q, l, u, zs, hk, h1, h2, h3, h4, hd⟩ := s.2 hf
  have w := w.2 hf
  have w' := w'.2 hf
  exact ⟨bq, p, q, l, u, zs, hk, h1.tr kf h h' w w', h2.tr h h' w', h3.tr h h' w', h4.tr kf h h' w w', hd⟩⟩
theorem wD_inj {x y : (Int × Int) × Int × Int} (h : wD x = wD y) : x = y := by
  obtain ⟨⟨a, b⟩, c, d⟩ := x
  obtain ⟨⟨a', b'⟩, c', d'⟩ := y
  injection h with h
  injection h with h1 h2
  injection h1 with h1
  injection h1 with h3 h4
  injection h3 with h3
  injection h4 with h4 _
  injection h4 with h4
  injection h2 with h5 h6
  injection h5 with h5
  injection h6 with h6 _
  injection h6 with h6
  subst h3 h4 h5 h6
  rfl
theorem wDs_inj : ∀ {l r : List ((Int × Int) × Int × Int)}, l.map wD = r.map wD → l = r
  | [], [], _ => rfl
  | [], _ :: _, h => by cases h
  | _ :: _, [], h => by cases h
  | x :: l, y :: r, h => by
    injection h with h1 h2
    rw [wD_inj h1, wDs_inj h2]
/-- keys that may be asked for: of a box, or the place of a weight that is kept -/
def keyOk (f : Str) (gs : List (Str × D)) (k : List Key) : Prop :=
  keyBox k ∨ (f = "_known" ∧ ∃ (d0 : D) (ws : List ((Int × Int) × Int × Int)) (w : (Int × Int) × Int × Int), gs.lookup ("_weights" : Str) = some d0 ∧ d0.cn = D.lst (ws.map wD) ∧ ws.length ≤ 1000 ∧ w ∈ ws ∧ k = [.inl w.1.1, .inl w.1.2])
theorem key_trans {K : PySem.W.Frag} {B : Hp} {f : Str} {fs : List (Str × V)} {gs gs' : List (Str × D)} {k : List Key} (kf : KFun K B) (h : DrF K B fs gs) (h' : DrF K B fs gs') (w : memoWf f gs) (w' : memoWf f gs') (s : keyOk f gs k) : keyOk f gs' k := by
  rcases s with s | ⟨hf, d0, ws, x, e, c, l, hx, hk⟩
  · exact .inl s
  · obtain ⟨v, e1, dr⟩ := h.look e
    obtain ⟨d1, e2, dr'⟩ := h'.look' e1
    exact .inr ⟨hf, d1, ws, x, e2, by rw [← c]; exact cn_fun kf (w'.1 hf d1 e2) v d0 (w.1 hf d0 e) dr' dr, l, hx, hk⟩
def keyCode : List Key → Nat
  | [.inl p, .inl q] => (p + 100000).toNat * 63 + (q + 2).toNat
  | [.inl p, .inl q, .inl r] => 12700000 + ((p + 20).toNat * 41 + (q + 20).toNat) * 41 + (r + 20).toNat
  | _ => 0
theorem keyCode_lt {k : List Key} (h : keyBox k) : keyCode k < 13000000 := by
  rcases h with ⟨p, q, rfl, h⟩ | ⟨p, q, r, rfl, h⟩
  · show (p + 100000).toNat * 63 + (q + 2).toNat < 13000000
    omega
  · show 12700000 + ((p + 20).toNat * 41 + (q + 20).toNat) * 41 + (r + 20).toNat < 13000000
    omega
theorem keyCode_inj {k l : List Key} (h : keyBox k) (g : keyBox l) (e : keyCode k = keyCode l) : k = l := by
  rcases h with ⟨p, q, rfl, h⟩ | ⟨p, q, r, rfl, h⟩
  · rcases g with ⟨p', q', rfl, g⟩ | ⟨p', q', r', rfl, g⟩
    · have e : (p + 100000).toNat * 63 + (q + 2).toNat = (p' + 100000).toNat * 63 + (q' + 2).toNat := e
      have h1 : p = p' := by omega
      have h2 : q = q' := by omega
      rw [h1, h2]
    · have e : (p + 100000).toNat * 63 + (q + 2).toNat = 12700000 + ((p' + 20).toNat * 41 + (q' + 20).toNat) * 41 + (r' + 20).toNat := e
      omega
  · rcases g with ⟨p', q', rfl, g⟩ | ⟨p', q', r', rfl, g⟩
    · have e : 12700000 + ((p + 20).toNat * 41 + (q + 20).toNat) * 41 + (r + 20).toNat = (p' + 100000).toNat * 63 + (q' + 2).toNat := e
      omega
    · have e : 12700000 + ((p + 20).toNat * 41 + (q + 20).toNat) * 41 + (r + 20).toNat = 12700000 + ((p' + 20).toNat * 41 + (q' + 20).toNat) * 41 + (r' + 20).toNat := e
      have h3 : (p + 20).toNat * 41 + (q + 20).toNat = (p' + 20).toNat * 41 + (q' + 20).toNat := by omega
      have h1 : p = p' := by omega
      have h2 : q = q' := by omega
      have h4 : r = r' := by omega
      rw [h1, h2, h4]
theorem nodup_lt : ∀ (n : Nat) (l : List Nat), l.Nodup → (∀ x ∈ l, x < n) → l.length ≤ n
  | 0, l, _, h => by
    cases l with
    | nil => exact Nat.le_refl 0
    | cons x l => exact absurd (h x List.mem_cons_self) (Nat.not_lt_zero x)
  | n + 1, l, nd, h => by
    have nd2 : (l.erase n).Nodup := nd.erase n
    have h2 : ∀ x ∈ l.erase n, x < n := fun x hx => by
      have h3 := h x (List.mem_of_mem_erase hx)
      have : x ≠ n := fun z => by subst z; exact (List.Nodup.not_mem_erase nd) hx
      omega
    have ih := nodup_lt n (l.erase n) nd2 h2
    have := List.length_erase_le (a := n) (l := l)
    by_cases hn : n ∈ l
    · rw [List.length_erase_of_mem hn] at ih
      omega
    · rw [List.erase_of_not_mem hn] at ih
      omega
theorem nodup_mapc : ∀ (l : List (List Key)), l.Nodup → (∀ k ∈ l, keyBox k) → (l.map keyCode).Nodup
  | [], _, _ => List.nodup_nil
  | k :: l, nd, h => by
    rw [List.map_cons, List.nodup_cons]
    obtain ⟨n1, n2⟩ := List.nodup_cons.mp nd
    refine ⟨fun z => ?_, nodup_mapc l n2 fun x hx => h x (List.mem_cons_of_mem _ hx)⟩
    obtain ⟨y, hy, e⟩ := List.mem_map.mp z
    have := keyCode_inj (h y (List.mem_cons_of_mem _ hy)) (h k List.mem_cons_self) e
    subst this
    exact n1 hy
theorem keys_few {l : List (List Key)} (nd : l.Nodup) (h : ∀ k ∈ l, keyBox k) : l.length ≤ 13000000 := by
  have := nodup_lt 13000000 (l.map keyCode) (nodup_mapc l nd h) (fun x hx => by
    obtain ⟨k, hk, e⟩ := List.mem_map.mp hx
    rw [← e]
    exact keyCode_lt (h k hk))
  rw [List.length_map] at this
  exact this
theorem nodup_sub : ∀ (l m : List (List Key)), l.Nodup → (∀ x ∈ l, x ∈ m) → l.length ≤ m.length
  | [], m, _, _ => Nat.zero_le _
  | x :: l, m, nd, h => by
    obtain ⟨n1, n2⟩ := List.nodup_cons.mp nd
    obtain ⟨u, v, rfl⟩ := List.append_of_mem (h x List.mem_cons_self)
    have ih := nodup_sub l (u ++ v) n2 fun y hy => by
      rcases List.mem_append.mp (h y (List.mem_cons_of_mem _ hy)) with q | q
      · exact List.mem_append.mpr (.inl q)
      · rcases List.mem_cons.mp q with q | q
        · subst q
          exact absurd hy n1
        · exact List.mem_append.mpr (.inr q)
    rw [List.length_append] at ih
    rw [List.length_append, List.length_cons, List.length_cons]
    omega
theorem split_len {α : Type} (p : α → Prop) [DecidablePred p] : ∀ l : List α, l.length = (l.filter fun x => decide (p x)).length + (l.filter fun x => !decide (p x)).length
  | [] => rfl
  | x :: l => by
    have ih := split_len p l
    rw [List.filter_cons, List.filter_cons, List.length_cons]
    by_cases c : p x
    · simp only [c, decide_true, if_true, Bool.not_true, if_false, List.length_cons, Bool.false_eq_true]
      omega
    · simp only [c, decide_false, if_false, Bool.not_false, if_true, List.length_cons, Bool.false_eq_true]
      omega
open Classical in
theorem keys_fewO {f : Str} {gs : List (Str × D)} {l : List (List Key)} (nd : l.Nodup) (h : ∀ k ∈ l, keyOk f gs k) : l.length ≤ 13001000 := by
  have e := split_len (fun k => keyBox k) l
  have b1 := keys_few (nd.filter (fun x => decide (keyBox x))) fun k hk => of_decide_eq_true (List.mem_filter.mp hk).2
  have b2 : (l.filter fun x => !decide (keyBox x)).length ≤ 1000 := by
    cases q : (l.filter fun x => !decide (keyBox x)) with
    | nil => exact Nat.zero_le _
    | cons k0 r =>
      have m0 : k0 ∈ l.filter fun x => !decide (keyBox x) := by rw [q]; exact List.mem_cons_self
      have n0 : ¬ keyBox k0 := fun z => by
        have := (List.mem_filter.mp m0).2
        rw [decide_eq_true z] at this
        cases this
      rcases h k0 (List.mem_filter.mp m0).1 with z | ⟨_, d0, ws, w, e0, c0, l0, _, _⟩
      · exact absurd z n0
      · rw [← q]
        refine Nat.le_trans (nodup_sub _ (ws.map fun w => [.inl w.1.1, .inl w.1.2]) (nd.filter _) fun k hk => ?_) (by rw [List.length_map]; exact l0)
        have nk : ¬ keyBox k := fun z => by
          have := (List.mem_filter.mp hk).2
          rw [decide_eq_true z] at this
          cases this
        rcases h k (List.mem_filter.mp hk).1 with z | ⟨_, d1, ws1, w1, e1, c1, _, m1, k1⟩
        · exact absurd z nk
        · rw [e0] at e1
          cases e1
          rw [c0] at c1
          injection c1 with c1
          rw [wDs_inj c1, k1]
          exact List.mem_map.mpr ⟨w1, m1, rfl⟩
  omega
/-- what a dict of things found once holds -/
def MemoOk (K : PySem.W.Frag) (B : Hp) (fs : List (Str × V)) (f : Str) (kvs : List (List Key × V)) : Prop :=
  ∃ gs, DrF K B fs gs ∧ memoWf f gs ∧ (kvs.map (·.1)).Nodup ∧ ∀ k v, (k, v) ∈ kvs → keyOk f gs k ∧ ∃ d, Dr K B v d ∧ memoSpec f gs k d
theorem MemoOk.mono {K : PySem.W.Frag} {B B' : Hp} {fs : List (Str × V)} {f : Str} {kvs : List (List Key × V)} (h : MemoOk K B fs f kvs) (s : Same B B') : MemoOk K B' fs f kvs := by
  obtain ⟨gs, h1, hw, h2, h3⟩ := h
  refine ⟨gs, h1.mono s, hw, h2, fun k v hk => ?_⟩
  obtain ⟨q1, d, q2, q3⟩ := h3 k v hk
  exact ⟨q1, d, q2.mono s, q3⟩
/-- a thing that has no such dict -/
def NMo (o : HO) : Prop := ∀ C dx fs f, o = .ins C dx fs → memoName f = true → fs.lookup f = none
/-- the addresses of such dicts -/
def Mm (B : Hp) (m : Addr) : Prop := ∃ b C dx fs f, B b = some (.ins C dx fs) ∧ memoName f = true ∧ fs.lookup f = some (.ref m)
structure MmOk (K : PySem.W.Frag) (B H : Hp) : Prop where
  ok : ∀ b C dx fs f v, B b = some (.ins C dx fs) → memoName f = true → fs.lookup f = some v → ∃ m, v = .ref m ∧ B m = none ∧ ∃ kvs, H m = some (.dT kvs) ∧ MemoOk K B fs f kvs
  inj : ∀ b C dx fs f b' C' dx' fs' f' m, B b = some (.ins C dx fs) → memoName f = true → fs.lookup f = some (.ref m) → B b' = some (.ins C' dx' fs') → memoName f' = true → fs'.lookup f' = some (.ref m) → b = b' ∧ f = f'
section
variable {K : PySem.W.Frag} {B B' H H' : Hp} {m : Addr} {o : HO}
theorem MmOk.at (h : MmOk K B H) (x : Mm B m) : ∃ kvs, H m = some (.dT kvs) ∧ B m = none := by
  obtain ⟨b, C, dx, fs, f, h1, h2, h3⟩ := x
  obtain ⟨m', e, q1, kvs, q2, _⟩ := h.ok b C dx fs f _ h1 h2 h3
  cases e
  exact ⟨kvs, q2, q1⟩
theorem MmOk.no (h : MmOk K B H) (e : H m = some o) (n : ∀ kvs, o ≠ .dT kvs) : ¬ Mm B m := fun x => by
  obtain ⟨kvs, q, _⟩ := h.at x
  rw [q] at e
  exact n kvs (Option.some.inj e).symm
theorem MmOk.no0 (h : MmOk K B H) (e : H m = none) : ¬ Mm B m := fun x => by
  obtain ⟨kvs, q, _⟩ := h.at x
  rw [q] at e
  cases e
theorem MmOk.noB (h : MmOk K B H) (e : B m = some o) : ¬ Mm B m := fun x => by
  obtain ⟨kvs, _, q⟩ := h.at x
  rw [q] at e
  cases e
/-- the heap changes elsewhere -/
theorem MmOk.heap (h : MmOk K B H) (k : ∀ m o, Mm B m → H m = some o → H' m = some o) : MmOk K B H' where
  ok := fun b C dx fs f v h1 h2 h3 => by
    obtain ⟨m, e, q1, kvs, q2, q3⟩ := h.ok b C dx fs f v h1 h2 h3
    subst e
    exact ⟨m, rfl, q1, kvs, k m _ ⟨b, C, dx, fs, f, h1, h2, h3⟩ q2, q3⟩
  inj := h.inj
theorem MmOk.write {a : Addr} (h : MmOk K B H) (n : ¬ Mm B a) : MmOk K B (upd H a o) := h.heap fun m u x e => by
  rw [upd_ne (fun z => by subst z; exact n x)]
  exact e
theorem mm_upd {a : Addr} (n : NMo o) (x : Mm (upd B a o) m) : Mm B m := by
  obtain ⟨b, C, dx, fs, f, h1, h2, h3⟩ := x
  by_cases hb : b = a
  · subst hb
    rw [upd_same] at h1
    have := n C dx fs f (Option.some.inj h1) h2
    rw [this] at h3
    cases h3
  · rw [upd_ne hb] at h1
    exact ⟨b, C, dx, fs, f, h1, h2, h3⟩
/-- a thing without such a dict becomes data -/
theorem MmOk.data {a : Addr} (h : MmOk K B H) (n : NMo o) (hb : B a = none) (hm : ¬ Mm B a) : MmOk K (upd B a o) H where
  ok := fun b C dx fs f v h1 h2 h3 => by
    by_cases hba : b = a
    · subst hba
      rw [upd_same] at h1
      have := n C dx fs f (Option.some.inj h1) h2
      rw [this] at h3
      cases h3
    · rw [upd_ne hba] at h1
      obtain ⟨m, e, q1, kvs, q2, q3⟩ := h.ok b C dx fs f v h1 h2 h3
      subst e
      refine ⟨m, rfl, ?_, kvs, q2, q3.mono fun c u e => ?_⟩
      · rw [upd_ne (fun z => by subst z; exact hm ⟨b, C, dx, fs, f, h1, h2, h3⟩)]
        exact q1
      · rw [upd_ne (fun z => by subst z; rw [hb] at e; cases e)]
        exact e
  inj := fun b C dx fs f b' C' dx' fs' f' m h1 h2 h3 g1 g2 g3 => by
    have key : ∀ {b C dx fs f}, upd B a o b = some (.ins C dx fs) → memoName f = true → fs.lookup f = some (V.ref m) → B b = some (.ins C dx fs) := fun {b C dx fs f} h1 h2 h3 => by
      by_cases hba : b = a
      · subst hba
        rw [upd_same] at h1
        have := n C dx fs f (Option.some.inj h1) h2
        rw [this] at h3
        cases h3
      · rw [upd_ne hba] at h1
        exact h1
    exact h.inj b C dx fs f b' C' dx' fs' f' m (key h1 h2 h3) h2 h3 (key g1 g2 g3) g2 g3
end
end Dx
set_option Elab.async false
set_option linter.all false
set_option maxRecDepth 100000
set_option maxHeartbeats 4000000
set_option autoImplicit false
/-! Dx1: slots told as data, a def's own mutable things, what a reading says over these. -/
namespace Dx
open PySem L2

/-- what a thing of one's own holds -/
inductive OC where
  | lst (ds : List D) | dK (es : List (Key × D)) | ins (C : Addr) (fs : List (Str × D))
inductive OCr (K : PySem.W.Frag) (B : Hp) : OC → HO → Prop
  | lst {xs : List V} {ds : List D} : DrA K B xs ds → OCr K B (.lst ds) (.lst xs)
  | dK {kvs : List (Key × V)} {es : List (Key × D)} : DrK K B kvs es → OCr K B (.dK es) (.dK kvs)
  | ins {C dx : Addr} {fs : List (Str × V)} {gs : List (Str × D)} : DrF K B fs gs → (∀ f, memoName f = true → gs.lookup f = none) → OCr K B (.ins C gs) (.ins C dx fs)
def OC.data : OC → D
  | .lst ds => .lst ds
  | .dK es => .dic es
  | .ins C fs => .obj C fs
theorem OCr.mono {K : PySem.W.Frag} {B B' : Hp} {c : OC} {o : HO} (e : Same B B') (h : OCr K B c o) : OCr K B' c o := by
  cases h with
  | lst h => exact .lst (h.mono e)
  | dK h => exact .dK (h.mono e)
  | ins h n => exact .ins (h.mono e) n
theorem OCr.nmo {K : PySem.W.Frag} {B : Hp} {c : OC} {o : HO} (h : OCr K B c o) : NMo o := fun C dx fs f e m => by
  cases h with
  | lst h => cases e
  | dK h => cases e
  | ins h n => cases e; exact h.lookN (n f m)
theorem OCr.ndT {K : PySem.W.Frag} {B : Hp} {c : OC} {o : HO} (h : OCr K B c o) : ∀ kvs, o ≠ .dT kvs := fun kvs e => by
  cases h <;> cases e
theorem OCr.dr {K : PySem.W.Frag} {B : Hp} {c : OC} {o : HO} {a : Addr} (h : OCr K B c o) (e : B a = some o) : Dr K B (.ref a) c.data := by
  cases h with
  | lst h => exact .lst e h
  | dK h => exact .dic e h
  | ins h n => exact .obj e h

/-- a slot: data; or a thing of one's own (p: the caller's, else made here) -/
inductive Sl where
  | pu (d : D) | ow (p : Bool) (c : OC)
abbrev Ab := List (Option Sl)

/-- a step that makes new data -/
structure Al (K : PySem.W.Frag) (B H B' H' : Hp) : Prop where
  b : Same B B'
  h : ∀ p o, H p = some o → ¬ Mm B p → H' p = some o
  d : ∀ p, H' p = none → H p = none
  n : ∀ p o, B' p = some o → B p = some o ∨ H p = none
  m : MmOk K B H → MmOk K B' H'
  mn : ∀ p, Mm B' p → Mm B p ∨ H p = none
section
variable {K : PySem.W.Frag}
theorem Al.refl (B H : Hp) : Al K B H B H := ⟨Same.refl _, fun _ _ e _ => e, fun _ e => e, fun _ _ e => .inl e, id, fun _ h => .inl h⟩
theorem Al.of {B H B' H' : Hp} (b : Same B B') (h : Same H H') (n : ∀ p o, B' p = some o → B p = some o ∨ (H p = none ∧ H' p = some o ∧ NMo o)) : Al K B H B' H' := by
  have mn : ∀ {b C dx fs f v}, B' b = some (.ins C dx fs) → memoName f = true → fs.lookup f = some v → B b = some (.ins C dx fs) := fun {b C dx fs f v} h1 h2 h3 => by
    rcases n b _ h1 with z | ⟨_, _, z⟩
    · exact z
    · rw [z C dx fs f rfl h2] at h3
      cases h3
  have mm : ∀ p, Mm B' p → Mm B p := fun p ⟨b, C, dx, fs, f, h1, h2, h3⟩ => ⟨b, C, dx, fs, f, mn h1 h2 h3, h2, h3⟩
  refine ⟨b, fun p o e _ => h p o e, fun p e => h.free e, fun p o e => (n p o e).imp id fun z => z.1, fun q => ⟨fun c C dx fs f v h1 h2 h3 => ?_, fun c C dx fs f c' C' dx' fs' f' m h1 h2 h3 g1 g2 g3 => q.inj c C dx fs f c' C' dx' fs' f' m (mn h1 h2 h3) h2 h3 (mn g1 g2 g3) g2 g3⟩, fun p z => .inl (mm p z)⟩
  obtain ⟨m, e, q1, kvs, q2, q3⟩ := q.ok c C dx fs f v (mn h1 h2 h3) h2 h3
  refine ⟨m, e, ?_, kvs, h _ _ q2, q3.mono b⟩
  cases w : B' m with
  | none => rfl
  | some u =>
    rcases n m u w with z | ⟨z, _⟩
    · rw [q1] at z; cases z
    · rw [q2] at z; cases z
theorem Al.trans {B H B1 H1 B2 H2 : Hp} (a : Al K B H B1 H1) (c : Al K B1 H1 B2 H2) : Al K B H B2 H2 :=
  ⟨a.b.trans c.b, fun p o e n => c.h p o (a.h p o e n) (fun z => (a.mn p z).elim n fun y => by rw [y] at e; cases e), fun p e => a.d p (c.d p e), fun p o e => by
    rcases c.n p o e with z | z
    · exact a.n p o z
    · exact .inr (a.d p z), fun q => c.m (a.m q), fun p z => by
    rcases c.mn p z with y | y
    · exact a.mn p y
    · exact .inr (a.d p y)⟩
theorem Same.upd' {H : Hp} {p : Addr} {o : HO} (h : H p = none) : Same H (upd H p o) := fun b u e => by
  rw [upd_ne (ne_of_none e h)]
  exact e
theorem Al.new {B H : Hp} {p : Addr} {o : HO} (s : Same B H) (h : H p = none) (nm : NMo o := by exact fun _ _ _ _ e => nomatch e) : Al K B H (upd B p o) (upd H p o) :=
  Al.of (Same.upd' (s.free h)) (Same.upd' h) fun q u e => by
    by_cases hq : q = p
    · subst hq
      rw [upd_same] at e
      cases e
      exact .inr ⟨h, by rw [upd_same], nm⟩
    · rw [upd_ne hq] at e
      exact .inl e
/-- new in the heap, not told as data -/
theorem Al.side {B H : Hp} {p : Addr} {o : HO} (h : H p = none) : Al K B H B (upd H p o) := Al.of (Same.refl _) (Same.upd' h) fun _ _ e => .inl e
end
theorem Same.up2 {B H : Hp} {p : Addr} {o : HO} (s : Same B H) : Same (upd B p o) (upd H p o) := fun b u e => by
  by_cases hb : b = p
  · subst hb
    rw [upd_same] at e ⊢
    exact e
  · rw [upd_ne hb] at e ⊢
    exact s b u e

/-- a def's entry: data, heap, which of its slots hold the caller's things, what else must stay, a word on the heap -/
structure Ga where
  B : Hp
  H : Hp
  own : Nat → Option Addr
  hid : Hp
  J : Hp → Prop
/-- a word that lists don't touch -/
def Stable (J : Hp → Prop) : Prop := ∀ H H' : Hp, (∀ b o, H b = some o → (∀ xs, o ≠ .lst xs) → (∀ xs, o ≠ .dK xs) → (∀ C dx fs, o ≠ .ins C dx fs) → (∀ kvs, o ≠ .dT kvs) → H' b = some o) → J H → J H'
/-- dicts of things found once: what is in them, that they are the entry's or new, that they aren't hidden -/
structure Mq (K : PySem.W.Frag) (Γ : Ga) (B H : Hp) : Prop where
  ok : MmOk K B H
  nm : ∀ m, Mm B m → Mm Γ.B m ∨ Γ.H m = none
  hh : ∀ m, Mm B m → Γ.hid m = none
structure Rl (K : PySem.W.Frag) (Γ : Ga) (B : Hp) (ρ : Ab) (σ : L2.St) (H : Hp) : Prop where
  bh : Same B H
  bb : Same Γ.B B
  fr : ∀ b o, Γ.H b = some o → (∀ i, Γ.own i ≠ some b) → ¬ Mm Γ.B b → H b = some o
  nb : ∀ b o, B b = some o → Γ.B b = some o ∨ Γ.H b = none
  dm : ∀ b, H b = none → Γ.H b = none
  hd : ∀ b o, Γ.hid b = some o → H b = some o ∧ B b = none
  len : ρ.length = σ.length
  pu : ∀ (i : Nat) (d : D), ρ[i]? = some (some (.pu d)) → ∃ v, σ[i]? = some (some v) ∧ Dr K B v d
  ow : ∀ (i : Nat) (p : Bool) (c : OC), ρ[i]? = some (some (.ow p c)) → ∃ a o, σ[i]? = some (some (.ref a)) ∧ H a = some o ∧ OCr K B c o ∧ B a = none ∧ Γ.hid a = none ∧ (p = true → Γ.own i = some a) ∧ (p = false → Γ.H a = none)
  ne : ∀ (i j : Nat) (p q : Bool) (c e : OC), ρ[i]? = some (some (.ow p c)) → ρ[j]? = some (some (.ow q e)) → σ[i]? = σ[j]? → i = j
  st : Stable Γ.J
  jj : Γ.J H
  mm : Mq K Γ B H

section
variable {K : PySem.W.Frag} {Γ : Ga} {B B' : Hp} {ρ : Ab} {σ : L2.St} {H H' : Hp}
theorem OCr.plain {c : OC} {o : HO} (h : OCr K B c o) : (∃ xs, o = .lst xs) ∨ (∃ xs, o = .dK xs) ∨ ∃ C dx fs, o = .ins C dx fs := by
  cases h with
  | lst => exact .inl ⟨_, rfl⟩
  | dK => exact .inr (.inl ⟨_, rfl⟩)
  | ins => exact .inr (.inr ⟨_, _, _, rfl⟩)
theorem Rl.gone (r : Rl K Γ B ρ σ H) {d : Addr} (h : H d = none) : Γ.H d = none ∧ Γ.hid d = none := ⟨r.dm d h, by
  cases q : Γ.hid d with
  | none => rfl
  | some o => rw [(r.hd d o q).1] at h; cases h⟩
theorem Mq.write (m : Mq K Γ B H) {a : Addr} {o : HO} (n : ¬ Mm B a) : Mq K Γ B (upd H a o) := ⟨m.ok.write n, m.nm, m.hh⟩
theorem Mq.data (m : Mq K Γ B H) {a : Addr} {o : HO} (n : NMo o) (hb : B a = none) (hm : ¬ Mm B a) : Mq K Γ (upd B a o) H := ⟨m.ok.data n hb hm, fun q x => m.nm q (mm_upd n x), fun q x => m.hh q (mm_upd n x)⟩
theorem Rl.noMm (r : Rl K Γ B ρ σ H) {b : Addr} {o : HO} (e : Γ.H b = some o) (n : ¬ Mm Γ.B b) : ¬ Mm B b := fun z => (r.mm.nm b z).elim n fun y => by rw [y] at e; cases e
theorem Rl.noHid (r : Rl K Γ B ρ σ H) {b : Addr} {o : HO} (e : Γ.hid b = some o) : ¬ Mm B b := fun z => by rw [r.mm.hh b z] at e; cases e
theorem Rl.al (r : Rl K Γ B ρ σ H) (a : Al K B H B' H') (s : Same B' H') : Rl K Γ B' ρ σ H' where
  bh := s
  bb := r.bb.trans a.b
  fr := fun b o e n m => a.h b o (r.fr b o e n m) (r.noMm e m)
  nb := fun b o e => by
    rcases a.n b o e with z | z
    · exact r.nb b o z
    · exact .inr (r.dm b z)
  dm := fun b e => r.dm b (a.d b e)
  hd := fun b o e => by
    obtain ⟨h1, h2⟩ := r.hd b o e
    refine ⟨a.h b o h1 (r.noHid e), ?_⟩
    cases q : B' b with
    | none => rfl
    | some u =>
      rcases a.n b u q with z | z
      · rw [h2] at z; cases z
      · rw [h1] at z; cases z
  len := r.len
  pu := fun i d e => by
    obtain ⟨v, h1, h2⟩ := r.pu i d e
    exact ⟨v, h1, h2.mono a.b⟩
  ow := fun i p c e => by
    obtain ⟨x, o, h1, h2, h3, h4, h5, h6⟩ := r.ow i p c e
    refine ⟨x, o, h1, a.h _ _ h2 (r.mm.ok.no h2 h3.ndT), h3.mono a.b, ?_, h5, h6⟩
    cases q : B' x with
    | none => rfl
    | some u =>
      rcases a.n x u q with z | z
      · rw [h4] at z; cases z
      · rw [h2] at z; cases z
  ne := r.ne
  st := r.st
  jj := r.st _ _ (fun b o e _ _ _ n => a.h b o e (r.mm.ok.no e n)) r.jj
  mm := ⟨a.m r.mm.ok, fun q x => (a.mn q x).elim (r.mm.nm q) fun y => .inr (r.dm q y), fun q x => (a.mn q x).elim (r.mm.hh q) fun y => (r.gone y).2⟩
/-- a slot gets data -/
theorem Rl.set (r : Rl K Γ B ρ σ H) {i : Nat} {v : V} {d : D} (h : Dr K B v d) : Rl K Γ B (ρ.set i (some (.pu d))) (σ.set i (some v)) H where
  bh := r.bh
  bb := r.bb
  fr := r.fr
  nb := r.nb
  dm := r.dm
  hd := r.hd
  len := by rw [List.length_set, List.length_set, r.len]
  pu := fun j e q => by
    by_cases hj : i = j
    · subst hj
      by_cases hl : i < ρ.length
      · rw [List.getElem?_set_self hl] at q
        cases q
        exact ⟨v, List.getElem?_set_self (by rw [← r.len]; exact hl), h⟩
      · rw [List.getElem?_eq_none (by rw [List.length_set]; omega)] at q
        cases q
    · rw [List.getElem?_set_ne hj] at q
      obtain ⟨u, h1, h2⟩ := r.pu j e q
      exact ⟨u, by rw [List.getElem?_set_ne hj]; exact h1, h2⟩
  ow := fun j p c q => by
    by_cases hj : i = j
    · subst hj
      by_cases hl : i < ρ.length
      · rw [List.getElem?_set_self hl] at q
        cases q
      · rw [List.getElem?_eq_none (by rw [List.length_set]; omega)] at q
        cases q
    · rw [List.getElem?_set_ne hj] at q
      obtain ⟨a, o, h1, h2⟩ := r.ow j p c q
      exact ⟨a, o, by rw [List.getElem?_set_ne hj]; exact h1, h2⟩
  ne := fun j k p q c e h1 h2 h3 => by
    have g : ∀ (m : Nat) (p : Bool) (c : OC), (ρ.set i (some (.pu d)))[m]? = some (some (.ow p c)) → i ≠ m ∧ ρ[m]? = some (some (.ow p c)) := fun m p c q => by
      have hl : i < ρ.length ∨ ¬ i < ρ.length := Nat.lt_or_ge i ρ.length |>.imp id Nat.not_lt.mpr
      by_cases hm : i = m
      · subst hm
        by_cases hl : i < ρ.length
        · rw [List.getElem?_set_self hl] at q
          cases q
        · rw [List.getElem?_eq_none (by rw [List.length_set]; omega)] at q
          cases q
      · rw [List.getElem?_set_ne hm] at q
        exact ⟨hm, q⟩
    obtain ⟨a1, a2⟩ := g j p c h1
    obtain ⟨b1, b2⟩ := g k q e h2
    rw [List.getElem?_set_ne a1, List.getElem?_set_ne b1] at h3
    exact r.ne j k p q c e a2 b2 h3
  st := r.st
  jj := r.jj
  mm := r.mm
/-- a slot gets a new thing of one's own -/
theorem Rl.setO (r : Rl K Γ B ρ σ H) {i : Nat} {a : Addr} {o : HO} {c : OC} (ha : H a = some o) (hb : B a = none) (h : OCr K B c o) (hg : Γ.H a = none) (hh : Γ.hid a = none) (hn : ∀ (j : Nat) (p : Bool) (e : OC), ρ[j]? = some (some (.ow p e)) → σ[j]? ≠ some (some (.ref a))) :
    Rl K Γ B (ρ.set i (some (.ow false c))) (σ.set i (some (.ref a))) H where
  bh := r.bh
  bb := r.bb
  fr := r.fr
  nb := r.nb
  dm := r.dm
  hd := r.hd
  len := by rw [List.length_set, List.length_set, r.len]
  pu := fun j e q => by
    by_cases hj : i = j
    · subst hj
      by_cases hl : i < ρ.length
      · rw [List.getElem?_set_self hl] at q
        cases q
      · rw [List.getElem?_eq_none (by rw [List.length_set]; omega)] at q
        cases q
    · rw [List.getElem?_set_ne hj] at q
      obtain ⟨u, h1, h2⟩ := r.pu j e q
      exact ⟨u, by rw [List.getElem?_set_ne hj]; exact h1, h2⟩
  ow := fun j p c' q => by
    by_cases hj : i = j
    · subst hj
      by_cases hl : i < ρ.length
      · rw [List.getElem?_set_self hl] at q
        cases q
        exact ⟨a, o, List.getElem?_set_self (by rw [← r.len]; exact hl), ha, h, hb, hh, (fun z => by cases z), fun _ => hg⟩
      · rw [List.getElem?_eq_none (by rw [List.length_set]; omega)] at q
        cases q
    · rw [List.getElem?_set_ne hj] at q
      obtain ⟨x, u, h1, h2⟩ := r.ow j p c' q
      exact ⟨x, u, by rw [List.getElem?_set_ne hj]; exact h1, h2⟩
  ne := fun j k p q c' e h1 h2 h3 => by
    have g : ∀ (m : Nat) (p : Bool) (e : OC), (ρ.set i (some (.ow false c)))[m]? = some (some (.ow p e)) → (i = m ∧ i < ρ.length) ∨ (i ≠ m ∧ ρ[m]? = some (some (.ow p e))) := fun m p e q => by
      by_cases hm : i = m
      · subst hm
        by_cases hl : i < ρ.length
        · exact .inl ⟨rfl, hl⟩
        · rw [List.getElem?_eq_none (by rw [List.length_set]; omega)] at q
          cases q
      · rw [List.getElem?_set_ne hm] at q
        exact .inr ⟨hm, q⟩
    rcases g j p c' h1 with ⟨a1, a2⟩ | ⟨a1, a2⟩
    · rcases g k q e h2 with ⟨b1, b2⟩ | ⟨b1, b2⟩
      · exact a1.symm.trans b1
      · subst a1
        rw [List.getElem?_set_self (by rw [← r.len]; exact a2), List.getElem?_set_ne b1] at h3
        exact absurd h3.symm (hn k q e b2)
    · rcases g k q e h2 with ⟨b1, b2⟩ | ⟨b1, b2⟩
      · subst b1
        rw [List.getElem?_set_self (by rw [← r.len]; exact b2), List.getElem?_set_ne a1] at h3
        exact absurd h3 (hn j p c' a2)
      · rw [List.getElem?_set_ne a1, List.getElem?_set_ne b1] at h3
        exact r.ne j k p q c' e a2 b2 h3
  st := r.st
  jj := r.jj
  mm := r.mm
theorem set_some {α : Type} {l : List α} {i : Nat} {x y : α} (h : l[i]? = some x) : (l.set i y)[i]? = some y := by
  have hl : i < l.length := by
    cases q : decide (i < l.length) with
    | true => exact of_decide_eq_true q
    | false =>
      have z : ¬ i < l.length := of_decide_eq_false q
      rw [List.getElem?_eq_none (by omega)] at h
      cases h
  exact List.getElem?_set_self hl
theorem set_back {α : Type} {l : List α} {i j : Nat} {y z : α} (h : (l.set i y)[j]? = some z) (hl : i < l.length) : (i = j ∧ y = z) ∨ (i ≠ j ∧ l[j]? = some z) := by
  by_cases hj : i = j
  · subst hj
    rw [List.getElem?_set_self hl] at h
    exact .inl ⟨rfl, Option.some.inj h⟩
  · rw [List.getElem?_set_ne hj] at h
    exact .inr ⟨hj, h⟩
theorem lt_of_some {α : Type} {l : List α} {i : Nat} {x : α} (h : l[i]? = some x) : i < l.length := (List.getElem?_eq_some_iff.mp h).1
/-- a thing of one's own is changed -/
theorem Rl.write (r : Rl K Γ B ρ σ H) {i : Nat} {a : Addr} {p : Bool} {c c' : OC} {o : HO} (hi : ρ[i]? = some (some (.ow p c))) (hs : σ[i]? = some (some (.ref a))) (h : OCr K B c' o) :
    Rl K Γ B (ρ.set i (some (.ow p c'))) σ (upd H a o) := by
  obtain ⟨a', o0, h1, h2, h3, h4, h5, h6, h7⟩ := r.ow i p c hi
  rw [hs] at h1
  cases h1
  have hl := lt_of_some hi
  have nB : ∀ b u, B b = some u → b ≠ a := fun b u e z => by rw [z, h4] at e; cases e
  refine ⟨fun b u e => by rw [upd_ne (nB b u e)]; exact r.bh b u e, r.bb, fun b u e n nm => ?_, r.nb, fun b e => ?_, fun b u e => ?_, by rw [List.length_set]; exact r.len, fun j d q => ?_, fun j q' c1 q => ?_, fun j k q q' c1 e1 q1 q2 q3 => ?_, r.st, ?_, r.mm.write (r.mm.ok.no h2 h3.ndT)⟩
  · have : b ≠ a := fun z => by
      subst z
      cases p with
      | true => exact n i (h6 rfl)
      | false => rw [h7 rfl] at e; cases e
    rw [upd_ne this]
    exact r.fr b u e n nm
  · by_cases hb : b = a
    · subst hb; rw [upd_same] at e; cases e
    · rw [upd_ne hb] at e; exact r.dm b e
  · have : b ≠ a := fun z => by subst z; rw [h5] at e; cases e
    rw [upd_ne this]
    exact r.hd b u e
  · rcases set_back q hl with ⟨_, z⟩ | ⟨_, z⟩
    · cases z
    · exact r.pu j d z
  · rcases set_back q hl with ⟨z1, z⟩ | ⟨hj, z⟩
    · cases z
      subst z1
      exact ⟨a, o, hs, upd_same, h, h4, h5, h6, h7⟩
    · obtain ⟨x, u, g1, g2, g3, g4⟩ := r.ow j q' c1 z
      have : x ≠ a := fun w => by
        subst w
        exact hj (r.ne i j p q' c c1 hi z (by rw [hs, g1]))
      exact ⟨x, u, g1, by rw [upd_ne this]; exact g2, g3, g4⟩
  · have g : ∀ (m : Nat) (p1 : Bool) (e : OC), (ρ.set i (some (.ow p c')))[m]? = some (some (.ow p1 e)) → ∃ e' : OC, ρ[m]? = some (some (.ow p1 e')) := fun m p1 e q => by
      rcases set_back q hl with ⟨z1, z⟩ | ⟨hj, z⟩
      · cases z
        subst z1
        exact ⟨_, hi⟩
      · exact ⟨_, z⟩
    obtain ⟨e1', y1⟩ := g j q c1 q1
    obtain ⟨e2', y2⟩ := g k q' e1 q2
    exact r.ne j k q q' _ _ y1 y2 q3
  · refine r.st _ _ (fun b u e n1 n2 n3 n4 => ?_) r.jj
    have : b ≠ a := fun z => by
      subst z
      rw [h2] at e
      cases e
      rcases h3.plain with ⟨xs, z⟩ | ⟨xs, z⟩ | ⟨C, dx, fs, z⟩
      · exact n1 _ z
      · exact n2 _ z
      · exact n3 _ _ _ z
    rw [upd_ne this]
    exact e
end
end Dx
namespace Dx
open PySem L2
section
variable {K : PySem.W.Frag} {Γ : Ga} {B B' : Hp} {ρ : Ab} {σ : L2.St} {H H' : Hp}
/-- a thing of one's own becomes data -/
theorem Rl.freeze (r : Rl K Γ B ρ σ H) {i : Nat} {c : OC} (hi : ρ[i]? = some (some (.ow false c))) :
    ∃ (a : Addr) (o : HO), σ[i]? = some (some (.ref a)) ∧ H a = some o ∧ Same B (upd B a o) ∧ Dr K (upd B a o) (.ref a) c.data ∧ Rl K Γ (upd B a o) (ρ.set i (some (.pu c.data))) σ H := by
  obtain ⟨a, o, h1, h2, h3, h4, h5, h6, h7⟩ := r.ow i false c hi
  have sB : Same B (upd B a o) := Same.upd' h4
  have hl := lt_of_some hi
  have dr : Dr K (upd B a o) (.ref a) c.data := (h3.mono sB).dr upd_same
  refine ⟨a, o, h1, h2, sB, dr, ⟨fun b u e => ?_, r.bb.trans sB, r.fr, fun b u e => ?_, r.dm, fun b u e => ?_, by rw [List.length_set]; exact r.len, fun j d q => ?_, fun j p e q => ?_, fun j k p q e f q1 q2 q3 => ?_, r.st, r.jj, r.mm.data h3.nmo h4 (r.mm.ok.no h2 h3.ndT)⟩⟩
  · by_cases hb : b = a
    · subst hb; rw [upd_same] at e; rw [← e]; exact h2
    · rw [upd_ne hb] at e; exact r.bh b u e
  · by_cases hb : b = a
    · subst hb; exact .inr (h7 rfl)
    · rw [upd_ne hb] at e; exact r.nb b u e
  · obtain ⟨g1, g2⟩ := r.hd b u e
    have : b ≠ a := fun z => by subst z; rw [h5] at e; cases e
    exact ⟨g1, by rw [upd_ne this]; exact g2⟩
  · rcases set_back q hl with ⟨z1, z⟩ | ⟨_, z⟩
    · cases z
      subst z1
      exact ⟨_, h1, dr⟩
    · obtain ⟨v, g1, g2⟩ := r.pu j d z
      exact ⟨v, g1, g2.mono sB⟩
  · rcases set_back q hl with ⟨z1, z⟩ | ⟨hj, z⟩
    · cases z
    · obtain ⟨x, u, g1, g2, g3, g4, g5⟩ := r.ow j p e z
      have : x ≠ a := fun w => by
        subst w
        exact hj (r.ne i j false p c e hi z (by rw [h1, g1]))
      exact ⟨x, u, g1, g2, g3.mono sB, by rw [upd_ne this]; exact g4, g5⟩
  · rcases set_back q1 hl with ⟨_, z⟩ | ⟨_, z⟩
    · cases z
    · rcases set_back q2 hl with ⟨_, y⟩ | ⟨_, y⟩
      · cases y
      · exact r.ne j k p q e f z y q3
/-- a slot is forgotten -/
theorem Rl.forget (r : Rl K Γ B ρ σ H) (i : Nat) : Rl K Γ B (ρ.set i none) σ H := by
  have g : ∀ (j : Nat) (s : Sl), (ρ.set i none)[j]? = some (some s) → ρ[j]? = some (some s) := fun j s q => by
    by_cases hl : i < ρ.length
    · rcases set_back q hl with ⟨_, z⟩ | ⟨_, z⟩
      · cases z
      · exact z
    · rw [List.set_eq_of_length_le (by omega)] at q
      exact q
  exact ⟨r.bh, r.bb, r.fr, r.nb, r.dm, r.hd, by rw [List.length_set]; exact r.len, fun j d q => r.pu j d (g j _ q), fun j p c q => r.ow j p c (g j _ q), fun j k p q c e q1 q2 q3 => r.ne j k p q c e (g j _ q1) (g k _ q2) q3, r.st, r.jj, r.mm⟩
end
/-! ### what a reading says -/
abbrev XD := Addr → List (Str × D) → Ab → Prop
abbrev PEx := Ab → XD → (D → Ab → Prop) → Prop
abbrev PTx := Ab → XD → (Bool → Ab → Prop) → Prop
structure PEn where
  nx : Ab → Prop
  rt : D → Ab → Prop
  bk : Ab → Prop
  ct : Ab → Prop
  ex : XD
abbrev PSx := PEn → Ab → Prop
/-- what follows is another; a loop's turn -/
def PEn.on (Δ : PEn) (f : Ab → Prop) : PEn := { Δ with nx := f }
def PEn.turn (Δ : PEn) (f : Ab → Prop) : PEn := { Δ with nx := f, ct := f, bk := Δ.nx }
def PEn.of (Φ : D → Ab → Prop) (Ξ : Addr → List (Str × D) → Ab → Prop) : PEn := { nx := fun ρ' => Φ .non ρ', rt := Φ, bk := fun _ => False, ct := fun _ => False, ex := Ξ }
section
variable {Δ : PEn} {f : Ab → Prop} {Φ : D → Ab → Prop} {Ξ : Addr → List (Str × D) → Ab → Prop}
theorem on_nx : (Δ.on f).nx = f := rfl
theorem on_rt : (Δ.on f).rt = Δ.rt := rfl
theorem on_bk : (Δ.on f).bk = Δ.bk := rfl
theorem on_ct : (Δ.on f).ct = Δ.ct := rfl
theorem on_ex : (Δ.on f).ex = Δ.ex := rfl
theorem turn_nx : (Δ.turn f).nx = f := rfl
theorem turn_rt : (Δ.turn f).rt = Δ.rt := rfl
theorem turn_bk : (Δ.turn f).bk = Δ.nx := rfl
theorem turn_ct : (Δ.turn f).ct = f := rfl
theorem turn_ex : (Δ.turn f).ex = Δ.ex := rfl
theorem of_nx {ρ : Ab} : (PEn.of Φ Ξ).nx ρ = Φ .non ρ := rfl
theorem of_rt : (PEn.of Φ Ξ).rt = Φ := rfl
theorem of_ex : (PEn.of Φ Ξ).ex = Ξ := rfl
end
/-- an exception's own data -/
def XDat (K : PySem.W.Frag) (B H G Gh : Hp) (od : Option Addr) (gs : List (Str × D)) : Prop :=
  (od = none ∧ gs = []) ∨ ∃ d fs, od = some d ∧ H d = some (.xd fs) ∧ (G d = none ∧ Gh d = none) ∧ DrF K B fs gs
def XOk (K : PySem.W.Frag) (Γ : Ga) (B : Hp) (W : WX) (Ξ : XD) : Prop :=
  ∀ B' ρ' σ' H' C od gs, Rl K Γ B' ρ' σ' H' → Same B B' → XDat K B' H' Γ.H Γ.hid od gs → Ξ C gs ρ' → W (.ref C) od σ' H'
def PoE (K : PySem.W.Frag) (Γ : Ga) (B : Hp) (σ : L2.St) (Q : VK) (Φ : D → Ab → Prop) : Prop :=
  ∀ v d B' H' ρ', Rl K Γ B' ρ' σ H' → Same B B' → Dr K B' v d → Φ d ρ' → Q v H'
def PoT (K : PySem.W.Frag) (Γ : Ga) (B : Hp) (σ : L2.St) (Q : Bool → Hp → Prop) (Φ : Bool → Ab → Prop) : Prop :=
  ∀ b B' H' ρ', Rl K Γ B' ρ' σ H' → Same B B' → Φ b ρ' → Q b H'
/-- .. at the slots that stand -/
def XAt (K : PySem.W.Frag) (Γ : Ga) (B : Hp) (σ : L2.St) (W : WX) (Ξ : XD) : Prop :=
  ∀ B' ρ' H' C od gs, Rl K Γ B' ρ' σ H' → Same B B' → XDat K B' H' Γ.H Γ.hid od gs → Ξ C gs ρ' → W (.ref C) od σ H'
theorem XOk.at {K : PySem.W.Frag} {Γ : Ga} {B : Hp} {W : WX} {Ξ : XD} (h : XOk K Γ B W Ξ) (σ : L2.St) : XAt K Γ B σ W Ξ := fun B' ρ' H' C od gs => h B' ρ' σ H' C od gs
theorem XAt.mono {K : PySem.W.Frag} {Γ : Ga} {B B1 : Hp} {σ : L2.St} {W : WX} {Ξ : XD} (h : XAt K Γ B σ W Ξ) (s : Same B B1) : XAt K Γ B1 σ W Ξ := fun B' ρ' H' C od gs r s' x q => h B' ρ' H' C od gs r (s.trans s') x q
theorem XOk.mono {K : PySem.W.Frag} {Γ : Ga} {B B1 : Hp} {W : WX} {Ξ : XD} (h : XOk K Γ B W Ξ) (s : Same B B1) : XOk K Γ B1 W Ξ := fun B' ρ' σ' H' C od gs r s' x q => h B' ρ' σ' H' C od gs r (s.trans s') x q
structure Sim (K : PySem.W.Frag) (Γ : Ga) (B : Hp) (W : WX) (E : Ends) (Δ : PEn) : Prop where
  nx : ∀ B' ρ' σ' H', Rl K Γ B' ρ' σ' H' → Same B B' → Δ.nx ρ' → E.nx σ' H'
  rt : ∀ v d B' ρ' σ' H', Rl K Γ B' ρ' σ' H' → Same B B' → Dr K B' v d → Δ.rt d ρ' → E.rt v H'
  bk : ∀ B' ρ' σ' H', Rl K Γ B' ρ' σ' H' → Same B B' → Δ.bk ρ' → E.bk σ' H'
  ct : ∀ B' ρ' σ' H', Rl K Γ B' ρ' σ' H' → Same B B' → Δ.ct ρ' → E.ct σ' H'
  ex : XOk K Γ B W Δ.ex
theorem Sim.mono {K : PySem.W.Frag} {Γ : Ga} {B B1 : Hp} {W : WX} {E : Ends} {Δ : PEn} (h : Sim K Γ B W E Δ) (s : Same B B1) : Sim K Γ B1 W E Δ :=
  ⟨fun B' ρ' σ' H' r s' => h.nx B' ρ' σ' H' r (s.trans s'), fun v d B' ρ' σ' H' r s' => h.rt v d B' ρ' σ' H' r (s.trans s'), fun B' ρ' σ' H' r s' => h.bk B' ρ' σ' H' r (s.trans s'), fun B' ρ' σ' H' r s' => h.ct B' ρ' σ' H' r (s.trans s'), h.ex.mono s⟩

class RfE (K : PySem.W.Frag) (W : WX) (t : TE) (p : outParam PEx) : Prop where
  run : ∀ Γ B ρ σ H Q Ξ Φ, Rl K Γ B ρ σ H → XAt K Γ B σ W Ξ → p ρ Ξ Φ → PoE K Γ B σ Q Φ → t σ H Q
class RfT (K : PySem.W.Frag) (W : WX) (t : TT) (p : outParam PTx) : Prop where
  run : ∀ Γ B ρ σ H Q Ξ Φ, Rl K Γ B ρ σ H → XAt K Γ B σ W Ξ → p ρ Ξ Φ → PoT K Γ B σ Q Φ → t σ H Q
class RfS (K : PySem.W.Frag) (W : WX) (t : TS) (p : outParam PSx) : Prop where
  run : ∀ Γ B ρ σ H E Δ, Rl K Γ B ρ σ H → Sim K Γ B W E Δ → p Δ ρ → t E σ H
/-- arguments: data, or a slot that holds a thing of one's own -/
inductive Ar where
  | pu (d : D) | sl (j : Nat)
abbrev PAx := Ab → XD → (List Ar → Ab → Prop) → Prop
def ArOk (K : PySem.W.Frag) (B : Hp) (ρ : Ab) (σ : L2.St) : V → Ar → Prop
  | v, .pu d => Dr K B v d
  | v, .sl j => σ[j]? = some (some v) ∧ ∃ p c, ρ[j]? = some (some (.ow p c))
/-- what stays while arguments are evaluated: things of one's own stand in their slots -/
inductive ArsOk (K : PySem.W.Frag) (B : Hp) (ρ : Ab) (σ : L2.St) : List V → List Ar → Prop
  | nil : ArsOk K B ρ σ [] []
  | cons {v : V} {vs : List V} {a : Ar} {as : List Ar} : ArOk K B ρ σ v a → ArsOk K B ρ σ vs as → ArsOk K B ρ σ (v :: vs) (a :: as)
def PoA (K : PySem.W.Frag) (Γ : Ga) (B : Hp) (σ : L2.St) (Q : List V → Hp → Prop) (Φ : List Ar → Ab → Prop) : Prop :=
  ∀ vs as B' H' ρ', Rl K Γ B' ρ' σ H' → Same B B' → ArsOk K B' ρ' σ vs as → Φ as ρ' → Q vs H'
class RfA (K : PySem.W.Frag) (W : WX) (t : TA) (p : outParam PAx) : Prop where
  run : ∀ Γ B ρ σ H Q Ξ Φ, Rl K Γ B ρ σ H → XAt K Γ B σ W Ξ → p ρ Ξ Φ → PoA K Γ B σ Q Φ → t σ H Q
/-- one argument -/
class RfAr (K : PySem.W.Frag) (W : WX) (t : TE) (p : outParam (Ab → XD → (Ar → Ab → Prop) → Prop)) : Prop where
  run : ∀ Γ B ρ σ H Q Ξ Φ, Rl K Γ B ρ σ H → XAt K Γ B σ W Ξ → p ρ Ξ Φ → (∀ v a B' H' ρ', Rl K Γ B' ρ' σ H' → Same B B' → ArOk K B' ρ' σ v a → Φ a ρ' → Q v H') → t σ H Q
/-- data stand in the heap, dicts of things found once are as told -/
structure Sm (K : PySem.W.Frag) (B H : Hp) : Prop where
  s : Same B H
  m : MmOk K B H
instance {K : PySem.W.Frag} {B H : Hp} : CoeFun (Sm K B H) fun _ => ∀ b o, B b = some o → H b = some o := ⟨fun x => x.s⟩
instance {K : PySem.W.Frag} {B H : Hp} : CoeOut (Sm K B H) (Same B H) := ⟨fun x => x.s⟩
theorem Sm.free {K : PySem.W.Frag} {B H : Hp} (x : Sm K B H) {l : Addr} (h : H l = none) : B l = none := x.s.free h
theorem Sm.seq {K : PySem.W.Frag} {B H : Hp} {a : Addr} {xs : List V} (x : Sm K B H) (h : SqL K B a xs) : SqL K H a xs := x.s.seq h
theorem Sm.al {K : PySem.W.Frag} {B H B' H' : Hp} (x : Sm K B H) (a : Al K B H B' H') (s : Same B' H') : Sm K B' H' := ⟨s, a.m x.m⟩
theorem Rl.sm {K : PySem.W.Frag} {Γ : Ga} {B : Hp} {ρ : Ab} {σ : L2.St} {H : Hp} (r : Rl K Γ B ρ σ H) : Sm K B H := ⟨r.bh, r.mm.ok⟩
/-- an operation on two values; on a list of values; truth -/
class RfO (K : PySem.W.Frag) (r : R2) (q : outParam (D → D → (D → Prop) → Prop)) : Prop where
  run : ∀ B H x y dx dy Q (Ψ : D → Prop), Sm K B H → Dr K B x dx → Dr K B y dy → q dx dy Ψ → (∀ v d B' H', Al K B H B' H' → Same B' H' → Dr K B' v d → Ψ d → Q v H') → r x y H Q
class RfU (K : PySem.W.Frag) (r : V → Hp → VK → Prop) (q : outParam (D → (D → Prop) → Prop)) : Prop where
  run : ∀ B H x dx Q (Ψ : D → Prop), Sm K B H → Dr K B x dx → q dx Ψ → (∀ v d B' H', Al K B H B' H' → Same B' H' → Dr K B' v d → Ψ d → Q v H') → r x H Q
class RfC (K : PySem.W.Frag) (r : List V → Hp → VK → Prop) (q : outParam (List D → (D → Prop) → Prop)) : Prop where
  run : ∀ B H xs ds Q (Ψ : D → Prop), Sm K B H → DrA K B xs ds → q ds Ψ → (∀ v d B' H', Al K B H B' H' → Same B' H' → Dr K B' v d → Ψ d → Q v H') → r xs H Q
end Dx
set_option Elab.async false
set_option linter.all false
set_option maxRecDepth 100000
set_option maxHeartbeats 4000000
set_option autoImplicit false
/-! Dx2: what each reading says over slots told as data. -/
namespace Dx
open PySem L2
section
variable {K : PySem.W.Frag} {W : WX} {Γ : Ga} {B B' : Hp} {ρ : Ab} {σ : L2.St} {H H' : Hp}
/-! ### values -/
def pVar (i : Nat) : PEx := fun ρ _ Φ => ∃ s, ρ[i]? = some (some s) ∧ match s with
  | .pu d => Φ d ρ
  | .ow false c => Φ c.data (ρ.set i (some (.pu c.data)))
  | .ow true _ => False
instance rf_var (i : Nat) : RfE K W (tVar i) (pVar i) where
  run := fun Γ B ρ σ H Q Ξ Φ r _ h po => by
    obtain ⟨s, e, h⟩ := h
    match s, e, h with
    | .pu d, e, h =>
      obtain ⟨v, h1, h2⟩ := r.pu i d e
      exact ⟨v, h1, po v d B H ρ r (Same.refl _) h2 h⟩
    | .ow false c, e, h =>
      obtain ⟨a, o, h1, h2, h3, h4, h5⟩ := r.freeze e
      exact ⟨_, h1, po _ _ _ H _ h5 h3 h4 h⟩
def pC (d : D) : PEx := fun ρ _ Φ => Φ d ρ
instance rf_int (i : Int) : RfE K W (tC (.int i)) (pC (.int i)) := ⟨fun Γ B ρ σ H Q Ξ Φ r _ h po => po _ _ _ _ _ r (Same.refl _) (.int i) h⟩
instance rf_bl (i : Bool) : RfE K W (tC (.bl i)) (pC (.bl i)) := ⟨fun Γ B ρ σ H Q Ξ Φ r _ h po => po _ _ _ _ _ r (Same.refl _) (.bl i) h⟩
instance rf_str (i : Str) : RfE K W (tC (.str i)) (pC (.str i)) := ⟨fun Γ B ρ σ H Q Ξ Φ r _ h po => po _ _ _ _ _ r (Same.refl _) (.str i) h⟩
instance rf_non : RfE K W (tC .non) (pC .non) := ⟨fun Γ B ρ σ H Q Ξ Φ r _ h po => po _ _ _ _ _ r (Same.refl _) .non h⟩
/-! ### operations -/
def pOp (q : D → D → (D → Prop) → Prop) (pa pb : PEx) : PEx := fun ρ Ξ Φ => pa ρ Ξ fun x ρ1 => pb ρ1 Ξ fun y ρ2 => q x y fun z => Φ z ρ2
instance rf_op {r : R2} {q : D → D → (D → Prop) → Prop} {ta tb : TE} {pa pb : PEx} [ho : RfO K r q] [ha : RfE K W ta pa] [hb : RfE K W tb pb] : RfE K W (tOp r ta tb) (pOp q pa pb) where
  run := fun Γ B ρ σ H Q Ξ Φ r xo h po => ha.run Γ B ρ σ H _ Ξ _ r xo h fun v d B1 H1 ρ1 r1 s1 dr hq => hb.run Γ B1 ρ1 σ H1 _ Ξ _ r1 (xo.mono s1) hq fun v2 d2 B2 H2 ρ2 r2 s2 dr2 hq2 =>
    ho.run B2 H2 v v2 d d2 Q _ r2.sm (dr.mono s2) dr2 hq2 fun v3 d3 B3 H3 al s3 dr3 q3 => po v3 d3 B3 H3 ρ2 (r2.al al s3) (s1.trans (s2.trans al.b)) dr3 q3
def pUn (q : D → (D → Prop) → Prop) (pa : PEx) : PEx := fun ρ Ξ Φ => pa ρ Ξ fun x ρ1 => q x fun z => Φ z ρ1
instance rf_un {r : V → Hp → VK → Prop} {q : D → (D → Prop) → Prop} {ta : TE} {pa : PEx} [ho : RfU K r q] [ha : RfE K W ta pa] : RfE K W (tUn r ta) (pUn q pa) where
  run := fun Γ B ρ σ H Q Ξ Φ r xo h po => ha.run Γ B ρ σ H _ Ξ _ r xo h fun v d B1 H1 ρ1 r1 s1 dr hq =>
    ho.run B1 H1 v d Q _ r1.sm dr hq fun v3 d3 B3 H3 al s3 dr3 q3 => po v3 d3 B3 H3 ρ1 (r1.al al s3) (s1.trans al.b) dr3 q3
def qI0 (g : Int → Int → D) : D → D → (D → Prop) → Prop := fun x y Ψ => ∃ i j, x = .int i ∧ y = .int j ∧ Ψ (g i j)
def qI (C : Int → Int → Prop) (g : Int → Int → D) : D → D → (D → Prop) → Prop := fun x y Ψ => ∃ i j, x = .int i ∧ y = .int j ∧ C i j ∧ Ψ (g i j)
theorem Dr.int_inv {v : V} {i : Int} (h : Dr K B v (.int i)) : v = .int i := by cases h; rfl
theorem Dr.bl_inv {v : V} {i : Bool} (h : Dr K B v (.bl i)) : v = .bl i := by cases h; rfl
theorem Dr.str_inv {v : V} {i : Str} (h : Dr K B v (.str i)) : v = .str i := by cases h; rfl
theorem Dr.non_inv {v : V} (h : Dr K B v .non) : v = .non := by cases h; rfl
instance ro_I0i (g : Int → Int → Int) : RfO K (rI0 fun i j => .int (g i j)) (qI0 fun i j => .int (g i j)) where
  run := fun B H x y dx dy Q Ψ s hx hy h po => by
    obtain ⟨i, j, rfl, rfl, h⟩ := h
    exact ⟨i, j, hx.int_inv, hy.int_inv, po _ _ _ _ (Al.refl (K := K) B H) s (.int _) h⟩
instance ro_I0b (g : Int → Int → Bool) : RfO K (rI0 fun i j => .bl (g i j)) (qI0 fun i j => .bl (g i j)) where
  run := fun B H x y dx dy Q Ψ s hx hy h po => by
    obtain ⟨i, j, rfl, rfl, h⟩ := h
    exact ⟨i, j, hx.int_inv, hy.int_inv, po _ _ _ _ (Al.refl (K := K) B H) s (.bl _) h⟩
instance ro_Ii (C : Int → Int → Prop) (g : Int → Int → Int) : RfO K (rI C fun i j => .int (g i j)) (qI C fun i j => .int (g i j)) where
  run := fun B H x y dx dy Q Ψ s hx hy h po => by
    obtain ⟨i, j, rfl, rfl, c, h⟩ := h
    exact ⟨i, j, hx.int_inv, hy.int_inv, c, po _ _ _ _ (Al.refl (K := K) B H) s (.int _) h⟩
instance ru_I (g : Int → Int) : RfU K (rU fun i => .int (g i)) (fun x Ψ => ∃ i, x = .int i ∧ Ψ (.int (g i))) where
  run := fun B H x dx Q Ψ s hx h po => by
    obtain ⟨i, rfl, h⟩ := h
    exact ⟨i, hx.int_inv, po _ _ _ _ (Al.refl (K := K) B H) s (.int _) h⟩
/-- a plain value -/
def D.val : D → Option V
  | .non => some .non
  | .bl b => some (.bl b)
  | .int i => some (.int i)
  | .str x => some (.str x)
  | _ => none
theorem Dr.val_inv {v x : V} {d : D} (h : Dr K B v d) (e : d.val = some x) : v = x := by
  cases h <;> first | (cases e; rfl) | cases e
def qEq (f : Bool → Bool) : D → D → (D → Prop) → Prop := fun dx dy Ψ => ∃ x y, dx.val = some x ∧ dy.val = some y ∧ scal x y = true ∧ Ψ (.bl (f (decide (x = y))))
instance ro_eq : RfO K rEq (qEq id) where
  run := fun B H x y dx dy Q Ψ s hx hy h po => by
    obtain ⟨x', y', e1, e2, e3, h⟩ := h
    rw [hx.val_inv e1, hy.val_inv e2]
    exact ⟨e3, po _ _ _ _ (Al.refl (K := K) B H) s (.bl _) h⟩
instance ro_ne : RfO K rNe (qEq not) where
  run := fun B H x y dx dy Q Ψ s hx hy h po => by
    obtain ⟨x', y', e1, e2, e3, h⟩ := h
    rw [hx.val_inv e1, hy.val_inv e2]
    exact ⟨e3, po _ _ _ _ (Al.refl (K := K) B H) s (.bl _) h⟩
def D.isNon : D → Bool
  | .non => true
  | _ => false
theorem Dr.non_dec {v : V} {d : D} (h : Dr K B v d) : decide (v = .non) = d.isNon := by
  cases h <;> first | rfl | exact decide_eq_false (fun z => by cases z)
instance ro_isN : RfO K (fun x y H Q => y = .non ∧ Q (.bl (decide (x = .non))) H) (fun x y Ψ => y = .non ∧ Ψ (.bl x.isNon)) where
  run := fun B H x y dx dy Q Ψ s hx hy h po => by
    obtain ⟨rfl, h⟩ := h
    refine ⟨hy.non_inv, ?_⟩
    rw [hx.non_dec]
    exact po _ _ _ _ (Al.refl (K := K) B H) s (.bl _) h
instance ro_notN : RfO K (fun x y H Q => y = .non ∧ Q (.bl (!decide (x = .non))) H) (fun x y Ψ => y = .non ∧ Ψ (.bl (!x.isNon))) where
  run := fun B H x y dx dy Q Ψ s hx hy h po => by
    obtain ⟨rfl, h⟩ := h
    refine ⟨hy.non_inv, ?_⟩
    rw [hx.non_dec]
    exact po _ _ _ _ (Al.refl (K := K) B H) s (.bl _) h
def D.isNonE (d : D) : Bool := d.isNon
def pIsN (f : Bool → Bool) (pa : PEx) : PEx := fun ρ Ξ Φ => pa ρ Ξ fun x ρ1 => Φ (.bl (f x.isNon)) ρ1
instance rf_isN {ta : TE} {pa : PEx} [ha : RfE K W ta pa] : RfE K W (tIsN ta) (pIsN id pa) where
  run := fun Γ B ρ σ H Q Ξ Φ r xo h po => ha.run Γ B ρ σ H _ Ξ _ r xo h fun v d B1 H1 ρ1 r1 s1 dr hq => by
    rw [dr.non_dec]
    exact po _ _ _ _ _ r1 s1 (.bl _) hq
instance rf_notN {ta : TE} {pa : PEx} [ha : RfE K W ta pa] : RfE K W (tNotN ta) (pIsN not pa) where
  run := fun Γ B ρ σ H Q Ξ Φ r xo h po => ha.run Γ B ρ σ H _ Ξ _ r xo h fun v d B1 H1 ρ1 r1 s1 dr hq => by
    rw [dr.non_dec]
    exact po _ _ _ _ _ r1 s1 (.bl _) hq
/-- items of lists and tuples -/
def D.seq : D → Option (List D)
  | .lst ds => some ds
  | .sql ds => some ds
  | _ => none
theorem Dr.seq_inv {v : V} {d : D} {ds : List D} (h : Dr K B v d) (e : d.seq = some ds) : ∃ a xs, v = .ref a ∧ SqL K B a xs ∧ DrA K B xs ds := by
  cases h <;> first | (cases e; exact ⟨_, _, rfl, SqL.of (by assumption), by assumption⟩) | (cases e; exact ⟨_, _, rfl, by assumption, by assumption⟩) | cases e
theorem Dr.tup_inv {v : V} {ds : List D} (h : Dr K B v (.tup ds)) : ∃ a xs, v = .ref a ∧ SqT K B a xs ∧ DrA K B xs ds := by
  cases h; exact ⟨_, _, rfl, by assumption, by assumption⟩
theorem Dr.lst_inv {v : V} {ds : List D} (h : Dr K B v (.lst ds)) : ∃ a xs, v = .ref a ∧ B a = some (.lst xs) ∧ DrA K B xs ds := by
  cases h; exact ⟨_, _, rfl, by assumption, by assumption⟩
instance ro_ixL : RfO K (rIxL K) (fun x y Ψ => ∃ ds i d, x.seq = some ds ∧ y = .int i ∧ atI ds i = some d ∧ Ψ d) where
  run := fun B H x y dx dy Q Ψ s hx hy h po => by
    obtain ⟨ds, i, d, e1, rfl, e3, h⟩ := h
    obtain ⟨a, xs, rfl, h1, h2⟩ := hx.seq_inv e1
    obtain ⟨v, h3, h4⟩ := h2.at e3
    exact ⟨a, xs, i, v, rfl, hy.int_inv, s.seq h1, h3, po _ _ _ _ (Al.refl (K := K) B H) s h4 h⟩
instance ro_ixT : RfO K (rIxT K) (fun x y Ψ => ∃ ds i d, x = .tup ds ∧ y = .int i ∧ atI ds i = some d ∧ Ψ d) where
  run := fun B H x y dx dy Q Ψ s hx hy h po => by
    obtain ⟨ds, i, d, rfl, rfl, e3, h⟩ := h
    obtain ⟨a, xs, rfl, h1, h2⟩ := hx.tup_inv
    obtain ⟨v, h3, h4⟩ := h2.at e3
    exact ⟨a, xs, i, v, rfl, hy.int_inv, Same.sqT s h1, h3, po _ _ _ _ (Al.refl (K := K) B H) s h4 h⟩
/-! ### logic -/
def pAndV (pa pb : PEx) : PEx := fun ρ Ξ Φ => pa ρ Ξ fun x ρ1 => ∃ c, x = .bl c ∧ if c = true then pb ρ1 Ξ Φ else Φ (.bl false) ρ1
def pOrV (pa pb : PEx) : PEx := fun ρ Ξ Φ => pa ρ Ξ fun x ρ1 => ∃ c, x = .bl c ∧ if c = true then Φ (.bl true) ρ1 else pb ρ1 Ξ Φ
def pNotV (pa : PEx) : PEx := fun ρ Ξ Φ => pa ρ Ξ fun x ρ1 => ∃ c, x = .bl c ∧ Φ (.bl (!c)) ρ1
theorem PoE.mono {Q : VK} {Φ : D → Ab → Prop} (h : PoE K Γ B σ Q Φ) (s : Same B B') : PoE K Γ B' σ Q Φ := fun v d B1 H1 ρ1 r s1 => h v d B1 H1 ρ1 r (s.trans s1)
theorem PoT.mono {Q : Bool → Hp → Prop} {Φ : Bool → Ab → Prop} (h : PoT K Γ B σ Q Φ) (s : Same B B') : PoT K Γ B' σ Q Φ := fun b B1 H1 ρ1 r s1 => h b B1 H1 ρ1 r (s.trans s1)
instance rf_andV {ta tb : TE} {pa pb : PEx} [ha : RfE K W ta pa] [hb : RfE K W tb pb] : RfE K W (tAndV ta tb) (pAndV pa pb) where
  run := fun Γ B ρ σ H Q Ξ Φ r xo h po => ha.run Γ B ρ σ H _ Ξ _ r xo h fun v d B1 H1 ρ1 r1 s1 dr hq => by
    obtain ⟨c, rfl, hq⟩ := hq
    refine ⟨c, dr.bl_inv, ?_⟩
    cases c with
    | true => exact hb.run Γ B1 ρ1 σ H1 _ Ξ _ r1 (xo.mono s1) hq (po.mono s1)
    | false => exact po _ _ _ _ _ r1 s1 (.bl _) hq
instance rf_orV {ta tb : TE} {pa pb : PEx} [ha : RfE K W ta pa] [hb : RfE K W tb pb] : RfE K W (tOrV ta tb) (pOrV pa pb) where
  run := fun Γ B ρ σ H Q Ξ Φ r xo h po => ha.run Γ B ρ σ H _ Ξ _ r xo h fun v d B1 H1 ρ1 r1 s1 dr hq => by
    obtain ⟨c, rfl, hq⟩ := hq
    refine ⟨c, dr.bl_inv, ?_⟩
    cases c with
    | false => exact hb.run Γ B1 ρ1 σ H1 _ Ξ _ r1 (xo.mono s1) hq (po.mono s1)
    | true => exact po _ _ _ _ _ r1 s1 (.bl _) hq
instance rf_notV {ta : TE} {pa : PEx} [ha : RfE K W ta pa] : RfE K W (tNotV ta) (pNotV pa) where
  run := fun Γ B ρ σ H Q Ξ Φ r xo h po => ha.run Γ B ρ σ H _ Ξ _ r xo h fun v d B1 H1 ρ1 r1 s1 dr hq => by
    obtain ⟨c, rfl, hq⟩ := hq
    exact ⟨c, dr.bl_inv, po _ _ _ _ _ r1 s1 (.bl _) hq⟩
def pIf (pt : PTx) (pa pb : PEx) : PEx := fun ρ Ξ Φ => pt ρ Ξ fun c ρ1 => if c = true then pa ρ1 Ξ Φ else pb ρ1 Ξ Φ
instance rf_if {t : TT} {pt : PTx} {ta tb : TE} {pa pb : PEx} [ht : RfT K W t pt] [ha : RfE K W ta pa] [hb : RfE K W tb pb] : RfE K W (tIf t ta tb) (pIf pt pa pb) where
  run := fun Γ B ρ σ H Q Ξ Φ r xo h po => ht.run Γ B ρ σ H _ Ξ _ r xo h fun c B1 H1 ρ1 r1 s1 hq => by
    cases c with
    | true => exact ha.run Γ B1 ρ1 σ H1 _ Ξ _ r1 (xo.mono s1) hq (po.mono s1)
    | false => exact hb.run Γ B1 ρ1 σ H1 _ Ξ _ r1 (xo.mono s1) hq (po.mono s1)
def pChain (q q' : D → D → (D → Prop) → Prop) (pa pb pc : PEx) : PEx := fun ρ Ξ Φ => pa ρ Ξ fun x ρ1 => pb ρ1 Ξ fun y ρ2 => q x y fun z => ∃ k, z = .bl k ∧ if k = true then pc ρ2 Ξ fun w ρ3 => q' y w fun z' => Φ z' ρ3 else Φ (.bl false) ρ2
instance rf_chain {r r' : R2} {q q' : D → D → (D → Prop) → Prop} {ta tb tc : TE} {pa pb pc : PEx} [ho : RfO K r q] [ho' : RfO K r' q'] [ha : RfE K W ta pa] [hb : RfE K W tb pb] [hc : RfE K W tc pc] : RfE K W (tChain r r' ta tb tc) (pChain q q' pa pb pc) where
  run := fun Γ B ρ σ H Q Ξ Φ r xo h po => ha.run Γ B ρ σ H _ Ξ _ r xo h fun v d B1 H1 ρ1 r1 s1 dr hq => hb.run Γ B1 ρ1 σ H1 _ Ξ _ r1 (xo.mono s1) hq fun v2 d2 B2 H2 ρ2 r2 s2 dr2 hq2 =>
    ho.run B2 H2 v v2 d d2 _ _ r2.sm (dr.mono s2) dr2 hq2 fun v3 d3 B3 H3 al s3 dr3 q3 => by
      obtain ⟨k, rfl, q3⟩ := q3
      have s13 : Same B B3 := s1.trans (s2.trans al.b)
      refine ⟨k, dr3.bl_inv, ?_⟩
      cases k with
      | true => exact hc.run Γ B3 ρ2 σ H3 _ Ξ _ (r2.al al s3) (xo.mono s13) q3 fun v4 d4 B4 H4 ρ4 r4 s4 dr4 hq4 =>
          ho'.run B4 H4 v2 v4 d2 d4 Q _ r4.sm (dr2.mono (al.b.trans s4)) dr4 hq4 fun v5 d5 B5 H5 al5 s5 dr5 q5 => po v5 d5 B5 H5 ρ4 (r4.al al5 s5) (s13.trans (s4.trans al5.b)) dr5 q5
      | false => exact po _ _ _ _ _ (r2.al al s3) s13 (.bl _) q3
/-! ### tests -/
def pB (pa : PEx) : PTx := fun ρ Ξ Φ => pa ρ Ξ fun x ρ1 => ∃ c, x = .bl c ∧ Φ c ρ1
instance rt_B {ta : TE} {pa : PEx} [ha : RfE K W ta pa] : RfT K W (tB ta) (pB pa) where
  run := fun Γ B ρ σ H Q Ξ Φ r xo h po => ha.run Γ B ρ σ H _ Ξ _ r xo h fun v d B1 H1 ρ1 r1 s1 dr hq => by
    obtain ⟨c, rfl, hq⟩ := hq
    exact ⟨c, dr.bl_inv, po _ _ _ _ r1 s1 hq⟩
instance rt_test {ta : TE} {pa : PEx} [ha : RfE K W ta pa] : RfT K W (tTest ta) (pB pa) where
  run := fun Γ B ρ σ H Q Ξ Φ r xo h po => ha.run Γ B ρ σ H _ Ξ _ r xo h fun v d B1 H1 ρ1 r1 s1 dr hq => by
    obtain ⟨c, rfl, hq⟩ := hq
    exact ⟨c, dr.bl_inv, po _ _ _ _ r1 s1 hq⟩
def pAndT (pa pb : PTx) : PTx := fun ρ Ξ Φ => pa ρ Ξ fun c ρ1 => if c = true then pb ρ1 Ξ Φ else Φ false ρ1
def pOrT (pa pb : PTx) : PTx := fun ρ Ξ Φ => pa ρ Ξ fun c ρ1 => if c = true then Φ true ρ1 else pb ρ1 Ξ Φ
def pNotT (pa : PTx) : PTx := fun ρ Ξ Φ => pa ρ Ξ fun c ρ1 => Φ (!c) ρ1
def pYes : PTx := fun ρ _ Φ => Φ true ρ
instance rt_and {ta tb : TT} {pa pb : PTx} [ha : RfT K W ta pa] [hb : RfT K W tb pb] : RfT K W (tAnd ta tb) (pAndT pa pb) where
  run := fun Γ B ρ σ H Q Ξ Φ r xo h po => ha.run Γ B ρ σ H _ Ξ _ r xo h fun c B1 H1 ρ1 r1 s1 hq => by
    cases c with
    | true => exact hb.run Γ B1 ρ1 σ H1 _ Ξ _ r1 (xo.mono s1) hq (po.mono s1)
    | false => exact po _ _ _ _ r1 s1 hq
instance rt_or {ta tb : TT} {pa pb : PTx} [ha : RfT K W ta pa] [hb : RfT K W tb pb] : RfT K W (tOr ta tb) (pOrT pa pb) where
  run := fun Γ B ρ σ H Q Ξ Φ r xo h po => ha.run Γ B ρ σ H _ Ξ _ r xo h fun c B1 H1 ρ1 r1 s1 hq => by
    cases c with
    | false => exact hb.run Γ B1 ρ1 σ H1 _ Ξ _ r1 (xo.mono s1) hq (po.mono s1)
    | true => exact po _ _ _ _ r1 s1 hq
instance rt_not {ta : TT} {pa : PTx} [ha : RfT K W ta pa] : RfT K W (tNot ta) (pNotT pa) where
  run := fun Γ B ρ σ H Q Ξ Φ r xo h po => ha.run Γ B ρ σ H _ Ξ _ r xo h fun c B1 H1 ρ1 r1 s1 hq => po _ _ _ _ r1 s1 hq
instance rt_yes : RfT K W tYes pYes := ⟨fun Γ B ρ σ H Q Ξ Φ r xo h po => po _ _ _ _ r (Same.refl _) h⟩
/-! ### arguments -/
def pArV (i : Nat) : Ab → XD → (Ar → Ab → Prop) → Prop := fun ρ _ Φ => ∃ s, ρ[i]? = some (some s) ∧ match s with
  | .pu d => Φ (.pu d) ρ
  | .ow p c => Φ (.sl i) ρ ∨ (p = false ∧ Φ (.pu c.data) (ρ.set i (some (.pu c.data))))
instance (priority := high) ra_var (i : Nat) : RfAr K W (tVar i) (pArV i) where
  run := fun Γ B ρ σ H Q Ξ Φ r _ h po => by
    obtain ⟨s, e, h⟩ := h
    match s, e, h with
    | .pu d, e, h =>
      obtain ⟨v, h1, h2⟩ := r.pu i d e
      exact ⟨v, h1, po v (.pu d) B H ρ r (Same.refl _) h2 h⟩
    | .ow p c, e, h =>
      rcases h with h | ⟨rfl, h⟩
      · obtain ⟨a, o, h1, _⟩ := r.ow i p c e
        exact ⟨_, h1, po (.ref a) (.sl i) B H ρ r (Same.refl _) ⟨h1, p, c, e⟩ h⟩
      · obtain ⟨a, o, h1, h2, h3, h4, h5⟩ := r.freeze e
        exact ⟨_, h1, po _ (.pu c.data) _ H _ h5 h3 h4 h⟩
def pArE (pa : PEx) : Ab → XD → (Ar → Ab → Prop) → Prop := fun ρ Ξ Φ => pa ρ Ξ fun d ρ1 => Φ (.pu d) ρ1
instance ra_e {ta : TE} {pa : PEx} [ha : RfE K W ta pa] : RfAr K W ta (pArE pa) where
  run := fun Γ B ρ σ H Q Ξ Φ r xo h po => ha.run Γ B ρ σ H _ Ξ _ r xo h fun v d B1 H1 ρ1 r1 s1 dr hq => po v (.pu d) B1 H1 ρ1 r1 s1 dr hq
def pNil : PAx := fun ρ _ Φ => Φ [] ρ
def Ar.still (ρ : Ab) : Ar → Prop
  | .pu _ => True
  | .sl j => ∃ p c, ρ[j]? = some (some (.ow p c))
def pCons (pa : Ab → XD → (Ar → Ab → Prop) → Prop) (pr : PAx) : PAx := fun ρ Ξ Φ => pa ρ Ξ fun a ρ1 => pr ρ1 Ξ fun as ρ2 => a.still ρ2 ∧ Φ (a :: as) ρ2
instance raa_nil : RfA K W tNil pNil := ⟨fun Γ B ρ σ H Q Ξ Φ r xo h po => po [] [] B H ρ r (Same.refl _) .nil h⟩
instance raa_cons {te : TE} {tr : TA} {pa : Ab → XD → (Ar → Ab → Prop) → Prop} {pr : PAx} [ha : RfAr K W te pa] [hr : RfA K W tr pr] : RfA K W (tCons te tr) (pCons pa pr) where
  run := fun Γ B ρ σ H Q Ξ Φ r xo h po => ha.run Γ B ρ σ H _ Ξ _ r xo h fun v a B1 H1 ρ1 r1 s1 ao hq => hr.run Γ B1 ρ1 σ H1 _ Ξ _ r1 (xo.mono s1) hq fun vs as B2 H2 ρ2 r2 s2 aso hq2 => by
    obtain ⟨st, hq2⟩ := hq2
    refine po (v :: vs) (a :: as) B2 H2 ρ2 r2 (s1.trans s2) (.cons ?_ aso) hq2
    cases a with
    | pu d => exact Dr.mono s2 ao
    | sl j => exact ⟨ao.1, st⟩
theorem ArsOk.pure {vs : List V} {ds : List D} (h : ArsOk K B ρ σ vs (ds.map .pu)) : DrA K B vs ds := by
  induction ds generalizing vs with
  | nil => cases h; exact .nil
  | cons d ds ih => cases h with | cons h1 h2 => exact .cons h1 (ih h2)
/-! ### tuples, lists, built-in calls -/
def pTup (pa : PAx) : PEx := fun ρ Ξ Φ => pa ρ Ξ fun as ρ1 => ∃ ds, as = ds.map .pu ∧ ds.length ≤ 100000 ∧ Φ (.tup ds) ρ1
theorem szl {n : Nat} (h : n ≤ 100000) : n ≤ sizeLine := Nat.le_trans h (by decide)
instance rf_tup {ta : TA} {pa : PAx} [ha : RfA K W ta pa] : RfE K W (tTup ta) (pTup pa) where
  run := fun Γ B ρ σ H Q Ξ Φ r xo h po => ha.run Γ B ρ σ H _ Ξ _ r xo h fun vs as B1 H1 ρ1 r1 s1 aso hq => by
    obtain ⟨ds, rfl, hl, hq⟩ := hq
    have da := aso.pure
    refine ⟨by rw [da.length]; exact szl hl, fun p hp => ?_⟩
    have al := Al.new (K := K) (o := .tup vs) r1.bh hp
    exact po _ _ _ _ _ (r1.al al (Same.up2 r1.bh)) (s1.trans al.b) (.tup (SqT.of upd_same) (da.mono al.b)) hq
def pCB (q : List D → (D → Prop) → Prop) (pa : PAx) : PEx := fun ρ Ξ Φ => pa ρ Ξ fun as ρ1 => ∃ ds, as = ds.map .pu ∧ q ds fun z => Φ z ρ1
instance rf_cb {r : List V → Hp → VK → Prop} {q : List D → (D → Prop) → Prop} {ta : TA} {pa : PAx} [hr : RfC K r q] [ha : RfA K W ta pa] : RfE K W (tCB r ta) (pCB q pa) where
  run := fun Γ B ρ σ H Q Ξ Φ r xo h po => ha.run Γ B ρ σ H _ Ξ _ r xo h fun vs as B1 H1 ρ1 r1 s1 aso hq => by
    obtain ⟨ds, rfl, hq⟩ := hq
    exact hr.run B1 H1 vs ds Q _ r1.sm aso.pure hq fun v3 d3 B3 H3 al s3 dr3 q3 => po v3 d3 B3 H3 ρ1 (r1.al al s3) (s1.trans al.b) dr3 q3
theorem DrA.one {vs : List V} {d : D} (h : DrA K B vs [d]) : ∃ v, vs = [v] ∧ Dr K B v d := by
  cases h with | cons h1 h2 => cases h2; exact ⟨_, rfl, h1⟩
theorem DrA.two {vs : List V} {d e : D} (h : DrA K B vs [d, e]) : ∃ v u, vs = [v, u] ∧ Dr K B v d ∧ Dr K B u e := by
  cases h with | cons h1 h2 => cases h2 with | cons h3 h4 => cases h4; exact ⟨_, _, rfl, h1, h3⟩
instance rc_abs : RfC K (fun xs H Q => ∃ i, xs = [.int i] ∧ Q (.int (if i < 0 then -i else i)) H) (fun ds Ψ => ∃ i, ds = [.int i] ∧ Ψ (.int (if i < 0 then -i else i))) where
  run := fun B H xs ds Q Ψ s da h po => by
    obtain ⟨i, rfl, h⟩ := h
    obtain ⟨v, rfl, h1⟩ := da.one
    exact ⟨i, by rw [h1.int_inv], po _ _ _ _ (Al.refl (K := K) B H) s (.int _) h⟩
instance rc_gcd : RfC K rGcd (fun ds Ψ => ∃ a b : Int, ds = [.int a, .int b] ∧ Ψ (.int ((Nat.gcd a.natAbs b.natAbs : Nat) : Int))) where
  run := fun B H xs ds Q Ψ s da h po => by
    obtain ⟨i, j, rfl, h⟩ := h
    obtain ⟨v, u, rfl, h1, h2⟩ := da.two
    exact ⟨i, j, by rw [h1.int_inv, h2.int_inv], po _ _ _ _ (Al.refl (K := K) B H) s (.int _) h⟩
/-- list or tuple -/
def D.items : D → Option (List D)
  | .lst ds => some ds
  | .sql ds => some ds
  | .tup ds => some ds
  | .trk ds => some ds
  | _ => none
theorem Dr.items_inv {v : V} {d : D} {ds : List D} (h : Dr K B v d) (e : d.items = some ds) : ∃ a xs, v = .ref a ∧ (SqL K B a xs ∨ SqT K B a xs) ∧ DrA K B xs ds := by
  cases h <;> first | (cases e; exact ⟨_, _, rfl, .inl (SqL.of (by assumption)), by assumption⟩) | (cases e; exact ⟨_, _, rfl, .inl (by assumption), by assumption⟩) | (cases e; exact ⟨_, _, rfl, .inr (by assumption), by assumption⟩) | (cases e; exact ⟨_, _, rfl, .inr (.inl (.inl (by assumption))), by assumption⟩) | cases e
theorem sq_up {a : Addr} {xs : List V} (s : Same B H) (h : SqL K B a xs ∨ SqT K B a xs) : SqL K H a xs ∨ SqT K H a xs := h.imp (fun h => s.seq h) fun h => Same.sqT s h
instance rc_len : RfC K (fun xs H Q => ∃ p ys, xs = [.ref p] ∧ (SqL K H p ys ∨ SqT K H p ys) ∧ Q (.int ys.length) H) (fun ds Ψ => ∃ d es, ds = [d] ∧ d.items = some es ∧ Ψ (.int es.length)) where
  run := fun B H xs ds Q Ψ s da h po => by
    obtain ⟨d, es, rfl, e, h⟩ := h
    obtain ⟨v, rfl, h1⟩ := da.one
    obtain ⟨a, ys, rfl, h2, h3⟩ := h1.items_inv e
    refine ⟨a, ys, rfl, sq_up s h2, ?_⟩
    rw [h3.length]
    exact po _ _ _ _ (Al.refl (K := K) B H) s (.int _) h
instance rc_list : RfC K (fun xs H Q => ∃ p ys, xs = [.ref p] ∧ (SqL K H p ys ∨ SqT K H p ys) ∧ ∀ l, H l = none → Q (.ref l) (upd H l (.lst ys))) (fun ds Ψ => ∃ d es, ds = [d] ∧ d.items = some es ∧ Ψ (.lst es)) where
  run := fun B H xs ds Q Ψ s da h po => by
    obtain ⟨d, es, rfl, e, h⟩ := h
    obtain ⟨v, rfl, h1⟩ := da.one
    obtain ⟨a, ys, rfl, h2, h3⟩ := h1.items_inv e
    refine ⟨a, ys, rfl, sq_up s h2, fun l hl => ?_⟩
    have al := Al.new (K := K) (o := .lst ys) s.s hl
    exact po _ _ _ _ al (Same.up2 s) (.lst upd_same (h3.mono al.b)) h
instance rc_tuple : RfC K (fun xs H Q => ∃ p ys, xs = [.ref p] ∧ ((SqL K H p ys ∧ ∀ l, H l = none → Q (.ref l) (upd H l (.tup ys))) ∨ (SqT K H p ys ∧ Q (.ref p) H))) (fun ds Ψ => ∃ d es, ds = [d] ∧ d.items = some es ∧ Ψ (.tup es)) where
  run := fun B H xs ds Q Ψ s da h po => by
    obtain ⟨d, es, rfl, e, h⟩ := h
    obtain ⟨v, rfl, h1⟩ := da.one
    obtain ⟨a, ys, rfl, h2, h3⟩ := h1.items_inv e
    refine ⟨a, ys, rfl, ?_⟩
    rcases h2 with h2 | h2
    · refine .inl ⟨s.seq h2, fun l hl => ?_⟩
      have al := Al.new (K := K) (o := .tup ys) s.s hl
      exact po _ _ _ _ al (Same.up2 s) (.tup (SqT.of upd_same) (h3.mono al.b)) h
    · exact .inr ⟨Same.sqT s h2, po _ _ _ _ (Al.refl (K := K) B H) s (.tup h2 h3) h⟩
instance rc_int : RfC K (fun xs H Q => (∃ i, xs = [.int i] ∧ Q (.int i) H) ∨ ∃ k, xs = [.bl k] ∧ Q (.int (if k then 1 else 0)) H) (fun ds Ψ => (∃ i, ds = [.int i] ∧ Ψ (.int i)) ∨ ∃ k, ds = [.bl k] ∧ Ψ (.int (if k then 1 else 0))) where
  run := fun B H xs ds Q Ψ s da h po => by
    rcases h with ⟨i, rfl, h⟩ | ⟨i, rfl, h⟩
    · obtain ⟨v, rfl, h1⟩ := da.one
      exact .inl ⟨i, by rw [h1.int_inv], po _ _ _ _ (Al.refl (K := K) B H) s (.int _) h⟩
    · obtain ⟨v, rfl, h1⟩ := da.one
      exact .inr ⟨i, by rw [h1.bl_inv], po _ _ _ _ (Al.refl (K := K) B H) s (.int _) h⟩
end
end Dx
set_option Elab.async false
set_option linter.all false
set_option maxRecDepth 100000
set_option maxHeartbeats 4000000
set_option autoImplicit false
/-! Dx3: new lists, statements, loops, comprehensions. -/
namespace Dx
open PySem L2
section
variable {K : PySem.W.Frag} {W : WX} {Γ : Ga} {B B' : Hp} {ρ : Ab} {σ : L2.St} {H H' : Hp}
/-- an address that nothing of one's own holds -/
structure Fre (Γ : Ga) (B : Hp) (ρ : Ab) (σ : L2.St) (a : Addr) : Prop where
  b : B a = none
  g : Γ.H a = none
  h : Γ.hid a = none
  s : ∀ (j : Nat) (p : Bool) (e : OC), ρ[j]? = some (some (.ow p e)) → σ[j]? ≠ some (some (.ref a))
theorem Rl.fre (r : Rl K Γ B ρ σ H) {a : Addr} (h : H a = none) : Fre Γ B ρ σ a := by
  refine ⟨r.bh.free h, r.dm a h, ?_, fun j p e q z => ?_⟩
  · cases q : Γ.hid a with
    | none => rfl
    | some o => rw [(r.hd a o q).1] at h; cases h
  · obtain ⟨x, o, h1, h2, _⟩ := r.ow j p e q
    rw [h1] at z
    cases z
    rw [h] at h2
    cases h2
/-- it becomes data -/
theorem Rl.adopt (r : Rl K Γ B ρ σ H) {a : Addr} {o : HO} {c : OC} (f : Fre Γ B ρ σ a) (ha : H a = some o) (h : OCr K B c o) : Rl K Γ (upd B a o) ρ σ H ∧ Same B (upd B a o) ∧ Dr K (upd B a o) (.ref a) c.data := by
  have sB : Same B (upd B a o) := Same.upd' f.b
  refine ⟨⟨fun b u e => ?_, r.bb.trans sB, r.fr, fun b u e => ?_, r.dm, fun b u e => ?_, r.len, fun j d q => ?_, fun j p e q => ?_, r.ne, r.st, r.jj, r.mm.data h.nmo f.b (r.mm.ok.no ha h.ndT)⟩, sB, (h.mono sB).dr upd_same⟩
  · by_cases hb : b = a
    · subst hb; rw [upd_same] at e; rw [← e]; exact ha
    · rw [upd_ne hb] at e; exact r.bh b u e
  · by_cases hb : b = a
    · subst hb; exact .inr f.g
    · rw [upd_ne hb] at e; exact r.nb b u e
  · obtain ⟨g1, g2⟩ := r.hd b u e
    have : b ≠ a := fun z => by subst z; rw [f.h] at e; cases e
    exact ⟨g1, by rw [upd_ne this]; exact g2⟩
  · obtain ⟨v, g1, g2⟩ := r.pu j d q
    exact ⟨v, g1, g2.mono sB⟩
  · obtain ⟨x, u, g1, g2, g3, g4, g5⟩ := r.ow j p e q
    have : x ≠ a := fun w => by subst w; exact f.s j p e q g1
    exact ⟨x, u, g1, g2, g3.mono sB, by rw [upd_ne this]; exact g4, g5⟩
/-! ### a new thing -/
abbrev PFx := Ab → XD → (OC → Ab → Prop) → Prop
def PoF (K : PySem.W.Frag) (Γ : Ga) (B : Hp) (σ : L2.St) (Q : VK) (Φ : OC → Ab → Prop) : Prop :=
  ∀ a o c B' H' ρ', Rl K Γ B' ρ' σ H' → Same B B' → Fre Γ B' ρ' σ a → H' a = some o → OCr K B' c o → Φ c ρ' → Q (.ref a) H'
class RfF (K : PySem.W.Frag) (W : WX) (t : TE) (p : outParam PFx) : Prop where
  run : ∀ Γ B ρ σ H Q Ξ Φ, Rl K Γ B ρ σ H → XAt K Γ B σ W Ξ → p ρ Ξ Φ → PoF K Γ B σ Q Φ → t σ H Q
def pFE (pf : PFx) : PEx := fun ρ Ξ Φ => pf ρ Ξ fun c ρ1 => Φ c.data ρ1
instance (priority := low) rf_fresh {t : TE} {pf : PFx} [hf : RfF K W t pf] : RfE K W t (pFE pf) where
  run := fun Γ B ρ σ H Q Ξ Φ r xo h po => hf.run Γ B ρ σ H _ Ξ _ r xo h fun a o c B1 H1 ρ1 r1 s1 f ha oc hq => by
    obtain ⟨r2, s2, d2⟩ := r1.adopt f ha oc
    exact po _ _ _ _ _ r2 (s1.trans s2) d2 hq
theorem PoF.new {Q : VK} {Φ : OC → Ab → Prop} {B1 : Hp} {ρ1 : Ab} {H1 : Hp} {p : Addr} {o : HO} {c : OC} (po : PoF K Γ B σ Q Φ) (r1 : Rl K Γ B1 ρ1 σ H1) (s1 : Same B B1) (hp : H1 p = none) (oc : OCr K B1 c o) (h : Φ c ρ1) : Q (.ref p) (upd H1 p o) :=
  po p o c B1 _ ρ1 (r1.al (Al.side (K := K) hp) fun b u e => by rw [upd_ne (ne_of_none (r1.bh b u e) hp)]; exact r1.bh b u e) s1 (r1.fre hp) upd_same oc h
def pLst (pa : PAx) : PFx := fun ρ Ξ Φ => pa ρ Ξ fun as ρ1 => ∃ ds, as = ds.map .pu ∧ ds.length ≤ 100000 ∧ Φ (.lst ds) ρ1
instance rff_lst {ta : TA} {pa : PAx} [ha : RfA K W ta pa] : RfF K W (tLst ta) (pLst pa) where
  run := fun Γ B ρ σ H Q Ξ Φ r xo h po => ha.run Γ B ρ σ H _ Ξ _ r xo h fun vs as B1 H1 ρ1 r1 s1 aso hq => by
    obtain ⟨ds, rfl, hl, hq⟩ := hq
    have da := aso.pure
    exact ⟨by rw [da.length]; exact szl hl, fun p hp => po.new r1 s1 hp (.lst da) hq⟩
/-! ### statements -/
def pNext : PSx := fun Δ ρ => Δ.nx ρ
instance rs_next : RfS K W tNext pNext := ⟨fun Γ B ρ σ H E Δ r sim h => sim.nx B ρ σ H r (Same.refl _) h⟩
def pSeq (p q : PSx) : PSx := fun Δ ρ => p (Δ.on (q Δ)) ρ
instance rs_seq {t u : TS} {p q : PSx} [ht : RfS K W t p] [hu : RfS K W u q] : RfS K W (tSeq t u) (pSeq p q) where
  run := fun Γ B ρ σ H E Δ r sim h => ht.run Γ B ρ σ H { E with nx := u E } { Δ with nx := q Δ } r
    ⟨fun B' ρ' σ' H' r' s' h' => hu.run Γ B' ρ' σ' H' E Δ r' (sim.mono s') h', sim.rt, sim.bk, sim.ct, sim.ex⟩ h
def pIfS (pt : PTx) (p q : PSx) : PSx := fun Δ ρ => pt ρ Δ.ex fun c ρ1 => if c = true then p Δ ρ1 else q Δ ρ1
instance rs_if {c : TT} {pt : PTx} {t u : TS} {p q : PSx} [hc : RfT K W c pt] [ht : RfS K W t p] [hu : RfS K W u q] : RfS K W (tIfS c t u) (pIfS pt p q) where
  run := fun Γ B ρ σ H E Δ r sim h => hc.run Γ B ρ σ H _ Δ.ex _ r (sim.ex.at _) h fun b B1 H1 ρ1 r1 s1 hq => by
    cases b with
    | true => exact ht.run Γ B1 ρ1 σ H1 E Δ r1 (sim.mono s1) hq
    | false => exact hu.run Γ B1 ρ1 σ H1 E Δ r1 (sim.mono s1) hq
def pRet (pa : PEx) : PSx := fun Δ ρ => pa ρ Δ.ex Δ.rt
instance rs_ret {te : TE} {pa : PEx} [ha : RfE K W te pa] : RfS K W (tRet te) (pRet pa) where
  run := fun Γ B ρ σ H E Δ r sim h => ha.run Γ B ρ σ H _ Δ.ex _ r (sim.ex.at _) h fun v d B1 H1 ρ1 r1 s1 dr hq => sim.rt v d B1 ρ1 σ H1 r1 s1 dr hq
def pRetN : PSx := fun Δ ρ => Δ.rt .non ρ
instance rs_retN : RfS K W tRetN pRetN := ⟨fun Γ B ρ σ H E Δ r sim h => sim.rt .non .non B ρ σ H r (Same.refl _) .non h⟩
def pBrk : PSx := fun Δ ρ => Δ.bk ρ
instance rs_brk : RfS K W tBreak pBrk := ⟨fun Γ B ρ σ H E Δ r sim h => sim.bk B ρ σ H r (Same.refl _) h⟩
def pCnt : PSx := fun Δ ρ => Δ.ct ρ
instance rs_cnt : RfS K W tCont pCnt := ⟨fun Γ B ρ σ H E Δ r sim h => sim.ct B ρ σ H r (Same.refl _) h⟩
def pNever : PSx := fun _ _ => False
instance rs_never : RfS K W tNever pNever := ⟨fun Γ B ρ σ H E Δ r sim h => h.elim⟩
def pDrop (pa : PEx) : PSx := fun Δ ρ => pa ρ Δ.ex fun _ ρ1 => Δ.nx ρ1
instance rs_drop {te : TE} {pa : PEx} [ha : RfE K W te pa] : RfS K W (tDrop te) (pDrop pa) where
  run := fun Γ B ρ σ H E Δ r sim h => ha.run Γ B ρ σ H _ Δ.ex _ r (sim.ex.at _) h fun v d B1 H1 ρ1 r1 s1 dr hq => sim.nx B1 ρ1 σ H1 r1 s1 hq
/-- targets -/
abbrev PGx := D → Ab → (Ab → Prop) → Prop
class RfG (K : PySem.W.Frag) (g : TG) (pg : outParam PGx) (js : outParam (List Nat)) : Prop where
  run : ∀ Γ B ρ σ H v d Q Φ, Rl K Γ B ρ σ H → Dr K B v d → pg d ρ Φ → (∀ B' ρ' σ' H', Rl K Γ B' ρ' σ' H' → Same B B' → (∀ vs : List Nat, (∀ j ∈ js, j ∈ vs) → wipe σ' vs = wipe σ vs) → Φ ρ' → Q σ' H') → g v σ H Q
theorem wipe_get {σ : L2.St} {i : Nat} : ∀ {vs : List Nat}, (wipe σ vs)[i]? = if i ∈ vs then (if i < σ.length then some none else none) else σ[i]?
  | [] => by simp [wipe]
  | v :: vs => by
    unfold wipe
    by_cases hi : v = i
    · subst hi
      rw [if_pos (List.mem_cons_self)]
      by_cases hl : v < σ.length
      · rw [if_pos hl, List.getElem?_set_self (by rw [wipe_length]; exact hl)]
      · rw [if_neg hl, List.getElem?_eq_none (by rw [List.length_set, wipe_length]; omega)]
    · rw [List.getElem?_set_ne hi, wipe_get (vs := vs)]
      by_cases hm : i ∈ vs
      · rw [if_pos hm, if_pos (List.mem_cons_of_mem _ hm)]
      · rw [if_neg hm, if_neg (fun z => (List.mem_cons.mp z).elim (fun z => hi z.symm) hm)]
theorem wipe_set {σ : L2.St} {i : Nat} {x : Option V} {vs : List Nat} (h : i ∈ vs) : wipe (σ.set i x) vs = wipe σ vs := by
  apply List.ext_getElem?
  intro j
  rw [wipe_get, wipe_get, List.length_set]
  by_cases hj : j ∈ vs
  · rw [if_pos hj, if_pos hj]
  · rw [if_neg hj, if_neg hj, List.getElem?_set_ne (fun z => hj (by rw [← z]; exact h))]
def pGN (i : Nat) : PGx := fun d ρ Φ => Φ (ρ.set i (some (.pu d)))
instance rg_name (i : Nat) : RfG K (gName i) (pGN i) [i] where
  run := fun Γ B ρ σ H v d Q Φ r dr h po => po B _ _ H (r.set dr) (Same.refl _) (fun vs hv => wipe_set (hv i (List.mem_singleton.mpr rfl))) h
abbrev PGsx := List D → Ab → (Ab → Prop) → Prop
class RfGs (K : PySem.W.Frag) (g : TGs) (pg : outParam PGsx) (js : outParam (List Nat)) : Prop where
  run : ∀ Γ B ρ σ H vs ds Q Φ, Rl K Γ B ρ σ H → DrA K B vs ds → pg ds ρ Φ → (∀ B' ρ' σ' H', Rl K Γ B' ρ' σ' H' → Same B B' → (∀ vs : List Nat, (∀ j ∈ js, j ∈ vs) → wipe σ' vs = wipe σ vs) → Φ ρ' → Q σ' H') → g vs σ H Q
def pGNil : PGsx := fun ds ρ Φ => ds = [] ∧ Φ ρ
def pGCons (pg : PGx) (pr : PGsx) : PGsx := fun ds ρ Φ => ∃ d r, ds = d :: r ∧ pg d ρ fun ρ1 => pr r ρ1 Φ
instance rgs_nil : RfGs K gNil pGNil [] where
  run := fun Γ B ρ σ H vs ds Q Φ r dr h po => by
    obtain ⟨rfl, h⟩ := h
    cases dr
    exact ⟨rfl, po B ρ σ H r (Same.refl _) (fun _ _ => rfl) h⟩
instance rgs_cons {g : TG} {gs : TGs} {pg : PGx} {pr : PGsx} {js ks : List Nat} [h1 : RfG K g pg js] [h2 : RfGs K gs pr ks] : RfGs K (gCons g gs) (pGCons pg pr) (js ++ ks) where
  run := fun Γ B ρ σ H vs ds Q Φ r dr h po => by
    obtain ⟨d, rs, rfl, h⟩ := h
    cases dr with
    | cons a b =>
      exact ⟨_, _, rfl, h1.run Γ B ρ σ H _ d _ _ r a h fun B1 ρ1 σ1 H1 r1 s1 w1 q1 => h2.run Γ B1 ρ1 σ1 H1 _ rs _ _ r1 (b.mono s1) q1 fun B2 ρ2 σ2 H2 r2 s2 w2 q2 =>
        po B2 ρ2 σ2 H2 r2 (s1.trans s2) (fun ws hw => (w2 ws fun j hj => hw j (List.mem_append_right _ hj)).trans (w1 ws fun j hj => hw j (List.mem_append_left _ hj))) q2⟩
def D.tp : D → Option (List D)
  | .tup ds => some ds
  | .trk ds => some ds
  | _ => none
theorem Dr.tp_inv {v : V} {d : D} {ds : List D} (h : Dr K B v d) (e : d.tp = some ds) : ∃ a xs, v = .ref a ∧ SqT K B a xs ∧ DrA K B xs ds := by
  cases h with
  | tup h1 h2 => cases e; exact ⟨_, _, rfl, h1, h2⟩
  | trk h1 h2 => cases e; exact ⟨_, _, rfl, .inl (.inl h1), h2⟩
  | _ => cases e
def pGTup (n : Nat) (pg : PGsx) : PGx := fun d ρ Φ => ∃ ds, d.tp = some ds ∧ ds.length = n ∧ pg ds ρ Φ
instance rg_tup {n : Nat} {g : TGs} {pg : PGsx} {js : List Nat} [hg : RfGs K g pg js] : RfG K (gTup K n g) (pGTup n pg) js where
  run := fun Γ B ρ σ H v d Q Φ r dr h po => by
    obtain ⟨ds, e, hn, h⟩ := h
    obtain ⟨a, xs, rfl, h1, h2⟩ := dr.tp_inv e
    exact ⟨a, xs, rfl, Same.sqT r.bh h1, by rw [h2.length]; exact hn, hg.run Γ B ρ σ H xs ds Q Φ r h2 h po⟩
def pAsg (pa : PEx) (pg : PGx) : PSx := fun Δ ρ => pa ρ Δ.ex fun d ρ1 => pg d ρ1 Δ.nx
instance rs_asg {te : TE} {g : TG} {pa : PEx} {pg : PGx} {js : List Nat} [ha : RfE K W te pa] [hg : RfG K g pg js] : RfS K W (tAsg te g) (pAsg pa pg) where
  run := fun Γ B ρ σ H E Δ r sim h => ha.run Γ B ρ σ H _ Δ.ex _ r (sim.ex.at _) h fun v d B1 H1 ρ1 r1 s1 dr hq => hg.run Γ B1 ρ1 σ H1 v d _ _ r1 dr hq fun B2 ρ2 σ2 H2 r2 s2 _ q2 => sim.nx B2 ρ2 σ2 H2 r2 (s1.trans s2) q2
/-- a new thing gets a name: data, or one's own -/
def pAsgF (pf : PFx) (i : Nat) : PSx := fun Δ ρ => pf ρ Δ.ex fun c ρ1 => Δ.nx (ρ1.set i (some (.pu c.data))) ∨ Δ.nx (ρ1.set i (some (.ow false c)))
instance (priority := high) rs_asgF {te : TE} {i : Nat} {pf : PFx} [ha : RfF K W te pf] : RfS K W (tAsg te (gName i)) (pAsgF pf i) where
  run := fun Γ B ρ σ H E Δ r sim h => ha.run Γ B ρ σ H _ Δ.ex _ r (sim.ex.at _) h fun a o c B1 H1 ρ1 r1 s1 f hao oc hq => by
    rcases hq with hq | hq
    · obtain ⟨r2, s2, d2⟩ := r1.adopt f hao oc
      exact sim.nx _ _ _ _ (r2.set d2) (s1.trans s2) hq
    · exact sim.nx _ _ _ _ (r1.setO hao f.b oc f.g f.h f.s) s1 hq
def pPar (i j : Nat) (pa : PAx) : PSx := fun Δ ρ => pa ρ Δ.ex fun as ρ1 => ∃ d e, as = [.pu d, .pu e] ∧ Δ.nx ((ρ1.set i (some (.pu d))).set j (some (.pu e)))
instance rs_par {i j : Nat} {ta : TA} {pa : PAx} [ha : RfA K W ta pa] : RfS K W (tPar i j ta) (pPar i j pa) where
  run := fun Γ B ρ σ H E Δ r sim h => ha.run Γ B ρ σ H _ Δ.ex _ r (sim.ex.at _) h fun vs as B1 H1 ρ1 r1 s1 aso hq => by
    obtain ⟨d, e, rfl, hq⟩ := hq
    obtain ⟨v, u, rfl, h1, h2⟩ := (ArsOk.pure (ds := [d, e]) aso).two
    exact ⟨v, u, rfl, sim.nx _ _ _ _ ((r1.set h1).set h2) s1 hq⟩
/-! ### while -/
def pWhile (pt : PTx) (pb : PSx) : PSx := fun Δ ρ => ∃ Wd : Nat → Ab → Prop, (∃ m, Wd m ρ) ∧ ∀ m ρ, Wd m ρ → pt ρ Δ.ex fun b ρ1 => if b = true then pb (Δ.turn fun ρ' => ∃ m', m' < m ∧ Wd m' ρ') ρ1 else Δ.nx ρ1
instance rs_while {c : TT} {tb : TS} {pt : PTx} {pb : PSx} [hc : RfT K W c pt] [hb : RfS K W tb pb] : RfS K W (tWhile c tb) (pWhile pt pb) where
  run := fun Γ B ρ σ H E Δ r sim h => by
    obtain ⟨Wd, ⟨m0, w0⟩, turn⟩ := h
    refine ⟨fun m σ' H' => ∃ B' ρ', Rl K Γ B' ρ' σ' H' ∧ Same B B' ∧ Wd m ρ', ⟨m0, B, ρ, r, Same.refl _, w0⟩, fun m σ1 H1 ⟨B1, ρ1, r1, s1, w1⟩ => ?_⟩
    refine hc.run Γ B1 ρ1 σ1 H1 _ Δ.ex _ r1 ((sim.ex.mono s1).at _) (turn m ρ1 w1) fun b B2 H2 ρ2 r2 s2 hq => ?_
    cases b with
    | true =>
      refine ⟨fun σ' H' => ∃ m', m' < m ∧ ∃ B' ρ', Rl K Γ B' ρ' σ' H' ∧ Same B B' ∧ Wd m' ρ', fun σ' H' n => n, ?_⟩
      refine hb.run Γ B2 ρ2 σ1 H2 _ { Δ with nx := fun ρ' => ∃ m', m' < m ∧ Wd m' ρ', ct := fun ρ' => ∃ m', m' < m ∧ Wd m' ρ', bk := Δ.nx } r2 ⟨fun B' ρ' σ' H' r' s' ⟨m', l, w⟩ => ⟨m', l, B', ρ', r', (s1.trans s2).trans s', w⟩, (sim.mono (s1.trans s2)).rt, fun B' ρ' σ' H' r' s' q => sim.nx B' ρ' σ' H' r' ((s1.trans s2).trans s') q, fun B' ρ' σ' H' r' s' ⟨m', l, w⟩ => ⟨m', l, B', ρ', r', (s1.trans s2).trans s', w⟩, sim.ex.mono (s1.trans s2)⟩ hq
    | false => exact sim.nx _ _ _ _ r2 (s1.trans s2) hq
/-! ### for -/
/-- what a loop walks: the items, known when it begins -/
class RfI (K : PySem.W.Frag) (W : WX) (wi : TI) (pi : outParam (Ab → XD → (List D → Ab → Prop) → Prop)) : Prop where
  run : ∀ Γ B ρ σ H Ξ Φ (R : It → Hp → Prop), Rl K Γ B ρ σ H → XAt K Γ B σ W Ξ → pi ρ Ξ Φ →
    (∀ B' H' ρ' ds (J : It), Rl K Γ B' ρ' σ H' → Same B B' → Φ ds ρ' →
      (∀ i B2 H2, Same B' B2 → Same B2 H2 → i < ds.length → J.go i H2 ∧ ∀ x H3, J.yld i H2 x H3 → ∃ B3 d, Al K B2 H2 B3 H3 ∧ Same B3 H3 ∧ ds[i]? = some d ∧ Dr K B3 x d) →
      (∀ B2 H2, Same B' B2 → Same B2 H2 → J.stop ds.length H2) → R J H') → wi σ H R
def pFor (pi : Ab → XD → (List D → Ab → Prop) → Prop) (pg : PGx) (pb : PSx) : PSx := fun Δ ρ => pi ρ Δ.ex fun ds ρ1 => ∃ Iv : Nat → Ab → Prop, Iv 0 ρ1 ∧
  (∀ i d ρ, ds[i]? = some d → Iv i ρ → pg d ρ fun ρ2 => pb (Δ.turn (Iv (i + 1))) ρ2) ∧ ∀ ρ, Iv ds.length ρ → Δ.nx ρ
instance rs_for {wi : TI} {g : TG} {tb : TS} {pi : Ab → XD → (List D → Ab → Prop) → Prop} {pg : PGx} {js : List Nat} {pb : PSx} [hi : RfI K W wi pi] [hg : RfG K g pg js] [hb : RfS K W tb pb] : RfS K W (tFor wi g tb) (pFor pi pg pb) where
  run := fun Γ B ρ σ H E Δ r sim h => hi.run Γ B ρ σ H Δ.ex _ _ r (sim.ex.at _) h fun B1 H1 ρ1 ds J r1 s1 hq hgo hst => by
    obtain ⟨Iv, i0, turn, fin⟩ := hq
    refine ⟨fun i m σ' H' => m = ds.length - i ∧ i ≤ ds.length ∧ ∃ B' ρ', Rl K Γ B' ρ' σ' H' ∧ Same B1 B' ∧ Iv i ρ', ⟨_, rfl, Nat.zero_le _, B1, ρ1, r1, Same.refl _, i0⟩, ?_⟩
    rintro i m σ2 H2 ⟨rfl, hl, B2, ρ2, r2, s2, iv⟩
    by_cases hlt : i < ds.length
    · obtain ⟨g1, g2⟩ := hgo i B2 H2 s2 r2.bh hlt
      refine .inr ⟨g1, fun σ' H' => ∃ B' ρ', Rl K Γ B' ρ' σ' H' ∧ Same B1 B' ∧ Iv (i + 1) ρ', fun σ' H' ⟨B', ρ', q1, q2, q3⟩ => ⟨ds.length - (i + 1), by omega, rfl, hlt, B', ρ', q1, q2, q3⟩, fun x H3 y => ?_⟩
      obtain ⟨B3, d, al, s3, hd, dr⟩ := g2 x H3 y
      have r3 := r2.al al s3
      refine hg.run Γ B3 ρ2 σ2 H3 x d _ _ r3 dr (turn i d ρ2 hd iv) fun B4 ρ4 σ4 H4 r4 s4 _ q4 => ?_
      have s14 : Same B1 B4 := (s2.trans al.b).trans s4
      exact hb.run Γ B4 ρ4 σ4 H4 _ { Δ with nx := Iv (i + 1), ct := Iv (i + 1), bk := Δ.nx } r4 ⟨fun B' ρ' σ' H' r' s' q => ⟨B', ρ', r', s14.trans s', q⟩, (sim.mono (s1.trans s14)).rt, fun B' ρ' σ' H' r' s' q => sim.nx B' ρ' σ' H' r' ((s1.trans s14).trans s') q, fun B' ρ' σ' H' r' s' q => ⟨B', ρ', r', s14.trans s', q⟩, sim.ex.mono (s1.trans s14)⟩ q4
    · have e : i = ds.length := by omega
      subst e
      exact .inl ⟨hst B2 H2 s2 r2.bh, sim.nx B2 ρ2 σ2 H2 r2 (s1.trans s2) (fin ρ2 iv)⟩
def pIL (pa : PEx) : Ab → XD → (List D → Ab → Prop) → Prop := fun ρ Ξ Φ => pa ρ Ξ fun d ρ1 => ∃ ds, d.seq = some ds ∧ Φ ds ρ1
instance ri_list {te : TE} {pa : PEx} [ha : RfE K W te pa] : RfI K W (iList K te) (pIL pa) where
  run := fun Γ B ρ σ H Ξ Φ R r xo h k => ha.run Γ B ρ σ H _ Ξ _ r xo h fun v d B1 H1 ρ1 r1 s1 dr hq => by
    obtain ⟨ds, e, hq⟩ := hq
    obtain ⟨a, xs, rfl, h1, h2⟩ := dr.seq_inv e
    refine ⟨a, rfl, ⟨xs, r1.bh.seq h1⟩, k B1 H1 ρ1 ds (Itl K a) r1 s1 hq (fun i B2 H2 s2 s3 hi => ?_) (fun B2 H2 s2 s3 => ⟨xs, (s2.trans s3).seq h1, by rw [h2.length]; exact Nat.le_refl _⟩)⟩
    have sq : SqL K H2 a xs := (s2.trans s3).seq h1
    have hx : i < xs.length := by rw [h2.length]; exact hi
    refine ⟨⟨xs, xs[i], sq, List.getElem?_eq_getElem hx⟩, fun x H3 y => ?_⟩
    obtain ⟨rfl, y⟩ := y
    obtain ⟨d, q1, q2⟩ := h2.get' (y xs sq)
    exact ⟨B2, d, Al.refl (K := K) _ _, s3, q1, q2.mono s2⟩
def pITup (pa : PEx) : Ab → XD → (List D → Ab → Prop) → Prop := fun ρ Ξ Φ => pa ρ Ξ fun d ρ1 => ∃ ds, d = .tup ds ∧ Φ ds ρ1
instance ri_tup {te : TE} {pa : PEx} [ha : RfE K W te pa] : RfI K W (iTup K te) (pITup pa) where
  run := fun Γ B ρ σ H Ξ Φ R r xo h k => ha.run Γ B ρ σ H _ Ξ _ r xo h fun v d B1 H1 ρ1 r1 s1 dr hq => by
    obtain ⟨ds, rfl, hq⟩ := hq
    obtain ⟨a, xs, rfl, h1, h2⟩ := dr.tup_inv
    refine ⟨a, rfl, ⟨xs, Same.sqT r1.bh h1⟩, k B1 H1 ρ1 ds (Itt K a) r1 s1 hq (fun i B2 H2 s2 s3 hi => ?_) (fun B2 H2 s2 s3 => ⟨xs, Same.sqT (s2.trans s3) h1, by rw [h2.length]; exact Nat.le_refl _⟩)⟩
    have sq : SqT K H2 a xs := Same.sqT (s2.trans s3) h1
    have hx : i < xs.length := by rw [h2.length]; exact hi
    refine ⟨⟨xs, xs[i], sq, List.getElem?_eq_getElem hx⟩, fun x H3 y => ?_⟩
    obtain ⟨rfl, y⟩ := y
    obtain ⟨d, q1, q2⟩ := h2.get' (y xs sq)
    exact ⟨B2, d, Al.refl (K := K) _ _, s3, q1, q2.mono s2⟩
/-- lo, lo + 1, .. -/
def rngD (lo : Int) (n : Nat) : List D := (List.range n).map fun (i : Nat) => D.int (lo + i)
theorem rngD_get {lo : Int} {n i : Nat} (h : i < n) : (rngD lo n)[i]? = some (.int (lo + i)) := by
  unfold rngD
  rw [List.getElem?_map, List.getElem?_range h]
  all_goals rfl
theorem rngD_length {lo : Int} {n : Nat} : (rngD lo n).length = n := by unfold rngD; rw [List.length_map, List.length_range]
theorem rngD_some {lo : Int} {n i : Nat} {d : D} (h : (rngD lo n)[i]? = some d) : i < n ∧ d = .int (lo + i) := by
  have hl := lt_of_some h
  rw [rngD_length] at hl
  rw [rngD_get hl] at h
  exact ⟨hl, (Option.some.inj h).symm⟩
theorem ri_rng {B' B2 : Hp} {H2 : Hp} {lo : Int} {n i : Nat} (s3 : Same B2 H2) (hi : i < (rngD lo n).length) : (Itr lo n).go i H2 ∧ ∀ x H3, (Itr lo n).yld i H2 x H3 → ∃ B3 d, Al K B2 H2 B3 H3 ∧ Same B3 H3 ∧ (rngD lo n)[i]? = some d ∧ Dr K B3 x d := by
  rw [rngD_length] at hi
  refine ⟨hi, fun x H3 y => ?_⟩
  obtain ⟨rfl, rfl⟩ := y
  exact ⟨B2, _, Al.refl (K := K) _ _, s3, rngD_get hi, .int _⟩
def pRg1 (pa : PAx) : Ab → XD → (List D → Ab → Prop) → Prop := fun ρ Ξ Φ => pa ρ Ξ fun as ρ1 => ∃ j : Int, as = [.pu (.int j)] ∧ -(2 ^ 62) ≤ j ∧ j < 2 ^ 62 ∧ Φ (rngD 0 j.toNat) ρ1
def pRg2 (pa : PAx) : Ab → XD → (List D → Ab → Prop) → Prop := fun ρ Ξ Φ => pa ρ Ξ fun as ρ1 => ∃ i j : Int, as = [.pu (.int i), .pu (.int j)] ∧ (-(2 ^ 62) ≤ i ∧ i < 2 ^ 62 ∧ -(2 ^ 62) ≤ j ∧ j < 2 ^ 62) ∧ Φ (rngD i (j - i).toNat) ρ1
instance ri_rg1 {ta : TA} {pa : PAx} [ha : RfA K W ta pa] : RfI K W (iRng1 ta) (pRg1 pa) where
  run := fun Γ B ρ σ H Ξ Φ R r xo h k => ha.run Γ B ρ σ H _ Ξ _ r xo h fun vs as B1 H1 ρ1 r1 s1 aso hq => by
    obtain ⟨j, rfl, l1, l2, hq⟩ := hq
    obtain ⟨v, rfl, h1⟩ := (ArsOk.pure (ds := [.int j]) aso).one
    refine ⟨j, by rw [h1.int_inv], l1, l2, k B1 H1 ρ1 _ (Itr 0 j.toNat) r1 s1 hq (fun i B2 H2 s2 s3 hi => ri_rng (B' := B1) s3 hi) (fun B2 H2 s2 s3 => ?_)⟩
    rw [rngD_length]
    exact Nat.le_refl _
instance ri_rg2 {ta : TA} {pa : PAx} [ha : RfA K W ta pa] : RfI K W (iRng2 ta) (pRg2 pa) where
  run := fun Γ B ρ σ H Ξ Φ R r xo h k => ha.run Γ B ρ σ H _ Ξ _ r xo h fun vs as B1 H1 ρ1 r1 s1 aso hq => by
    obtain ⟨i, j, rfl, l, hq⟩ := hq
    obtain ⟨v, u, rfl, h1, h2⟩ := (ArsOk.pure (ds := [.int i, .int j]) aso).two
    refine ⟨i, j, by rw [h1.int_inv, h2.int_inv], l, k B1 H1 ρ1 _ (Itr i (j - i).toNat) r1 s1 hq (fun i B2 H2 s2 s3 hi => ri_rng (B' := B1) s3 hi) (fun B2 H2 s2 s3 => ?_)⟩
    rw [rngD_length]
    exact Nat.le_refl _
/-! ### comprehensions -/
def pwipe (ρ : Ab) : List Nat → Ab
  | [] => ρ
  | v :: vs => (pwipe ρ vs).set v none
theorem pwipe_length {ρ : Ab} : ∀ {vs : List Nat}, (pwipe ρ vs).length = ρ.length
  | [] => rfl
  | v :: vs => by unfold pwipe; rw [List.length_set, pwipe_length]
theorem pwipe_some {ρ : Ab} {i : Nat} {s : Sl} : ∀ {vs : List Nat}, (pwipe ρ vs)[i]? = some (some s) → ρ[i]? = some (some s) ∧ i ∉ vs
  | [], h => ⟨h, by simp⟩
  | v :: vs, h => by
    unfold pwipe at h
    by_cases hv : v < (pwipe ρ vs).length
    · rcases set_back h hv with ⟨_, z⟩ | ⟨z1, z⟩
      · cases z
      · obtain ⟨a, b⟩ := pwipe_some z
        exact ⟨a, fun z => (List.mem_cons.mp z).elim (fun z => z1 z.symm) b⟩
    · rw [List.set_eq_of_length_le (by omega)] at h
      obtain ⟨a, b⟩ := pwipe_some h
      refine ⟨a, fun z => (List.mem_cons.mp z).elim (fun z => ?_) b⟩
      have := lt_of_some a
      rw [pwipe_length] at hv
      omega
/-- the slots in vs are known no more, on both sides -/
theorem Rl.wipes (r : Rl K Γ B ρ σ H) (σ' : L2.St) (vs : List Nat) (hl : σ'.length = σ.length) (h : ∀ i, i ∉ vs → σ'[i]? = σ[i]?) : Rl K Γ B (pwipe ρ vs) σ' H :=
  ⟨r.bh, r.bb, r.fr, r.nb, r.dm, r.hd, by rw [pwipe_length, r.len, hl], fun i d q => by
    obtain ⟨a, b⟩ := pwipe_some q
    rw [h i b]
    exact r.pu i d a, fun i p c q => by
    obtain ⟨a, b⟩ := pwipe_some q
    rw [h i b]
    exact r.ow i p c a, fun i j p q c e q1 q2 q3 => by
    obtain ⟨a1, b1⟩ := pwipe_some q1
    obtain ⟨a2, b2⟩ := pwipe_some q2
    rw [h i b1, h j b2] at q3
    exact r.ne i j p q c e a1 a2 q3, r.st, r.jj, r.mm⟩
theorem Mq.hide (m : Mq K Γ B H) {p : Addr} {o : HO} (n : ¬ Mm B p) : Mq K { Γ with hid := upd Γ.hid p o } B H := ⟨m.ok, m.nm, fun q x => by
  show upd Γ.hid p o q = none
  rw [upd_ne (fun z => by subst z; exact n x)]
  exact m.hh q x⟩
theorem Mq.unhide {p : Addr} {o : HO} (m : Mq K { Γ with hid := upd Γ.hid p o } B H) : Mq K Γ B H := ⟨m.ok, m.nm, fun q x => by
  have h : upd Γ.hid p o q = none := m.hh q x
  by_cases hq : q = p
  · subst hq; rw [upd_same] at h; cases h
  · rw [upd_ne hq] at h; exact h⟩
theorem Mq.noHid {p : Addr} {o : HO} (m : Mq K { Γ with hid := upd Γ.hid p o } B H) : ¬ Mm B p := fun x => by
  have h : upd Γ.hid p o p = none := m.hh p x
  rw [upd_same] at h
  cases h
theorem wipe_ne {σ : L2.St} {vs : List Nat} {i : Nat} (h : i ∉ vs) : (wipe σ vs)[i]? = σ[i]? := by rw [wipe_get, if_neg h]
abbrev Ga.hide (Γ : Ga) (p : Addr) (o : HO) : Ga := { Γ with hid := upd Γ.hid p o }
theorem Rl.hide (r : Rl K Γ B ρ σ H) {p : Addr} {o : HO} (hp : H p = none) : Rl K (Γ.hide p o) B ρ σ (upd H p o) := by
  have f := r.fre hp
  have r' := r.al (Al.side (K := K) (o := o) hp) (fun b u e => by rw [upd_ne (ne_of_none (r.bh b u e) hp)]; exact r.bh b u e)
  refine ⟨r'.bh, r'.bb, r'.fr, r'.nb, r'.dm, fun b u e => ?_, r'.len, r'.pu, fun i p' c q => ?_, r'.ne, r'.st, r'.jj, r'.mm.hide (r.mm.ok.no0 hp)⟩
  · have e : upd Γ.hid p o b = some u := e
    by_cases hb : b = p
    · subst hb
      rw [upd_same] at e
      exact ⟨by rw [upd_same]; exact e, f.b⟩
    · rw [upd_ne hb] at e
      exact r'.hd b u e
  · obtain ⟨a, u, h1, h2, h3, h4, h5, h6⟩ := r'.ow i p' c q
    refine ⟨a, u, h1, h2, h3, h4, ?_, h6⟩
    have : a ≠ p := fun z => by subst z; exact f.s i p' c q h1
    show upd Γ.hid p o a = none
    rw [upd_ne this]
    exact h5
theorem Rl.rehide {p : Addr} {o o' : HO} (r : Rl K (Γ.hide p o) B ρ σ H) (hg : Γ.H p = none) (hpl : ∃ xs, o = .lst xs) : Rl K (Γ.hide p o') B ρ σ (upd H p o') := by
  have hp := r.hd p o upd_same
  have nB : ∀ b u, B b = some u → b ≠ p := fun b u e z => by subst z; rw [hp.2] at e; cases e
  refine ⟨fun b u e => by rw [upd_ne (nB b u e)]; exact r.bh b u e, r.bb, fun b u e n nm => ?_, r.nb, fun b e => ?_, fun b u e => ?_, r.len, r.pu, fun i q c z => ?_, r.ne, r.st, ?_, (r.mm.write r.mm.noHid).unhide.hide r.mm.noHid⟩
  · have : b ≠ p := fun z => by subst z; rw [show Γ.H b = none from hg] at e; cases e
    rw [upd_ne this]
    exact r.fr b u e n nm
  · by_cases hb : b = p
    · subst hb; exact hg
    · rw [upd_ne hb] at e; exact r.dm b e
  · have e : upd Γ.hid p o' b = some u := e
    by_cases hb : b = p
    · subst hb
      rw [upd_same] at e
      exact ⟨by rw [upd_same]; exact e, hp.2⟩
    · rw [upd_ne hb] at e ⊢
      exact r.hd b u (by show upd Γ.hid p o b = some u; rw [upd_ne hb]; exact e)
  · obtain ⟨a, u, h1, h2, h3, h4, h5, h6⟩ := r.ow i q c z
    have : a ≠ p := fun w => by
      subst w
      have h5 : upd Γ.hid a o a = none := h5
      rw [upd_same] at h5
      cases h5
    refine ⟨a, u, h1, by rw [upd_ne this]; exact h2, h3, h4, ?_, h6⟩
    have h5 : upd Γ.hid p o a = none := h5
    rw [upd_ne this] at h5
    show upd Γ.hid p o' a = none
    rw [upd_ne this]
    exact h5
  · refine r.st _ _ (fun b u e n1 n2 n3 n4 => ?_) r.jj
    have : b ≠ p := fun z => by
      subst z
      obtain ⟨xs, rfl⟩ := hpl
      rw [hp.1] at e
      exact n1 _ (Option.some.inj e).symm
    rw [upd_ne this]
    exact e
theorem Rl.unhide {p : Addr} {o : HO} (r : Rl K (Γ.hide p o) B ρ σ H) (hh : Γ.hid p = none) : Rl K Γ B ρ σ H :=
  ⟨r.bh, r.bb, r.fr, r.nb, r.dm, fun b u e => r.hd b u (by
    show upd Γ.hid p o b = some u
    rw [upd_ne (ne_of_none e hh)]
    exact e), r.len, r.pu, fun i q c z => by
    obtain ⟨a, u, h1, h2, h3, h4, h5, h6⟩ := r.ow i q c z
    refine ⟨a, u, h1, h2, h3, h4, ?_, h6⟩
    have h5 : upd Γ.hid p o a = none := h5
    by_cases hb : a = p
    · subst hb; exact hh
    · rw [upd_ne hb] at h5; exact h5, r.ne, r.st, r.jj, r.mm.unhide⟩
abbrev W0 : WX := fun _ _ _ _ => False
abbrev X0 : XD := fun _ _ _ => False
theorem xat0 {Γ : Ga} {B : Hp} {σ : L2.St} : XAt K Γ B σ W0 X0 := fun _ _ _ _ _ _ _ _ _ h => h
theorem xok0 {Γ : Ga} {B : Hp} : XOk K Γ B W0 X0 := fun _ _ _ _ _ _ _ _ _ _ h => h
def pLc (pi : Ab → XD → (List D → Ab → Prop) → Prop) (pg : PGx) (pt : PTx) (pe : PEx) (vs : List Nat) : PFx := fun ρ Ξ Φ => pi ρ Ξ fun ds ρ1 => ∃ Iv : Nat → List D → Ab → Prop, Iv 0 [] (pwipe ρ1 vs) ∧
  (∀ i d acc ρ, ds[i]? = some d → Iv i acc ρ → pg d ρ fun ρ2 => pt ρ2 X0 fun b ρ3 => if b = true then pe ρ3 X0 fun y ρ4 => acc.length < 100000 ∧ Iv (i + 1) (acc ++ [y]) (pwipe ρ4 vs) else Iv (i + 1) acc (pwipe ρ3 vs)) ∧
  ∀ acc ρ, Iv ds.length acc ρ → Φ (.lst acc) (pwipe ρ vs)
theorem szlt {n : Nat} (h : n < 100000) : n < sizeLine := Nat.lt_of_lt_of_le h (by decide)
theorem rff_lc {wi : TI} {g : TG} {tt : TT} {te : TE} {vs : List Nat} {pi : Ab → XD → (List D → Ab → Prop) → Prop} {pg : PGx} {js : List Nat} {pt : PTx} {pe : PEx} [hi : RfI K W wi pi] [hg : RfG K g pg js] [ht : RfT K W0 tt pt] [he : RfE K W0 te pe] (hjs : ∀ j ∈ js, j ∈ vs) :
    RfF K W (tLc wi g tt te vs) (pLc pi pg pt pe vs) where
  run := fun Γ B ρ σ H Q Ξ Φ r xo h po => hi.run Γ B ρ σ H Ξ _ _ r xo h fun B1 H1 ρ1 ds J r1 s1 hq hgo hst => fun D hD => by
    obtain ⟨Iv, i0, turn, fin⟩ := hq
    have fD := r1.fre hD
    have ww : ∀ σ2 : L2.St, wipe σ2 vs = wipe σ vs → σ2.length = σ.length → ∀ i, i ∉ vs → (wipe σ vs)[i]? = σ2[i]? := fun σ2 e _ i hi => by rw [← e, wipe_ne hi]
    refine ⟨fun i m H' => m = ds.length - i ∧ i ≤ ds.length ∧ ∃ B' ρ' acc av, Rl K (Γ.hide D (.lst av)) B' ρ' (wipe σ vs) H' ∧ Same B1 B' ∧ DrA K B' av acc ∧ Iv i acc ρ', ⟨_, rfl, Nat.zero_le _, B1, pwipe ρ1 vs, [], [], (r1.hide (o := .lst []) hD).wipes _ vs (wipe_length σ vs) (fun i hi => wipe_ne hi), Same.refl _, .nil, i0⟩, ?_⟩
    rintro i m H2 ⟨rfl, hl, B2, ρ2, acc, av, r2, s2, da, iv⟩
    by_cases hlt : i < ds.length
    · obtain ⟨g1, g2⟩ := hgo i B2 H2 s2 r2.bh hlt
      refine .inr ⟨g1, fun H' => ∃ B' ρ' acc av, Rl K (Γ.hide D (.lst av)) B' ρ' (wipe σ vs) H' ∧ Same B1 B' ∧ DrA K B' av acc ∧ Iv (i + 1) acc ρ', fun H' ⟨B', ρ', a', v', q1, q2, q3, q4⟩ => ⟨ds.length - (i + 1), by omega, rfl, hlt, B', ρ', a', v', q1, q2, q3, q4⟩, fun x H3 y => ?_⟩
      obtain ⟨B3, d, al, s3, hd, dr⟩ := g2 x H3 y
      have r3 := r2.al al s3
      refine hg.run _ B3 ρ2 (wipe σ vs) H3 x d _ _ r3 dr (turn i d acc ρ2 hd iv) fun B4 ρ4 σ4 H4 r4 s4 w4 q4 => ?_
      have ew : wipe σ4 vs = wipe σ vs := by
        rw [w4 vs hjs]
        apply List.ext_getElem?
        intro j
        rw [wipe_get]
        by_cases hj : j ∈ vs
        · rw [if_pos hj, wipe_get, if_pos hj, wipe_length]
        · rw [if_neg hj]
      have el : (wipe σ vs).length = σ4.length := by rw [← ew, wipe_length]
      have s14 : Same B1 B4 := (s2.trans al.b).trans s4
      refine ⟨ew.trans (by rfl), ?_⟩
      refine ht.run _ B4 ρ4 σ4 H4 _ X0 _ r4 xat0 q4 fun b B5 H5 ρ5 r5 s5 q5 => ?_
      have fin5 : ∀ {B6 H6 ρ6}, Rl K (Γ.hide D (.lst av)) B6 ρ6 σ4 H6 → Rl K (Γ.hide D (.lst av)) B6 (pwipe ρ6 vs) (wipe σ vs) H6 := fun r => r.wipes _ vs el (fun j hj => by rw [← ew, wipe_ne hj])
      cases b with
      | true =>
        refine he.run _ B5 ρ5 σ4 H5 _ X0 _ r5 xat0 q5 fun y dy B6 H6 ρ6 r6 s6 dry q6 => ?_
        obtain ⟨hz, q6⟩ := q6
        have s26 : Same B2 B6 := ((al.b.trans s4).trans s5).trans s6
        refine ⟨av, (r6.hd D _ upd_same).1, by rw [da.length]; exact szlt hz, B6, _, acc ++ [dy], av ++ [y], ?_, s2.trans s26, (da.mono s26).append (.cons dry .nil), q6⟩
        exact (fin5 r6).rehide fD.g ⟨_, rfl⟩
      | false =>
        have s25 : Same B2 B5 := (al.b.trans s4).trans s5
        exact ⟨B5, _, acc, av, fin5 r5, s2.trans s25, da.mono s25, q5⟩
    · have e : i = ds.length := by omega
      subst e
      refine .inl ⟨hst B2 H2 s2 r2.bh, ?_⟩
      have hp := r2.hd D (.lst av) upd_same
      have r2' : Rl K (Γ.hide D (.lst av)) B2 (pwipe ρ2 vs) σ H2 := r2.wipes σ vs (wipe_length σ vs).symm (fun j hj => (wipe_ne hj).symm)
      exact po D (.lst av) (.lst acc) B2 H2 _ (r2'.unhide fD.h) (s1.trans s2) ⟨hp.2, fD.g, fD.h, fun j p e q z => by
        obtain ⟨x, u, h1, h2, h3, h4, h5, h6⟩ := r2'.ow j p e q
        rw [h1] at z
        cases z
        have h5 : upd Γ.hid D (.lst av) D = none := h5
        rw [upd_same] at h5
        cases h5⟩ hp.1 (.lst da) (fin acc ρ2 iv)
end
end Dx
set_option Elab.async false
set_option linter.all false
set_option maxRecDepth 100000
set_option maxHeartbeats 4000000
set_option autoImplicit false
/-! Dx4: promises of defs over data, calls. -/
namespace Dx
open PySem L2
class MemN (j : Nat) (vs : List Nat) : Prop where
  mem : j ∈ vs
instance memN_h (j : Nat) (vs : List Nat) : MemN j (j :: vs) := ⟨List.mem_cons_self⟩
instance memN_t (j k : Nat) (vs : List Nat) [h : MemN j vs] : MemN j (k :: vs) := ⟨List.mem_cons_of_mem _ h.mem⟩
class SubN (js vs : List Nat) : Prop where
  sub : ∀ j ∈ js, j ∈ vs
instance subN_nil (vs : List Nat) : SubN [] vs := ⟨fun j h => absurd h (by simp)⟩
instance subN_cons (j : Nat) (js vs : List Nat) [h : MemN j vs] [h2 : SubN js vs] : SubN (j :: js) vs := ⟨fun k hk => (List.mem_cons.mp hk).elim (fun z => z ▸ h.mem) (h2.sub k)⟩
instance subN_app (js ks vs : List Nat) [h : SubN js vs] [h2 : SubN ks vs] : SubN (js ++ ks) vs := ⟨fun k hk => (List.mem_append.mp hk).elim (h.sub k) (h2.sub k)⟩
section
variable {K : PySem.W.Frag} {W : WX} {Γ : Ga} {B B' : Hp} {ρ : Ab} {σ : L2.St} {H H' : Hp}
instance rff_lc' {wi : TI} {g : TG} {tt : TT} {te : TE} {vs : List Nat} {pi : Ab → XD → (List D → Ab → Prop) → Prop} {pg : PGx} {js : List Nat} {pt : PTx} {pe : PEx} [hi : RfI K W wi pi] [hg : RfG K g pg js] [ht : RfT K W0 tt pt] [he : RfE K W0 te pe] [hs : SubN js vs] :
    RfF K W (tLc wi g tt te vs) (pLc pi pg pt pe vs) := rff_lc hs.sub
/-! ### a def's promise -/
/-- the caller's things that a def got, by slot -/
def ownOf (ρ : Ab) (vs : List V) : Nat → Option Addr := fun i => match ρ[i]?, vs[i]? with
  | some (some (.ow _ _)), some (.ref a) => some a
  | _, _ => none
def gaOf (B H : Hp) (ρ : Ab) (vs : List V) (J : Hp → Prop) : Ga := ⟨B, H, ownOf ρ vs, fun _ => none, J⟩
/-- what is left of the slots when a def is left -/
structure Fin (K : PySem.W.Frag) (Γ : Ga) (B : Hp) (ρ : Ab) (H : Hp) : Prop where
  bh : Same B H
  bb : Same Γ.B B
  fr : ∀ b o, Γ.H b = some o → (∀ i, Γ.own i ≠ some b) → ¬ Mm Γ.B b → H b = some o
  nb : ∀ b o, B b = some o → Γ.B b = some o ∨ Γ.H b = none
  dm : ∀ b, H b = none → Γ.H b = none
  ow : ∀ (i : Nat) (c : OC), ρ[i]? = some (some (.ow true c)) → ∃ a o, Γ.own i = some a ∧ H a = some o ∧ OCr K B c o ∧ B a = none
  mm : MmOk K B H
  nm : ∀ m, Mm B m → Mm Γ.B m ∨ Γ.H m = none
theorem Rl.fin (r : Rl K Γ B ρ σ H) : Fin K Γ B ρ H := ⟨r.bh, r.bb, r.fr, r.nb, r.dm, fun i c e => by
  obtain ⟨a, o, h1, h2, h3, h4, h5, h6, h7⟩ := r.ow i true c e
  exact ⟨a, o, h6 rfl, h2, h3, h4⟩, r.mm.ok, r.mm.nm⟩
/-- a def's word: from its arguments' data, what is wanted if it raises, what is wanted else (of the value and of the slots) -/
abbrev Pm := Ab → XD → (D → Ab → Prop) → Prop
/-- all arguments are told; the caller's things are marked so -/
def Whole (ρ : Ab) : Prop := ∀ (i : Nat), ρ[i]? ≠ some none ∧ ∀ (p : Bool) (c : OC), ρ[i]? = some (some (.ow p c)) → p = true
structure Starts (K : PySem.W.Frag) (B : Hp) (ρ : Ab) (vs : List V) (H : Hp) (J : Hp → Prop) : Prop where
  r : Rl K (gaOf B H ρ vs J) B ρ (vs.map some) H
def spD (K : PySem.W.Frag) (n : Nat) (P : Pm) : Sp := fun vs H Q E => ∃ (J : Hp → Prop) (B : Hp) (ρ : Ab) (Ξ : XD) (Φ : D → Ab → Prop), ρ.length = n ∧ Rl K (gaOf B H ρ vs J) B ρ (vs.map some) H ∧ P ρ Ξ Φ ∧
  (∀ v d B' H' ρ', Fin K (gaOf B H ρ vs J) B' ρ' H' → Dr K B' v d → Φ d ρ' → Q v H') ∧
  (∀ C od gs B' H' ρ', Fin K (gaOf B H ρ vs J) B' ρ' H' → XDat K B' H' H (fun _ => none) od gs → Ξ C gs ρ' → E (.ref C) od H')
theorem spD_len {n : Nat} {P : Pm} {vs : List V} {Q : VK} {E : XK} (h : spD K n P vs H Q E) : vs.length = n := by
  obtain ⟨J, B, ρ, Ξ, Φ, h1, h2, _⟩ := h
  have := h2.len
  rw [List.length_map] at this
  omega
/-- slots added behind -/
theorem Rl.more (r : Rl K Γ B ρ σ H) (n : Nat) : Rl K Γ B (ρ ++ List.replicate n none) (σ ++ List.replicate n none) H := by
  have g : ∀ (i : Nat) (s : Sl), (ρ ++ List.replicate n none)[i]? = some (some s) → ρ[i]? = some (some s) ∧ (σ ++ List.replicate n none)[i]? = σ[i]? := fun i s e => by
    by_cases hi : i < ρ.length
    · rw [List.getElem?_append_left hi] at e
      exact ⟨e, List.getElem?_append_left (by rw [← r.len]; exact hi)⟩
    · rw [List.getElem?_append_right (by omega)] at e
      rw [List.getElem?_replicate] at e
      split at e <;> cases e
  refine ⟨r.bh, r.bb, r.fr, r.nb, r.dm, r.hd, by rw [List.length_append, List.length_append, List.length_replicate, List.length_replicate, r.len], fun i d e => ?_, fun i p c e => ?_, fun i j p q c e h1 h2 h3 => ?_, r.st, r.jj, r.mm⟩
  · obtain ⟨a, b⟩ := g i _ e
    rw [b]
    exact r.pu i d a
  · obtain ⟨a, b⟩ := g i _ e
    rw [b]
    exact r.ow i p c a
  · obtain ⟨a1, b1⟩ := g i _ h1
    obtain ⟨a2, b2⟩ := g j _ h2
    rw [b1, b2] at h3
    exact r.ne i j p q c e a1 a2 h3
/-- a def's body keeps its word -/
def bodyOk (p : PSx) (P : Pm) (m : Nat) : Prop := ∀ ρ Ξ Φ, P ρ Ξ Φ → p (PEn.of Φ Ξ) (ρ ++ List.replicate m none)
theorem body_run {t : TS} {p : PSx} {n : Nat} {P : Pm} {N : List Str} {vs : List V} {Q : VK} {E : XK} (ht : RfS K (fun cls d _ H => E cls d H) t p) (h : spD K n P vs H Q E) (hb : bodyOk p P (N.length - n)) : t { nx := fun _ H' => Q .non H', rt := Q } (L2.start N vs) H := by
  have hl := spD_len h
  obtain ⟨J, B, ρ, Ξ, Φ, h1, h2, h3, h4, h5⟩ := h
  have e : L2.start N vs = vs.map some ++ List.replicate (N.length - n) none := by unfold L2.start; rw [hl]
  rw [e]
  refine ht.run _ B (ρ ++ List.replicate (N.length - n) none) _ H _ { nx := fun ρ' => Φ .non ρ', rt := Φ, bk := fun _ => False, ct := fun _ => False, ex := Ξ } (h2.more _) ⟨fun B' ρ' σ' H' r s q => h4 .non .non B' H' ρ' r.fin .non q, fun v d B' ρ' σ' H' r s dr q => h4 v d B' H' ρ' r.fin dr q, fun B' ρ' σ' H' r s q => q.elim, fun B' ρ' σ' H' r s q => q.elim, fun B' ρ' σ' H' C od gs r s x q => h5 C od gs B' H' ρ' r.fin x q⟩ (hb ρ Ξ Φ h3)
/-- .. of a def that raises nothing -/
theorem body_run0 {t : TS} {p : PSx} {n : Nat} {P : Pm} {N : List Str} {vs : List V} {Q : VK} {E : XK} (ht : RfS K W0 t p) (h : spD K n P vs H Q E) (hP : ∀ ρ Ξ Φ, P ρ Ξ Φ → P ρ X0 Φ) (hb : bodyOk p P (N.length - n)) : t { nx := fun _ H' => Q .non H', rt := Q } (L2.start N vs) H := by
  have hl := spD_len h
  obtain ⟨J, B, ρ, Ξ, Φ, h1, h2, h3, h4, h5⟩ := h
  have e : L2.start N vs = vs.map some ++ List.replicate (N.length - n) none := by unfold L2.start; rw [hl]
  rw [e]
  refine ht.run _ B (ρ ++ List.replicate (N.length - n) none) _ H _ { nx := fun ρ' => Φ .non ρ', rt := Φ, bk := fun _ => False, ct := fun _ => False, ex := X0 } (h2.more _) ⟨fun B' ρ' σ' H' r s q => h4 .non .non B' H' ρ' r.fin .non q, fun v d B' ρ' σ' H' r s dr q => h4 v d B' H' ρ' r.fin dr q, fun B' ρ' σ' H' r s q => q.elim, fun B' ρ' σ' H' r s q => q.elim, xok0⟩ (hb ρ X0 Φ (hP _ _ _ h3))
/-! ### a call -/
/-- the callee's slots for the arguments -/
def slOf (ρ : Ab) : Ar → Option Sl
  | .pu d => some (.pu d)
  | .sl j => match ρ[j]? with
    | some (some (.ow _ c)) => some (.ow true c)
    | _ => none
/-- what the callee left in the caller's things -/
def back : Ab → List Ar → Ab → Ab
  | ρ, [], _ => ρ
  | ρ, .pu _ :: as, cs => back ρ as cs.tail
  | ρ, .sl j :: as, cs => back (match ρ[j]?, cs.head? with
    | some (some (.ow p _)), some (some (.ow true e)) => ρ.set j (some (.ow p e))
    | _, _ => ρ.set j none) as cs.tail
def slots : List Ar → List Nat
  | [] => []
  | .pu _ :: as => slots as
  | .sl j :: as => j :: slots as
theorem slots_of {as : List Ar} {k j : Nat} (h : as[k]? = some (.sl j)) : j ∈ slots as := by
  induction as generalizing k with
  | nil => simp at h
  | cons a as ih =>
    cases k with
    | zero => simp at h; subst h; exact List.mem_cons_self
    | succ k =>
      have h1 : as[k]? = some (.sl j) := by simpa using h
      cases a with
      | pu d => exact ih h1
      | sl i => exact List.mem_cons_of_mem _ (ih h1)
theorem slOf_sl {j : Nat} {p : Bool} {c : OC} (h : ρ[j]? = some (some (.ow p c))) : slOf ρ (.sl j) = some (.ow true c) := by
  show (match ρ[j]? with
    | some (some (.ow _ c)) => some (Sl.ow true c)
    | _ => none) = some (Sl.ow true c)
  rw [h]
theorem slOf_inv {j : Nat} {s : Sl} (h : slOf ρ (.sl j) = some s) : ∃ p c, ρ[j]? = some (some (.ow p c)) ∧ s = .ow true c := by
  have h : (match ρ[j]? with
    | some (some (.ow _ c)) => some (Sl.ow true c)
    | _ => none) = some s := h
  split at h
  · rename_i p c e
    exact ⟨p, c, e, (Option.some.inj h).symm⟩
  · cases h
theorem back_length : ∀ {as : List Ar} {ρ cs : Ab}, (back ρ as cs).length = ρ.length
  | [], _, _ => rfl
  | .pu _ :: as, ρ, cs => back_length (as := as)
  | .sl j :: as, ρ, cs => by
    unfold back
    rw [back_length (as := as)]
    split <;> rw [List.length_set]
theorem back_get : ∀ {as : List Ar} {ρ cs : Ab} {i : Nat} {s : Sl}, (slots as).Nodup → (back ρ as cs)[i]? = some (some s) → (i ∉ slots as ∧ ρ[i]? = some (some s)) ∨
    ∃ (k : Nat) (p : Bool) (c e : OC), as[k]? = some (.sl i) ∧ ρ[i]? = some (some (.ow p c)) ∧ cs[k]? = some (some (.ow true e)) ∧ s = .ow p e
  | [], ρ, cs, i, s, _, h => .inl ⟨by simp [slots], h⟩
  | .pu d :: as, ρ, cs, i, s, nd, h => by
    rcases back_get (as := as) nd h with z | ⟨k, p, c, e, h1, h2, h3, h4⟩
    · exact .inl z
    · exact .inr ⟨k + 1, p, c, e, h1, h2, by cases cs with | nil => simp at h3 | cons => exact h3, h4⟩
  | .sl j :: as, ρ, cs, i, s, nd, h => by
    obtain ⟨n1, n2⟩ := List.nodup_cons.mp nd
    have key : ∀ x : Option Sl, (back (ρ.set j x) as cs.tail)[i]? = some (some s) → (i ≠ j → (i ∉ slots (.sl j :: as) ∧ ρ[i]? = some (some s)) ∨ ∃ (k : Nat) (p : Bool) (c e : OC), (Ar.sl j :: as)[k]? = some (.sl i) ∧ ρ[i]? = some (some (.ow p c)) ∧ cs[k]? = some (some (.ow true e)) ∧ s = .ow p e) ∧ (i = j → x = some s) := fun x h => by
      rcases back_get (as := as) n2 h with ⟨z1, z2⟩ | ⟨k, p, c, e, h1, h2, h3, h4⟩
      · refine ⟨fun hij => ?_, fun hij => ?_⟩
        · rw [List.getElem?_set_ne (Ne.symm hij)] at z2
          exact .inl ⟨fun q => (List.mem_cons.mp q).elim hij z1, z2⟩
        · subst hij
          by_cases hl : i < ρ.length
          · rw [List.getElem?_set_self hl] at z2
            exact Option.some.inj z2
          · rw [List.getElem?_eq_none (by rw [List.length_set]; omega)] at z2
            cases z2
      · have hm : i ∈ slots as := by
          exact slots_of h1
        have hij : i ≠ j := fun z => n1 (by rw [← z]; exact hm)
        refine ⟨fun _ => .inr ⟨k + 1, p, c, e, h1, by rw [List.getElem?_set_ne (Ne.symm hij)] at h2; exact h2, by cases cs with | nil => simp at h3 | cons => exact h3, h4⟩, fun z => absurd z hij⟩
    unfold back at h
    by_cases hij : i = j
    · split at h
      · rename_i p c e q1 q2
        have := (key _ h).2 hij
        cases this
        subst hij
        exact .inr ⟨0, p, _, e, rfl, q1, by cases cs with | nil => simp at q2 | cons => simpa using q2, rfl⟩
      · have := (key _ h).2 hij
        cases this
    · split at h
      · exact (key _ h).1 hij
      · exact (key _ h).1 hij
theorem slots_inj {as : List Ar} (nd : (slots as).Nodup) {k l j : Nat} (h : as[k]? = some (.sl j)) (h' : as[l]? = some (.sl j)) : k = l := by
  induction as generalizing k l with
  | nil => simp at h
  | cons a as ih =>
    cases k with
    | zero =>
      cases l with
      | zero => rfl
      | succ l =>
        simp at h; subst h
        exact absurd (slots_of (by simpa using h')) (List.nodup_cons.mp nd).1
    | succ k =>
      have h1 : as[k]? = some (.sl j) := by simpa using h
      cases l with
      | zero =>
        simp at h'; subst h'
        exact absurd (slots_of h1) (List.nodup_cons.mp nd).1
      | succ l =>
        have h2 : as[l]? = some (.sl j) := by simpa using h'
        cases a with
        | pu d => rw [ih nd h1 h2]
        | sl i => rw [ih (List.nodup_cons.mp nd).2 h1 h2]
theorem ArsOk.length {vs : List V} {as : List Ar} (h : ArsOk K B ρ σ vs as) : vs.length = as.length := by
  induction h with
  | nil => rfl
  | cons _ _ ih => rw [List.length_cons, List.length_cons, ih]
theorem ArsOk.get {vs : List V} {as : List Ar} (h : ArsOk K B ρ σ vs as) : ∀ {i : Nat} {a : Ar}, as[i]? = some a → ∃ v, vs[i]? = some v ∧ ArOk K B ρ σ v a := by
  induction h with
  | nil => intro i a e; simp at e
  | cons h1 h2 ih =>
    intro i a e
    cases i with
    | zero => simp at e; subst e; exact ⟨_, rfl, h1⟩
    | succ i =>
      obtain ⟨v, q1, q2⟩ := ih (by simpa using e)
      exact ⟨v, by simpa using q1, q2⟩
/-- the callee's things: which slot, which address -/
theorem own_slot (r : Rl K Γ B ρ σ H) {vs : List V} {as : List Ar} (h : ArsOk K B ρ σ vs as) {k : Nat} {b : Addr} (e : ownOf (as.map (slOf ρ)) vs k = some b) :
    ∃ j p c, as[k]? = some (.sl j) ∧ ρ[j]? = some (some (.ow p c)) ∧ σ[j]? = some (some (.ref b)) := by
  unfold ownOf at e
  split at e
  · rename_i q c a h1 h2
    cases e
    rw [List.getElem?_map] at h1
    cases q1 : as[k]? with
    | none => rw [q1] at h1; simp at h1
    | some x =>
      rw [q1] at h1
      cases x with
      | pu d => simp [slOf] at h1
      | sl j =>
        obtain ⟨v, g1, g2, p', c', g3⟩ := h.get q1
        rw [h2] at g1
        cases g1
        exact ⟨j, p', c', rfl, g3, g2⟩
  · cases e
theorem own_at (r : Rl K Γ B ρ σ H) {vs : List V} {as : List Ar} (h : ArsOk K B ρ σ vs as) {k j : Nat} {p : Bool} {c : OC} (e : as[k]? = some (.sl j)) (hc : ρ[j]? = some (some (.ow p c))) :
    ∃ a, σ[j]? = some (some (.ref a)) ∧ vs[k]? = some (.ref a) ∧ ownOf (as.map (slOf ρ)) vs k = some a := by
  obtain ⟨a, o, h1, _⟩ := r.ow j p c hc
  obtain ⟨v, g1, g2, _⟩ := h.get e
  rw [h1] at g2
  cases g2
  refine ⟨a, h1, g1, ?_⟩
  unfold ownOf
  rw [List.getElem?_map, e, g1]
  show (match some (slOf ρ (.sl j)), some (V.ref a) with
    | some (some (.ow _ _)), some (.ref a) => some a
    | _, _ => none) = some a
  rw [slOf_sl hc]
theorem call_start (r : Rl K Γ B ρ σ H) {vs : List V} {as : List Ar} (h : ArsOk K B ρ σ vs as) (nd : (slots as).Nodup) : Rl K (gaOf B H (as.map (slOf ρ)) vs Γ.J) B (as.map (slOf ρ)) (vs.map some) H := by
  have g : ∀ (i : Nat) (s : Sl), (as.map (slOf ρ))[i]? = some (some s) → (∃ d, as[i]? = some (.pu d) ∧ s = .pu d) ∨ ∃ j p c, as[i]? = some (.sl j) ∧ ρ[j]? = some (some (.ow p c)) ∧ s = .ow true c := fun i s e => by
    rw [List.getElem?_map] at e
    cases q : as[i]? with
    | none => rw [q] at e; simp at e
    | some x =>
      rw [q] at e
      cases x with
      | pu d =>
        have e : s = .pu d := by simpa [slOf] using e.symm
        exact .inl ⟨d, rfl, e⟩
      | sl j =>
        have e : slOf ρ (.sl j) = some s := by simpa using e
        obtain ⟨p, c, q1, q2⟩ := slOf_inv e
        exact .inr ⟨j, p, c, rfl, q1, q2⟩
  refine ⟨r.bh, Same.refl _, fun b o e _ _ => e, fun b o e => .inl e, fun b e => e, (fun b o e => by cases e), by rw [List.length_map, List.length_map, h.length], fun i d e => ?_, fun i p c e => ?_, fun i j p q c e h1 h2 h3 => ?_, r.st, r.jj, ⟨r.mm.ok, fun _ x => .inl x, fun _ _ => rfl⟩⟩
  · rcases g i _ e with ⟨d', q1, q2⟩ | ⟨j, p, c, _, _, q⟩
    · cases q2
      obtain ⟨v, g1, g2⟩ := h.get q1
      exact ⟨v, (by rw [List.getElem?_map, g1]; rfl), g2⟩
    · cases q
  · rcases g i _ e with ⟨d', q1, q2⟩ | ⟨j, p', c', q1, q2, q3⟩
    · cases q2
    · cases q3
      obtain ⟨a, k1, k2, k3⟩ := own_at r h q1 q2
      obtain ⟨a', o, m1, m2, m3, m4, m5⟩ := r.ow j p' c q2
      rw [k1] at m1
      cases m1
      exact ⟨a, o, (by rw [List.getElem?_map, k2]; rfl), m2, m3, m4, rfl, fun _ => k3, fun z => by cases z⟩
  · rcases g i _ h1 with ⟨d', q1, q2⟩ | ⟨i', p1, c1, a1, a2, a3⟩
    · cases q2
    · rcases g j _ h2 with ⟨d', q1, q2⟩ | ⟨j', p2, c2, b1, b2, b3⟩
      · cases q2
      · obtain ⟨a, k1, k2, _⟩ := own_at r h a1 a2
        obtain ⟨b, l1, l2, _⟩ := own_at r h b1 b2
        rw [List.getElem?_map, List.getElem?_map, k2, l2] at h3
        have hab : a = b := by simpa using h3
        subst hab
        have : i' = j' := r.ne i' j' p1 p2 c1 c2 a2 b2 (by rw [k1, l1])
        subst this
        exact slots_inj nd a1 b1
theorem call_end (r : Rl K Γ B ρ σ H) {vs : List V} {as : List Ar} (h : ArsOk K B ρ σ vs as) (nd : (slots as).Nodup) {ρc : Ab} (f : Fin K (gaOf B H (as.map (slOf ρ)) vs Γ.J) B' ρc H') : Rl K Γ B' (back ρ as ρc) σ H' := by
  have key : ∀ b o, H b = some o → (∀ j p c, j ∈ slots as → ρ[j]? = some (some (.ow p c)) → σ[j]? ≠ some (some (.ref b))) → ¬ Mm B b → H' b = some o := fun b o e n m => f.fr b o e (fun k z => by
    obtain ⟨j, p, c, h1, h2, h3⟩ := own_slot r h z
    exact n j p c (slots_of h1) h2 h3) m
  have bn : ∀ b o, H b = some o → B b = none → B' b = none := fun b o e n => by
    cases q : B' b with
    | none => rfl
    | some u =>
      rcases f.nb b u q with z | z
      · rw [show B b = some u from z] at n; cases n
      · rw [show H b = none from z] at e; cases e
  refine ⟨f.bh, r.bb.trans f.bb, fun b o e n m => key b o (r.fr b o e n m) (fun j p c _ q z => ?_) (r.noMm e m), fun b o e => ?_, fun b e => r.dm b (f.dm b e), fun b o e => ?_, by rw [back_length]; exact r.len, fun i d e => ?_, fun i p c e => ?_, fun i j p q c e h1 h2 h3 => ?_, r.st, ?_, ⟨f.mm, fun m x => (f.nm m x).elim (r.mm.nm m) fun y => .inr (r.dm m y), fun m x => (f.nm m x).elim (r.mm.hh m) fun y => (r.gone y).2⟩⟩
  · obtain ⟨a, u, k1, _, _, _, _, k2, k3⟩ := r.ow j p c q
    rw [k1] at z
    cases z
    cases p with
    | true => exact n j (k2 rfl)
    | false => rw [k3 rfl] at e; cases e
  · rcases f.nb b o e with z | z
    · exact r.nb b o z
    · exact .inr (r.dm b z)
  · obtain ⟨g1, g2⟩ := r.hd b o e
    refine ⟨key b o g1 (fun j p c _ q z => ?_) (r.noHid e), bn b o g1 g2⟩
    obtain ⟨a, u, k1, _, _, _, k2, _⟩ := r.ow j p c q
    rw [k1] at z
    cases z
    rw [k2] at e
    cases e
  · rcases back_get nd e with ⟨_, z⟩ | ⟨k, p, c, e', _, _, _, z⟩
    · obtain ⟨v, g1, g2⟩ := r.pu i d z
      exact ⟨v, g1, g2.mono f.bb⟩
    · cases z
  · rcases back_get nd e with ⟨hn, z⟩ | ⟨k, p', c', e', h1, h2, h3, z⟩
    · obtain ⟨a, o, g1, g2, g3, g4, g5⟩ := r.ow i p c z
      refine ⟨a, o, g1, key a o g2 (fun j p2 c2 hj q w => ?_) (r.mm.ok.no g2 g3.ndT), g3.mono f.bb, bn a o g2 g4, g5⟩
      have : i = j := r.ne i j p p2 c c2 z q (by rw [g1, w])
      exact hn (this ▸ hj)
    · cases z
      obtain ⟨a, o, g1, g2, g3, g4, g5⟩ := r.ow i p c' h2
      obtain ⟨a', k1, k2, k3⟩ := own_at r h h1 h2
      rw [g1] at k1
      cases k1
      obtain ⟨a'', o', m1, m2, m3, m4⟩ := f.ow k c h3
      have m1 : ownOf (as.map (slOf ρ)) vs k = some a'' := m1
      rw [k3] at m1
      cases m1
      exact ⟨a, o', g1, m2, m3, m4, g5⟩
  · have g : ∀ (m : Nat) (p : Bool) (c : OC), (back ρ as ρc)[m]? = some (some (.ow p c)) → ∃ c', ρ[m]? = some (some (.ow p c')) := fun m p c q => by
      rcases back_get nd q with ⟨_, z⟩ | ⟨k, p', c', e', _, z1, _, z⟩
      · exact ⟨c, z⟩
      · cases z
        exact ⟨c', z1⟩
    obtain ⟨c1, y1⟩ := g i p c h1
    obtain ⟨c2, y2⟩ := g j q e h2
    exact r.ne i j p q c1 c2 y1 y2 h3
  · refine r.st _ _ (fun b o e n1 n2 n3 n4 => key b o e (fun j p c _ q z => ?_) (r.mm.ok.no e n4)) r.jj
    obtain ⟨a, u, k1, k2, k3, _⟩ := r.ow j p c q
    rw [k1] at z
    cases z
    rw [e] at k2
    cases k2
    rcases k3.plain with ⟨xs, y⟩ | ⟨xs, y⟩ | ⟨C, dx, fs, y⟩
    · exact n1 _ y
    · exact n2 _ y
    · exact n3 _ _ _ y
def pCall (n : Nat) (P : Pm) (pa : PAx) : PEx := fun ρ Ξ Φ => pa ρ Ξ fun as ρ1 => as.length = n ∧ (slots as).Nodup ∧ P (as.map (slOf ρ1)) (fun C gs ρc => Ξ C gs (back ρ1 as ρc)) fun d ρc => Φ d (back ρ1 as ρc)
theorem call_sp {n : Nat} {P : Pm} {Q : VK} {E : XK} {Ξ : XD} {Φ : D → Ab → Prop} {vs : List V} {as : List Ar} (r : Rl K Γ B ρ σ H) (h : ArsOk K B ρ σ vs as) (hn : as.length = n) (nd : (slots as).Nodup)
    (hp : P (as.map (slOf ρ)) (fun C gs ρc => Ξ C gs (back ρ as ρc)) fun d ρc => Φ d (back ρ as ρc))
    (hE : ∀ C od gs B' H' ρ', Rl K Γ B' ρ' σ H' → Same B B' → XDat K B' H' Γ.H Γ.hid od gs → Ξ C gs ρ' → E (.ref C) od H') (po : PoE K Γ B σ Q Φ) : spD K n P vs H Q E :=
  ⟨Γ.J, B, as.map (slOf ρ), _, _, by rw [List.length_map]; exact hn, call_start r h nd, hp, fun v d B1 H1 ρ1 f dr q => po v d B1 H1 _ (call_end r h nd f) f.bb dr q, fun C od gs B1 H1 ρ1 f x q => hE C od gs B1 H1 _ (call_end r h nd f) f.bb (x.imp id fun ⟨d, fs, e1, e2, e3, e4⟩ => ⟨d, fs, e1, e2, r.gone e3.1, e4⟩) q⟩
/-- a def that lets out nothing is wanted to raise nothing -/
def pCall0 (n : Nat) (P : Pm) (pa : PAx) : PEx := fun ρ Ξ Φ => pa ρ Ξ fun as ρ1 => as.length = n ∧ (slots as).Nodup ∧ P (as.map (slOf ρ1)) X0 fun d ρc => Φ d (back ρ1 as ρc)
instance rf_call0 {n : Nat} {P : Pm} {ta : TA} {pa : PAx} [ha : RfA K W ta pa] : RfE K W (tCall (spD K n P) [] (fun _ _ _ => False) ta) (pCall0 n P pa) where
  run := fun Γ B ρ σ H Q Ξ Φ r xo h po => ha.run Γ B ρ σ H _ Ξ _ r xo h fun vs as B1 H1 ρ1 r1 s1 aso hq => by
    obtain ⟨hn, nd, hq⟩ := hq
    rw [List.append_nil]
    exact call_sp (Ξ := X0) r1 aso hn nd hq (fun _ _ _ _ _ _ _ _ _ z => z) (po.mono s1)
instance rf_callS {n : Nat} {P : Pm} {ta : TA} {pa : PAx} [ha : RfA K W ta pa] : RfE K W (tCallSD (spD K n P) [] (WE W) ta) (pCall n P pa) where
  run := fun Γ B ρ σ H Q Ξ Φ r xo h po => ha.run Γ B ρ σ H _ Ξ _ r xo h fun vs as B1 H1 ρ1 r1 s1 aso hq => by
    obtain ⟨hn, nd, hq⟩ := hq
    rw [List.append_nil]
    exact call_sp r1 aso hn nd hq (fun C od gs B' H' ρ' r' s' x q => xo B' ρ' H' C od gs r' (s1.trans s') x q) (po.mono s1)
end
section
variable {P : Program} {w : World} {K : PySem.W.Frag} {mg : Str → Option Value} {base : Heap}
open PyProof.Rows (envOfC) in
/-- a def that raises nothing keeps its word -/
theorem ok0 {x qual : Str} {st : Stmt} {f : Addr} {fd : FuncData} {N ps : List Str} {k : Nat} {Pw : Pm} (F : Fun K x qual st f fd) (S : FnScope N ps (defScope st)) (hP : ∀ ρ Ξ Φ, Pw ρ Ξ Φ → Pw ρ X0 Φ)
    (hb : ∀ (cdv : Value) (A : Around) (outer : List Env) (s : Shared) (H : Hp) (E : XK), Room k (A.deeper (envOfC qual (defScope st) s.heap.objs.size f cdv)) →
      ∃ t, PSs (cxOf CX0 P w K mg base N qual (defScope st) f cdv A outer s H E).nox (defBody st) t ∧ ∃ p, RfS K W0 t p ∧ bodyOk p Pw (N.length - ps.length)) : FnOk P w K mg base CX0 (k + 1) f fd ps (spD K ps.length Pw) :=
  F.ok S (fun vs H Q E h => spD_len h) fun cdv A outer s H vs Q E hr h => by
    obtain ⟨t, h1, p, h2, h3⟩ := hb cdv A outer s H E hr
    exact ⟨t, h1, body_run0 h2 h hP h3⟩
open PyProof.Rows (envOfC) in
/-- a def that may raise -/
theorem okX {x qual : Str} {st : Stmt} {f : Addr} {fd : FuncData} {N ps : List Str} {k : Nat} {Pw : Pm} (F : Fun K x qual st f fd) (S : FnScope N ps (defScope st))
    (hb : ∀ (cdv : Value) (A : Around) (outer : List Env) (s : Shared) (H : Hp) (E : XK), Room k (A.deeper (envOfC qual (defScope st) s.heap.objs.size f cdv)) →
      ∃ t, PSs (cxOf (L2.CX P w) P w K mg base N qual (defScope st) f cdv A outer s H E) (defBody st) t ∧ ∃ p, RfS K (fun cls d _ H => E cls d H) t p ∧ bodyOk p Pw (N.length - ps.length)) : FnOk P w K mg base (L2.CX P w) (k + 1) f fd ps (spD K ps.length Pw) :=
  F.okX S (fun vs H Q E h => spD_len h) fun cdv A outer s H vs Q E hr h => by
    obtain ⟨t, h1, p, h2, h3⟩ := hb cdv A outer s H E hr
    exact ⟨t, h1, body_run h2 h h3⟩
end
end Dx
set_option Elab.async false
set_option linter.all false
set_option maxRecDepth 100000
set_option maxHeartbeats 4000000
set_option autoImplicit false
/-! Dx5: operators of any kind of operands, type(x), fields, dicts. -/
namespace Dx
open PySem L2
section
variable {K : PySem.W.Frag} {W : WX} {Γ : Ga} {B B' : Hp} {ρ : Ab} {σ : L2.St} {H H' : Hp}
/-! ### either rule -/
instance (priority := low) ro_or {r r' : R2} {q q' : D → D → (D → Prop) → Prop} [h : RfO K r q] [h' : RfO K r' q'] : RfO K (fun x y H Q => r x y H Q ∨ r' x y H Q) (fun x y Ψ => q x y Ψ ∨ q' x y Ψ) where
  run := fun B H x y dx dy Q Ψ s hx hy h0 po => h0.imp (fun z => h.run B H x y dx dy Q Ψ s hx hy z po) fun z => h'.run B H x y dx dy Q Ψ s hx hy z po
/-! ### + -/
instance ro_cat : RfO K rCat (fun x y Ψ => ∃ a b, x = .lst a ∧ y = .lst b ∧ a.length + b.length ≤ 100000 ∧ Ψ (.lst (a ++ b))) where
  run := fun B H x y dx dy Q Ψ s hx hy h po => by
    obtain ⟨a, b, rfl, rfl, hl, h⟩ := h
    obtain ⟨p, xs, rfl, h1, h2⟩ := hx.lst_inv
    obtain ⟨q, ys, rfl, h3, h4⟩ := hy.lst_inv
    refine ⟨p, q, xs, ys, rfl, rfl, s _ _ h1, s _ _ h3, by rw [h2.length, h4.length]; exact szl hl, fun l hl => ?_⟩
    have al := Al.new (K := K) (o := .lst (xs ++ ys)) s.s hl
    exact po _ _ _ _ al (Same.up2 s) (.lst upd_same ((h2.append h4).mono al.b)) h
end
/-- type(x) -/
inductive TyD (K : PySem.W.Frag) (H : Hp) : V → String → Prop
  | non : TyD K H .non "NoneType"
  | bl (b : Bool) : TyD K H (.bl b) "bool"
  | int (i : Int) : TyD K H (.int i) "int"
  | str (x : Str) : TyD K H (.str x) "str"
  | lst {a : Addr} {xs : List V} (e : SqL K H a xs) : TyD K H (.ref a) "list"
  | tup {a : Addr} {xs : List V} (e : SqT K H a xs) : TyD K H (.ref a) "tuple"
  | dic {a : Addr} {kvs : List (Key × V)} (e : H a = some (.dK kvs)) : TyD K H (.ref a) "dict"
def rTyD (K : PySem.W.Frag) : List V → Hp → VK → Prop := fun xs H Q => ∃ x T, xs = [x] ∧ TyD K H x T ∧ Q (.ty T) H
theorem call_typeD {X : Cx} : CallR X (.type "type") (rTyD X.K) := by
  intro pins s σ H xs us Q I r h
  obtain ⟨x, T, rfl, t, q⟩ := h
  obtain ⟨u, rfl, rx⟩ := vals1 r
  have fin : EP X pins σ Q (.type T) s := ⟨.ty T, H, I, rfl, q⟩
  cases t with
  | non => cases (show u = Value.none from rx); exact call_type_of (Tx := "NoneType") rfl (by decide +kernel) fin
  | bl y => cases (show u = Value.bool y from rx); exact call_type_of (Tx := "bool") rfl (by decide +kernel) fin
  | int i => obtain ⟨t, rfl⟩ := (show ∃ t, u = Value.int i t from rx); exact call_type_of (Tx := "int") rfl (by decide +kernel) fin
  | str y => obtain ⟨t, rfl⟩ := (show ∃ t, u = Value.str y t from rx); exact call_type_of (Tx := "str") rfl (by decide +kernel) fin
  | lst e =>
    cases rx
    obtain ⟨its, rv, p, _⟩ := I.list e
    exact call_type_of (Tx := "list") p.isList.typeIs (by decide +kernel) fin
  | tup e =>
    cases rx
    obtain ⟨its, rv, p, _⟩ := I.tuple e
    exact call_type_of (Tx := "tuple") p.typeIs (by decide +kernel) fin
  | dic e =>
    cases rx
    obtain ⟨_, _, vs, _, o, es, ep, ho, hx, _⟩ := I.hok _ _ e
    exact call_type_of (Tx := "dict") ⟨o, ho, hx.1⟩ (by decide +kernel) fin
section
variable {K : PySem.W.Frag} {W : WX} {Γ : Ga} {B B' : Hp} {ρ : Ab} {σ : L2.St} {H H' : Hp}
def D.ty : D → Option String
  | .non => some "NoneType"
  | .bl _ => some "bool"
  | .int _ => some "int"
  | .str _ => some "str"
  | .tup _ => some "tuple"
  | .lst _ => some "list"
  | .sql _ => some "list"
  | .dic _ => some "dict"
  | .obj _ _ => none
  | .raw _ => none
  | .trk _ => none
  | .exc _ _ _ _ => none
theorem Dr.tyD {v : V} {d : D} {n : String} (h : Dr K B v d) (e : d.ty = some n) : TyD K B v n := by
  cases h with
  | non => cases e; exact .non
  | bl b => cases e; exact .bl b
  | int i => cases e; exact .int i
  | str x => cases e; exact .str x
  | tup h _ => cases e; exact .tup h
  | lst h _ => cases e; exact .lst (SqL.of h)
  | sql h _ => cases e; exact .lst h
  | dic h _ => cases e; exact .dic h
  | obj h _ => cases e
  | raw a => cases e
  | trk h1 h2 => cases e
  | exc0 a C => cases e
  | exc h1 h2 => cases e
theorem TyD.mono {v : V} {n : String} (s : Same B H) (h : TyD K B v n) : TyD K H v n := by
  cases h with
  | non => exact .non
  | bl b => exact .bl b
  | int i => exact .int i
  | str x => exact .str x
  | lst e => exact .lst (s.seq e)
  | tup e => exact .tup (Same.sqT s e)
  | dic e => exact .dic (s _ _ e)
/-- type(x) is T -/
def rIsTy2 : R2 := fun x y H Q => ∃ m n, x = .ty m ∧ y = .ty n ∧ Q (.bl (decide (m = n))) H
theorem op_isTy2 {X : Cx} : OpR X (compareOp .Is) rIsTy2 := op_isTy
def rIsNotTy2 : R2 := fun x y H Q => ∃ m n, x = .ty m ∧ y = .ty n ∧ Q (.bl (!decide (m = n))) H
theorem op_isNotTy2 {X : Cx} : OpR X (compareOp .IsNot) rIsNotTy2 := op_isNotTy
def pIsTy (n : String) (pa : PEx) : PEx := fun ρ Ξ Φ => pa ρ Ξ fun d ρ1 => ∃ m, d.ty = some m ∧ Φ (.bl (decide (m = n))) ρ1
instance (priority := high) rf_isTy {ta : TE} {n : String} {pa : PEx} [ha : RfE K W ta pa] : RfE K W (tOp rIsTy2 (tCB (rTyD K) (tCons ta tNil)) (tC (.ty n))) (pIsTy n pa) where
  run := fun Γ B ρ σ H Q Ξ Φ r xo h po => ha.run Γ B ρ σ H _ Ξ _ r xo h fun v d B1 H1 ρ1 r1 s1 dr hq => by
    obtain ⟨m, e, hq⟩ := hq
    exact ⟨v, m, rfl, (dr.tyD e).mono r1.bh, m, n, rfl, rfl, po _ _ _ _ _ r1 s1 (.bl _) hq⟩
def pIsNotTy (n : String) (pa : PEx) : PEx := fun ρ Ξ Φ => pa ρ Ξ fun d ρ1 => ∃ m, d.ty = some m ∧ Φ (.bl (!decide (m = n))) ρ1
instance (priority := high) rf_isNotTy {ta : TE} {n : String} {pa : PEx} [ha : RfE K W ta pa] : RfE K W (tOp rIsNotTy2 (tCB (rTyD K) (tCons ta tNil)) (tC (.ty n))) (pIsNotTy n pa) where
  run := fun Γ B ρ σ H Q Ξ Φ r xo h po => ha.run Γ B ρ σ H _ Ξ _ r xo h fun v d B1 H1 ρ1 r1 s1 dr hq => by
    obtain ⟨m, e, hq⟩ := hq
    exact ⟨v, m, rfl, (dr.tyD e).mono r1.bh, m, n, rfl, rfl, po _ _ _ _ _ r1 s1 (.bl _) hq⟩
/-! ### fields of instances -/
def pFld (K : PySem.W.Frag) (f : Str) (pa : PEx) : PEx := fun ρ Ξ Φ => pa ρ Ξ fun d ρ1 => ∃ C gs e, d = .obj C gs ∧ Cls K C ∧ NoAttr K C f ∧ gs.lookup f = some e ∧ Φ e ρ1
instance rf_fld {ta : TE} {f : Str} {pa : PEx} [ha : RfE K W ta pa] : RfE K W (tFld K ta f) (pFld K f pa) where
  run := fun Γ B ρ σ H Q Ξ Φ r xo h po => ha.run Γ B ρ σ H _ Ξ _ r xo h fun v d B1 H1 ρ1 r1 s1 dr hq => by
    obtain ⟨C, gs, e, rfl, c, n, l, hq⟩ := hq
    cases dr with
    | obj h1 h2 =>
      obtain ⟨u, h3, h4⟩ := h2.look l
      exact ⟨_, C, _, _, u, rfl, r1.bh _ _ h1, c, n, h3, po _ _ _ _ _ r1 s1 h4 hq⟩
end

/-! ### items of a list or a tuple -/
def rIxLT (K : PySem.W.Frag) : R2 := fun x y H Q => rIxL K x y H Q ∨ rIxT K x y H Q
theorem ix_lt {X : Cx} : IxR X (rIxLT X.K) := ix_list.or ix_tup
def qIx : D → D → (D → Prop) → Prop := fun x y Ψ => ∃ ds i d, x.items = some ds ∧ y = .int i ∧ atI ds i = some d ∧ Ψ d
def CMulA (i j : Int) : Prop := CMul i j ∨ CMulW i j
theorem op_mulA {X : Cx} : OpR X (binaryOp .Mult) (rI CMulA fun i j => .int (i * j)) := by
  intro pins s σ H x y v u Q I rx ry h
  obtain ⟨i, j, e1, e2, c, q⟩ := h
  rcases c with c | c
  · exact op_mul pins s σ H x y v u Q I rx ry ⟨i, j, e1, e2, c, q⟩
  · exact op_mulW pins s σ H x y v u Q I rx ry ⟨i, j, e1, e2, c, q⟩
section
variable {K : PySem.W.Frag} {W : WX} {Γ : Ga} {B B' : Hp} {ρ : Ab} {σ : L2.St} {H H' : Hp}
instance ro_ixLT : RfO K (rIxLT K) qIx where
  run := fun B H x y dx dy Q Ψ s hx hy h po => by
    obtain ⟨ds, i, d, e1, rfl, e3, h⟩ := h
    obtain ⟨a, xs, rfl, h1, h2⟩ := hx.items_inv e1
    obtain ⟨v, h3, h4⟩ := h2.at e3
    have fin := po _ _ _ _ (Al.refl (K := K) B H) s h4 h
    rcases h1 with h1 | h1
    · exact .inl ⟨a, xs, i, v, rfl, hy.int_inv, s.seq h1, h3, fin⟩
    · exact .inr ⟨a, xs, i, v, rfl, hy.int_inv, Same.sqT s h1, h3, fin⟩
/-- an item of a list that may be one's own: it stays so -/
def pIxV (i : Nat) (pb : PEx) : PEx := fun ρ Ξ Φ => ∃ s, ρ[i]? = some (some s) ∧ match s with
  | .pu x => pb ρ Ξ fun y ρ2 => qIx x y fun z => Φ z ρ2
  | .ow _ _ => pb ρ Ξ fun y ρ2 => ∃ p ds k d, ρ2[i]? = some (some (.ow p (.lst ds))) ∧ y = .int k ∧ atI ds k = some d ∧ Φ d ρ2
theorem OCr.lst_inv {ds : List D} {o : HO} (h : OCr K B (.lst ds) o) : ∃ xs, o = .lst xs ∧ DrA K B xs ds := by cases h; exact ⟨_, rfl, by assumption⟩
theorem OCr.ins_inv {C : Addr} {gs : List (Str × D)} {o : HO} (h : OCr K B (.ins C gs) o) : ∃ dx fs, o = .ins C dx fs ∧ DrF K B fs gs ∧ ∀ f, memoName f = true → gs.lookup f = none := by
  cases h with
  | ins h n => exact ⟨_, _, rfl, h, n⟩
instance (priority := high) rf_ixV {i : Nat} {tb : TE} {pb : PEx} [hb : RfE K W tb pb] : RfE K W (tOp (rIxLT K) (tVar i) tb) (pIxV i pb) where
  run := fun Γ B ρ σ H Q Ξ Φ r xo h po => by
    obtain ⟨s, e, h⟩ := h
    match s, e, h with
    | .pu x, e, h =>
      obtain ⟨v, h1, h2⟩ := r.pu i x e
      refine ⟨v, h1, hb.run Γ B ρ σ H _ Ξ _ r xo h fun v2 d2 B2 H2 ρ2 r2 s2 dr2 hq2 => ?_⟩
      exact (ro_ixLT (K := K)).run B2 H2 v v2 x d2 Q _ r2.sm (h2.mono s2) dr2 hq2 fun v3 d3 B3 H3 al s3 dr3 q3 => po v3 d3 B3 H3 ρ2 (r2.al al s3) (s2.trans al.b) dr3 q3
    | .ow p c, e, h =>
      obtain ⟨a, o, h1, h2, h3, _⟩ := r.ow i p c e
      refine ⟨.ref a, h1, hb.run Γ B ρ σ H _ Ξ _ r xo h fun v2 d2 B2 H2 ρ2 r2 s2 dr2 hq2 => ?_⟩
      obtain ⟨p', ds, k, d, e2, rfl, e3, q⟩ := hq2
      obtain ⟨a', o', g1, g2, g3, _⟩ := r2.ow i p' (.lst ds) e2
      rw [h1] at g1
      cases g1
      obtain ⟨xs, rfl, g4⟩ := g3.lst_inv
      obtain ⟨w, h5, h6⟩ := g4.at e3
      exact .inl ⟨a, xs, k, w, rfl, dr2.int_inv, SqL.of g2, h5, po _ _ _ _ _ r2 s2 h6 q⟩
/-- xs[i] = e of one's own list -/
def pSetL (i : Nat) (pe pk : PEx) : PSx := fun Δ ρ => pe ρ Δ.ex fun d ρ1 => (∃ p c, ρ1[i]? = some (some (.ow p c))) ∧ pk ρ1 Δ.ex fun y ρ2 => ∃ p ds k j, ρ2[i]? = some (some (.ow p (.lst ds))) ∧ y = .int k ∧ ixN ds.length k = some j ∧ Δ.nx (ρ2.set i (some (.ow p (.lst (ds.set j d)))))
instance (priority := high) rs_setL {i : Nat} {te tk : TE} {pe pk : PEx} [he : RfE K W te pe] [hk : RfE K W tk pk] : RfS K W (tAsg te (gSub (tVar i) tk rSetL)) (pSetL i pe pk) where
  run := fun Γ B ρ σ H E Δ r sim h => he.run Γ B ρ σ H _ Δ.ex _ r (sim.ex.at _) h fun v d B1 H1 ρ1 r1 s1 dr hq => by
    obtain ⟨⟨p0, c0, e0⟩, hq⟩ := hq
    obtain ⟨a, o, g1, _⟩ := r1.ow i p0 c0 e0
    refine ⟨.ref a, g1, hk.run Γ B1 ρ1 σ H1 _ Δ.ex _ r1 ((sim.ex.mono s1).at _) hq fun y dy B2 H2 ρ2 r2 s2 dr2 hq2 => ?_⟩
    obtain ⟨p, ds, k, j, e2, rfl, e3, q⟩ := hq2
    obtain ⟨a', o', k1, k2, k3, _⟩ := r2.ow i p (.lst ds) e2
    rw [g1] at k1
    cases k1
    obtain ⟨xs, rfl, k4⟩ := k3.lst_inv
    refine ⟨a, xs, k, j, rfl, dr2.int_inv, k2, by rw [k4.length]; exact e3, ?_⟩
    exact sim.nx _ _ _ _ (r2.write e2 g1 (.lst (k4.set (dr.mono s2) j))) (s1.trans s2) q
/-- xs.append(e) of one's own list -/
def pApp (i : Nat) (pe : PEx) : PSx := fun Δ ρ => (∃ p ds, ρ[i]? = some (some (.ow p (.lst ds)))) ∧ pe ρ Δ.ex fun d ρ2 => ∃ p ds, ρ2[i]? = some (some (.ow p (.lst ds))) ∧ ds.length < 100000 ∧ Δ.nx (ρ2.set i (some (.ow p (.lst (ds ++ [d])))))
instance (priority := high) rs_app {i : Nat} {te : TE} {pe : PEx} [he : RfE K W te pe] : RfS K W (tDrop (tBM K "list" rAppend (tVar i) (tCons te tNil))) (pApp i pe) where
  run := fun Γ B ρ σ H E Δ r sim h => by
    obtain ⟨⟨p0, ds0, e0⟩, h⟩ := h
    obtain ⟨a, o, g1, g2, g3, _⟩ := r.ow i p0 _ e0
    obtain ⟨xs0, rfl, _⟩ := g3.lst_inv
    refine ⟨.ref a, g1, .inl ⟨rfl, _, SqL.of g2⟩, he.run Γ B ρ σ H _ Δ.ex _ r (sim.ex.at _) h fun v d B2 H2 ρ2 r2 s2 dr2 hq2 => ?_⟩
    obtain ⟨p, ds, e2, hl, q⟩ := hq2
    obtain ⟨a', o', k1, k2, k3, _⟩ := r2.ow i p (.lst ds) e2
    rw [g1] at k1
    cases k1
    obtain ⟨xs, rfl, k4⟩ := k3.lst_inv
    refine ⟨a, xs, v, rfl, rfl, k2, by rw [k4.length]; exact szlt hl, ?_⟩
    exact sim.nx _ _ _ _ (r2.write e2 g1 (.lst (k4.append (.cons dr2 .nil)))) s2 q
/-! ### lists times, slices, truth, all -/
theorem DrA.flatRep {xs : List V} {ds : List D} (h : DrA K B xs ds) : ∀ n : Nat, DrA K B (List.replicate n xs).flatten (List.replicate n ds).flatten
  | 0 => .nil
  | n + 1 => by
    rw [List.replicate_succ, List.replicate_succ, List.flatten_cons, List.flatten_cons]
    exact h.append (DrA.flatRep h n)
instance ro_rep : RfO K rRep (fun x y Ψ => ∃ ds k, x = .lst ds ∧ y = .int k ∧ (-(2 ^ 63) ≤ k ∧ k < 2 ^ 63) ∧ ds.length * k.toNat ≤ 100000 ∧ Ψ (.lst (List.replicate k.toNat ds).flatten)) where
  run := fun B H x y dx dy Q Ψ s hx hy h po => by
    obtain ⟨ds, k, rfl, rfl, ⟨l1, l2⟩, hl, h⟩ := h
    obtain ⟨p, xs, rfl, h1, h2⟩ := hx.lst_inv
    refine ⟨p, k, xs, rfl, hy.int_inv, s _ _ h1, l1, l2, by rw [h2.length]; exact szl hl, fun q hq => ?_⟩
    have al := Al.new (K := K) (o := .lst (List.replicate k.toNat xs).flatten) s.s hq
    exact po _ _ _ _ al (Same.up2 s) (.lst upd_same ((h2.flatRep _).mono al.b)) h
class RfP (K : PySem.W.Frag) (W : WX) (t : TO) (p : outParam (Ab → XD → (Option Int → Ab → Prop) → Prop)) : Prop where
  run : ∀ Γ B ρ σ H Q Ξ Φ, Rl K Γ B ρ σ H → XAt K Γ B σ W Ξ → p ρ Ξ Φ → (∀ o B' H' ρ', Rl K Γ B' ρ' σ H' → Same B B' → Φ o ρ' → Q o H') → t σ H Q
instance rp_no : RfP K W tNoPart (fun ρ _ Φ => Φ none ρ) := ⟨fun Γ B ρ σ H Q Ξ Φ r xo h po => po _ _ _ _ r (Same.refl _) h⟩
def pPart (pa : PEx) : Ab → XD → (Option Int → Ab → Prop) → Prop := fun ρ Ξ Φ => pa ρ Ξ fun d ρ1 => ∃ i, d = .int i ∧ Φ (some i) ρ1
instance rp_part {ta : TE} {pa : PEx} [ha : RfE K W ta pa] : RfP K W (tPart ta) (pPart pa) where
  run := fun Γ B ρ σ H Q Ξ Φ r xo h po => ha.run Γ B ρ σ H _ Ξ _ r xo h fun v d B1 H1 ρ1 r1 s1 dr hq => by
    obtain ⟨i, rfl, hq⟩ := hq
    exact ⟨i, dr.int_inv, po _ _ _ _ r1 s1 hq⟩
def cutD (xs : List D) (lo hi : Option Int) : List D := (xs.drop (HT.sIx xs.length 0 lo)).take (HT.sIx xs.length xs.length hi - HT.sIx xs.length 0 lo)
theorem DrA.cut {xs : List V} {ds : List D} (h : DrA K B xs ds) (lo hi : Option Int) : DrA K B (cutV xs lo hi) (cutD ds lo hi) := by
  unfold cutV cutD
  rw [h.length]
  exact (h.drop _).take _
def pSl (pa : PEx) (pl ph : Ab → XD → (Option Int → Ab → Prop) → Prop) : PFx := fun ρ Ξ Φ => pa ρ Ξ fun x ρ1 => pl ρ1 Ξ fun l ρ2 => ph ρ2 Ξ fun u ρ3 => ∃ ds, x.seq = some ds ∧ Φ (.lst (cutD ds l u)) ρ3
instance rff_sl {ta : TE} {tl th : TO} {pa : PEx} {pl ph : Ab → XD → (Option Int → Ab → Prop) → Prop} [ha : RfE K W ta pa] [hl : RfP K W tl pl] [hh : RfP K W th ph] : RfF K W (tSl (rSlL K) ta tl th) (pSl pa pl ph) where
  run := fun Γ B ρ σ H Q Ξ Φ r xo h po => ha.run Γ B ρ σ H _ Ξ _ r xo h fun v d B1 H1 ρ1 r1 s1 dr hq => hl.run Γ B1 ρ1 σ H1 _ Ξ _ r1 (xo.mono s1) hq fun l B2 H2 ρ2 r2 s2 hq2 => hh.run Γ B2 ρ2 σ H2 _ Ξ _ r2 (xo.mono (s1.trans s2)) hq2 fun u B3 H3 ρ3 r3 s3 hq3 => by
    obtain ⟨ds, e, q⟩ := hq3
    obtain ⟨a, xs, rfl, h1, h2⟩ := dr.seq_inv e
    exact ⟨a, xs, rfl, ((s2.trans s3).trans r3.bh).seq h1, fun p hp => po.new r3 ((s1.trans s2).trans s3) hp (.lst ((h2.mono (s2.trans s3)).cut l u)) q⟩
def D.truth : D → Option Bool
  | .non => some false
  | .bl b => some b
  | .int i => some (i != 0)
  | .lst ds => some (!ds.isEmpty)
  | .sql ds => some (!ds.isEmpty)
  | .tup ds => some (!ds.isEmpty)
  | _ => none
theorem DrA.emp {xs : List V} {ds : List D} (h : DrA K B xs ds) : xs.isEmpty = ds.isEmpty := by cases h <;> rfl
theorem Dr.tru {v : V} {d : D} {b : Bool} (h : Dr K B v d) (s : Same B H) (e : d.truth = some b) : TruV K v H b := by
  cases h with
  | non => cases e; exact rfl
  | bl b => cases e; exact rfl
  | int i => cases e; exact rfl
  | str x => cases e
  | tup h1 h2 => cases e; exact .inr (.inl ⟨_, Same.sqT s h1, by rw [h2.emp]⟩)
  | lst h1 h2 => cases e; exact .inl ⟨_, SqL.of (s _ _ h1), by rw [h2.emp]⟩
  | sql h1 h2 => cases e; exact .inl ⟨_, s.seq h1, by rw [h2.emp]⟩
  | dic h1 h2 => cases e
  | obj h1 h2 => cases e
  | raw a => cases e
  | trk h1 h2 => cases e
  | exc0 a C => cases e
  | exc h1 h2 => cases e
def pOrTV (pa pb : PEx) : PEx := fun ρ Ξ Φ => pa ρ Ξ fun d ρ1 => ∃ k, d.truth = some k ∧ if k = true then Φ d ρ1 else pb ρ1 Ξ Φ
instance rf_orT {ta tb : TE} {pa pb : PEx} [ha : RfE K W ta pa] [hb : RfE K W tb pb] : RfE K W (tOrT K ta tb) (pOrTV pa pb) where
  run := fun Γ B ρ σ H Q Ξ Φ r xo h po => ha.run Γ B ρ σ H _ Ξ _ r xo h fun v d B1 H1 ρ1 r1 s1 dr hq => by
    obtain ⟨k, e, hq⟩ := hq
    refine ⟨k, dr.tru r1.bh e, ?_⟩
    cases k with
    | true => exact po _ _ _ _ _ r1 s1 dr hq
    | false => exact hb.run Γ B1 ρ1 σ H1 _ Ξ _ r1 (xo.mono s1) hq (po.mono s1)
def bls (bs : List Bool) : List D := bs.map .bl
theorem DrA.bls {xs : List V} {bs : List Bool} (h : DrA K B xs (bls bs)) : xs = bs.map .bl := by
  induction bs generalizing xs with
  | nil => cases h; rfl
  | cons b bs ih => cases h with | cons h1 h2 => rw [h1.bl_inv, ih h2]; rfl
instance rc_all : RfC K (rAll K) (fun ds Ψ => ∃ d bs, ds = [d] ∧ d.seq = some (Dx.bls bs) ∧ Ψ (.bl (bs.all id))) where
  run := fun B H xs ds Q Ψ s da h po => by
    obtain ⟨d, bs, rfl, e, h⟩ := h
    obtain ⟨v, rfl, h1⟩ := da.one
    obtain ⟨a, ys, rfl, h2, h3⟩ := h1.seq_inv e
    rw [h3.bls] at h2
    exact ⟨a, bs, rfl, s.seq h2, po _ _ _ _ (Al.refl (K := K) B H) s (.bl _) h⟩
end
end Dx
set_option Elab.async false
set_option linter.all false
set_option maxRecDepth 100000
set_option maxHeartbeats 4000000
set_option autoImplicit false
/-! Dx6: == of data, dicts with written keys, instances. -/
namespace Dx
open PySem L2
/-! ### == -/
mutual
def D.py : D → PyData
  | .non => .none
  | .bl b => .bool b
  | .int i => .int i
  | .str x => .str x
  | .tup ds => .tuple (D.pyA ds)
  | .lst ds => .list (D.pyA ds)
  | .sql ds => .list (D.pyA ds)
  | .dic _ => .dict []
  | .obj _ _ => .dict []
  | .raw _ => .dict []
  | .trk _ => .dict []
  | .exc _ _ _ _ => .dict []
def D.pyA : List D → List PyData
  | [] => []
  | d :: ds => D.py d :: D.pyA ds
end
theorem pyA_map : ∀ ds : List D, D.pyA ds = ds.map D.py
  | [] => rfl
  | d :: ds => by
    unfold D.pyA
    rw [pyA_map ds, List.map_cons]
/-- no dict, no instance; at most n deep; texts that are -/
inductive Shp : Nat → D → Prop
  | non (n : Nat) : Shp n .non
  | bl (n : Nat) (b : Bool) : Shp n (.bl b)
  | int (n : Nat) (i : Int) : Shp n (.int i)
  | str (n : Nat) {x : Str} (h : PyData.canLay0 (.str x) = true) : Shp n (.str x)
  | tup {n : Nat} {ds : List D} (h : ∀ d ∈ ds, Shp n d) : Shp (n + 1) (.tup ds)
  | lst {n : Nat} {ds : List D} (h : ∀ d ∈ ds, Shp n d) : Shp (n + 1) (.lst ds)
  | sql {n : Nat} {ds : List D} (h : ∀ d ∈ ds, Shp n d) : Shp (n + 1) (.sql ds)
theorem Shp.mono {n m : Nat} {d : D} (h : Shp n d) (l : n ≤ m) : Shp m d := by
  induction h generalizing m with
  | non => exact .non m
  | bl _ b => exact .bl m b
  | int _ i => exact .int m i
  | str _ h => exact .str m h
  | tup h ih =>
    cases m with
    | zero => omega
    | succ m => exact .tup fun d hd => ih d hd (by omega)
  | lst h ih =>
    cases m with
    | zero => omega
    | succ m => exact .lst fun d hd => ih d hd (by omega)
  | sql h ih =>
    cases m with
    | zero => omega
    | succ m => exact .sql fun d hd => ih d hd (by omega)
theorem canA {ds : List D} (h : ∀ d ∈ ds, d.py.canLay0 = true) : PyData.canLayAll0 (D.pyA ds) = true := by
  induction ds with
  | nil => rfl
  | cons d ds ih =>
    unfold D.pyA PyData.canLayAll0
    rw [h d List.mem_cons_self, ih fun e he => h e (List.mem_cons_of_mem _ he)]
    rfl
theorem depA {n : Nat} {ds : List D} (h : ∀ d ∈ ds, d.py.depth ≤ n) : PyData.depthAll (D.pyA ds) ≤ n := by
  induction ds with
  | nil =>
    unfold D.pyA PyData.depthAll
    exact Nat.zero_le _
  | cons d ds ih =>
    unfold D.pyA PyData.depthAll
    exact Nat.max_le.mpr ⟨h d List.mem_cons_self, ih fun e he => h e (List.mem_cons_of_mem _ he)⟩
theorem Shp.can {n : Nat} {d : D} (h : Shp n d) : d.py.canLay0 = true ∧ d.py.depth ≤ n := by
  induction h with
  | non n => exact ⟨by unfold D.py PyData.canLay0; rfl, by unfold D.py PyData.depth; exact Nat.zero_le _⟩
  | bl n b => exact ⟨by unfold D.py PyData.canLay0; rfl, by unfold D.py PyData.depth; exact Nat.zero_le _⟩
  | int n b => exact ⟨by unfold D.py PyData.canLay0; rfl, by unfold D.py PyData.depth; exact Nat.zero_le _⟩
  | str n h => exact ⟨by unfold D.py; exact h, by unfold D.py PyData.depth; exact Nat.zero_le _⟩
  | tup h ih => exact ⟨by unfold D.py PyData.canLay0; exact canA fun d hd => (ih d hd).1, by unfold D.py PyData.depth; exact Nat.succ_le_succ (depA fun d hd => (ih d hd).2)⟩
  | lst h ih => exact ⟨by unfold D.py PyData.canLay0; exact canA fun d hd => (ih d hd).1, by unfold D.py PyData.depth; exact Nat.succ_le_succ (depA fun d hd => (ih d hd).2)⟩
  | sql h ih => exact ⟨by unfold D.py PyData.canLay0; exact canA fun d hd => (ih d hd).1, by unfold D.py PyData.depth; exact Nat.succ_le_succ (depA fun d hd => (ih d hd).2)⟩
theorem Shp.shaped {n : Nat} {d : D} (h : Shp n d) (l : n ≤ 64) : SeqAt.shaped d.py = true := by
  obtain ⟨h1, h2⟩ := h.can
  unfold SeqAt.shaped
  rw [h1, decide_eq_true (Nat.le_trans h2 l)]
  rfl
section
variable {K : PySem.W.Frag} {W : WX} {Γ : Ga} {B B' : Hp} {ρ : Ab} {σ : L2.St} {H H' : Hp}
theorem dpA {ds : List D} {xs : List V} (h : DrA K B xs ds) (f : ∀ d ∈ ds, ∀ v, Dr K B v d → Dp K H v d.py) : DpAll K H xs (D.pyA ds) := by
  induction ds generalizing xs with
  | nil =>
    cases h
    unfold D.pyA
    exact .nil
  | cons d ds ih =>
    cases h with
    | cons h1 h2 =>
      unfold D.pyA
      exact .cons (f d List.mem_cons_self _ h1) (ih h2 fun e he => f e (List.mem_cons_of_mem _ he))
theorem Shp.dp {n : Nat} {d : D} (h : Shp n d) (s : Same B H) : ∀ v, Dr K B v d → Dp K H v d.py := by
  induction h with
  | non n => intro v h; cases h; unfold D.py; exact .non
  | bl n b => intro v h; cases h; unfold D.py; exact .bl b
  | int n b => intro v h; cases h; unfold D.py; exact .int b
  | str n h => intro v h; cases h; unfold D.py; exact .str _
  | tup h ih =>
    intro v dr
    cases dr with
    | tup h1 h2 => unfold D.py; exact .tup (Same.sqT s h1) (dpA h2 ih)
  | lst h ih =>
    intro v dr
    cases dr with
    | lst h1 h2 => unfold D.py; exact .lst (SqL.of (s _ _ h1)) (dpA h2 ih)
  | sql h ih =>
    intro v dr
    cases dr with
    | sql h1 h2 => unfold D.py; exact .lst (s.seq h1) (dpA h2 ih)
def rEqA (K : PySem.W.Frag) : R2 := fun x y H Q => rEqD K x y H Q
def rNeA (K : PySem.W.Frag) : R2 := fun x y H Q => rNeD K x y H Q
theorem op_eqA {X : Cx} (hu : X.A.units + 64 < cLine) : OpR X (compareOp .Eq) (rEqA X.K) := op_eqD hu
theorem op_neA {X : Cx} (hu : X.A.units + 64 < cLine) : OpR X (compareOp .NotEq) (rNeA X.K) := op_neD hu
def eqD (x y : D) : Bool := PyData.eqv x.py y.py
def qEqD (f : Bool → Bool) : D → D → (D → Prop) → Prop := fun x y Ψ => (∃ i j, x = .int i ∧ y = .int j ∧ Ψ (.bl (f (decide (i = j))))) ∨ ∃ n, n ≤ 64 ∧ Shp n x ∧ Shp n y ∧ Ψ (.bl (f (eqD x y)))
theorem eqv_int (i j : Int) : PyData.eqv (.int i) (.int j) = decide (i = j) := by
  unfold PyData.eqv
  exact Bool.beq_eq_decide_eq i j
theorem shp_i (i : Int) : SeqAt.shaped (.int i) = true := (Shp.int 0 i).shaped (Nat.zero_le _)
instance ro_eqA : RfO K (rEqA K) (qEqD id) where
  run := fun B H x y dx dy Q Ψ s hx hy h po => by
    rcases h with ⟨i, j, rfl, rfl, h⟩ | ⟨n, l, h1, h2, h⟩
    · rw [hx.int_inv, hy.int_inv]
      refine ⟨.int i, .int j, .int i, .int j, shp_i i, shp_i j, ?_⟩
      rw [eqv_int]
      exact po _ _ _ _ (Al.refl (K := K) B H) s (.bl _) h
    · exact ⟨dx.py, dy.py, h1.dp s _ hx, h2.dp s _ hy, h1.shaped l, h2.shaped l, po _ _ _ _ (Al.refl (K := K) B H) s (.bl _) h⟩
instance ro_neA : RfO K (rNeA K) (qEqD not) where
  run := fun B H x y dx dy Q Ψ s hx hy h po => by
    rcases h with ⟨i, j, rfl, rfl, h⟩ | ⟨n, l, h1, h2, h⟩
    · rw [hx.int_inv, hy.int_inv]
      refine ⟨.int i, .int j, .int i, .int j, shp_i i, shp_i j, ?_⟩
      rw [eqv_int]
      exact po _ _ _ _ (Al.refl (K := K) B H) s (.bl _) h
    · exact ⟨dx.py, dy.py, h1.dp s _ hx, h2.dp s _ hy, h1.shaped l, h2.shaped l, po _ _ _ _ (Al.refl (K := K) B H) s (.bl _) h⟩
theorem eqD_refl {n : Nat} {d : D} (h : Shp n d) : eqD d d = true := SeqAt.eqv_refl d.py h.can.1
/-! ### dicts, read -/
def valD (es : List (Key × D)) (k : Key) : Option D := (es.find? fun kv => decide (kv.1 = k)).map (·.2)
theorem DrK.val {kvs : List (Key × V)} {es : List (Key × D)} {k : Key} {d : D} (h : DrK K B kvs es) (e : valD es k = some d) : ∃ v, valV kvs k = some v ∧ Dr K B v d := by
  unfold valD at e
  unfold valV
  induction es generalizing kvs with
  | nil => simp at e
  | cons c es ih =>
    cases h with
    | cons h1 h2 =>
      rename_i k' v' vs d'
      rw [List.find?_cons] at e ⊢
      cases q : decide (k' = k) with
      | true =>
        have q' : decide (((k', d') : Key × D).1 = k) = true := q
        rw [q'] at e
        cases e
        exact ⟨_, rfl, h1⟩
      | false =>
        have q' : decide (((k', d') : Key × D).1 = k) = false := q
        rw [q'] at e
        exact ih h2 e
def D.key : D → Option Key
  | .int i => some (.inl i)
  | .str x => some (.inr x)
  | _ => none
theorem Dr.key_inv {v : V} {d : D} {k : Key} (h : Dr K B v d) (e : d.key = some k) : v = kV k := by
  cases h <;> first | (cases e; rfl) | cases e
def pDGet (pa pb : PEx) : PEx := fun ρ Ξ Φ => pa ρ Ξ fun x ρ1 => pb ρ1 Ξ fun y ρ2 => ∃ es k d, x = .dic es ∧ y.key = some k ∧ valD es k = some d ∧ Φ d ρ2
instance rf_dget {ta tb : TE} {pa pb : PEx} [ha : RfE K W ta pa] [hb : RfE K W tb pb] : RfE K W (tDGet ta tb) (pDGet pa pb) where
  run := fun Γ B ρ σ H Q Ξ Φ r xo h po => ha.run Γ B ρ σ H _ Ξ _ r xo h fun v d B1 H1 ρ1 r1 s1 dr hq => hb.run Γ B1 ρ1 σ H1 _ Ξ _ r1 (xo.mono s1) hq fun v2 d2 B2 H2 ρ2 r2 s2 dr2 hq2 => by
    obtain ⟨es, k, e, rfl, ek, ev, q⟩ := hq2
    cases dr with
    | dic h1 h2 =>
      obtain ⟨u, h3, h4⟩ := h2.val ev
      rw [dr2.key_inv ek]
      refine ⟨_, u, rfl, ?_, po _ _ _ _ _ r2 (s1.trans s2) (h4.mono s2) q⟩
      rw [← h3]
      exact DGet.k (r2.bh _ _ (s2 _ _ h1))
/-- a new empty dict -/
instance rff_dnewK : RfF K W tDNewK (fun ρ _ Φ => Φ (.dK []) ρ) where
  run := fun Γ B ρ σ H Q Ξ Φ r xo h po => fun p hp => po.new r (Same.refl _) hp (.dK .nil) h

/-! ### fields stored, instances made, methods -/
def putFD (f : Str) (v : D) : List (Str × D) → List (Str × D)
  | [] => [(f, v)]
  | (g, x) :: r => if g = f then (g, v) :: r else (g, x) :: putFD f v r
theorem DrF.put {fs : List (Str × V)} {gs : List (Str × D)} {f : Str} {v : V} {d : D} (h : DrF K B fs gs) (g : Dr K B v d) : DrF K B (putF f v fs) (putFD f d gs) := by
  induction gs generalizing fs with
  | nil =>
    cases h
    exact .cons g .nil
  | cons c gs ih =>
    cases h with
    | cons h1 h2 =>
      rename_i k v' vs d'
      show DrF K B (if k = f then (k, v) :: vs else (k, v') :: putF f v vs) (if k = f then (k, d) :: gs else (k, d') :: putFD f d gs)
      by_cases q : k = f
      · rw [if_pos q, if_pos q]
        exact .cons g h2
      · rw [if_neg q, if_neg q]
        exact .cons h1 (ih h2)
theorem DrF.length {fs : List (Str × V)} {gs : List (Str × D)} (h : DrF K B fs gs) : fs.length = gs.length := by
  induction gs generalizing fs with
  | nil => cases h; rfl
  | cons c gs ih => cases h with | cons h1 h2 => rw [List.length_cons, List.length_cons, ih h2]
theorem put_none {f g : Str} {d : D} : ∀ {gs : List (Str × D)}, f ≠ g → gs.lookup g = none → (putFD f d gs).lookup g = none
  | [], n, _ => by
    show List.lookup g [(f, d)] = none
    rw [List.lookup_cons, show (g == f) = false from beq_eq_false_iff_ne.mpr (Ne.symm n)]
    rfl
  | (h, x) :: gs, n, e => by
    unfold putFD
    rw [List.lookup_cons] at e
    by_cases q : h = f
    · rw [if_pos q, List.lookup_cons, show (g == h) = false from beq_eq_false_iff_ne.mpr (fun z => n (q.symm.trans z.symm))]
      rw [show (g == h) = false from beq_eq_false_iff_ne.mpr (fun z => n (q.symm.trans z.symm))] at e
      exact e
    · rw [if_neg q, List.lookup_cons]
      cases w : (g == h) with
      | true => rw [w] at e; cases e
      | false => rw [w] at e; exact put_none n e
theorem put_nm {f : Str} {d : D} {gs : List (Str × D)} (m : memoName f = false) (h : ∀ g, memoName g = true → gs.lookup g = none) : ∀ g, memoName g = true → (putFD f d gs).lookup g = none := fun g q => put_none (fun z => by subst z; rw [m] at q; cases q) (h g q)
/-- a field that keeps nothing found once -/
structure NoAtM (K : PySem.W.Frag) (C : Addr) (f : Str) : Prop where
  n : NoAttr K C f
  m : memoName f = false
def pSetF (K : PySem.W.Frag) (i : Nat) (f : Str) (pv : PEx) : PSx := fun Δ ρ => pv ρ Δ.ex fun d ρ1 => ∃ p C gs, ρ1[i]? = some (some (.ow p (.ins C gs))) ∧ Cls K C ∧ NoAtM K C f ∧ gs.length < 1000 ∧ Δ.nx (ρ1.set i (some (.ow p (.ins C (putFD f d gs)))))
instance rs_setF {i : Nat} {tv : TE} {f : Str} {pv : PEx} [hv : RfE K W tv pv] : RfS K W (sFld K (tVar i) tv f) (pSetF K i f pv) where
  run := fun Γ B ρ σ H E Δ r sim h => hv.run Γ B ρ σ H _ Δ.ex _ r (sim.ex.at _) h fun v d B1 H1 ρ1 r1 s1 dr hq => by
    obtain ⟨p, C, gs, e, c, n, l, q⟩ := hq
    obtain ⟨a, o, g1, g2, g3, _⟩ := r1.ow i p _ e
    obtain ⟨dx, fs, rfl, g4, nm⟩ := g3.ins_inv
    exact ⟨.ref a, g1, a, C, dx, fs, rfl, g2, c, n.n, by rw [g4.length]; exact l, sim.nx _ _ _ _ (r1.write e g1 (.ins (g4.put dr) (put_nm n.m nm))) s1 q⟩
theorem Rl.pop {s : Option Sl} {v : Option V} (r : Rl K Γ B (ρ ++ [s]) (σ ++ [v]) H) : Rl K Γ B ρ σ H := by
  have hl : ρ.length = σ.length := by
    have := r.len
    rw [List.length_append, List.length_append] at this
    exact Nat.add_right_cancel this
  have g : ∀ (i : Nat) (x : Sl), ρ[i]? = some (some x) → (ρ ++ [s])[i]? = some (some x) ∧ (σ ++ [v])[i]? = σ[i]? := fun i x e => by
    have hi := lt_of_some e
    exact ⟨by rw [List.getElem?_append_left hi]; exact e, List.getElem?_append_left (by omega)⟩
  refine ⟨r.bh, r.bb, r.fr, r.nb, r.dm, r.hd, hl, fun i d e => ?_, fun i p c e => ?_, fun i j p q c e h1 h2 h3 => ?_, r.st, r.jj, r.mm⟩
  · obtain ⟨a, b⟩ := g i _ e
    rw [← b]
    exact r.pu i d a
  · obtain ⟨a, b⟩ := g i _ e
    rw [← b]
    exact r.ow i p c a
  · obtain ⟨a1, b1⟩ := g i _ h1
    obtain ⟨a2, b2⟩ := g j _ h2
    rw [← b1, ← b2] at h3
    exact r.ne i j p q c e a1 a2 h3
theorem Rl.push (r : Rl K Γ B ρ σ H) {a : Addr} {o : HO} {c : OC} (f : Fre Γ B ρ σ a) (ha : H a = some o) (h : OCr K B c o) : Rl K Γ B (ρ ++ [some (.ow false c)]) (σ ++ [some (.ref a)]) H := by
  have r1 := r.more 1
  have hn : ∀ (j : Nat) (p : Bool) (e : OC), (ρ ++ List.replicate 1 none)[j]? = some (some (.ow p e)) → (σ ++ List.replicate 1 none)[j]? ≠ some (some (.ref a)) := fun j p e q z => by
    by_cases hj : j < ρ.length
    · rw [List.getElem?_append_left hj] at q
      rw [List.getElem?_append_left (by rw [← r.len]; exact hj)] at z
      exact f.s j p e q z
    · rw [List.getElem?_append_right (by omega), List.getElem?_replicate] at q
      split at q <;> cases q
  have r2 := r1.setO (i := ρ.length) ha f.b h f.g f.h hn
  have e1 : (ρ ++ List.replicate 1 none).set ρ.length (some (.ow false c)) = ρ ++ [some (.ow false c)] := by
    rw [List.set_append_right _ _ (Nat.le_refl _), Nat.sub_self]
    rfl
  have e2 : (σ ++ List.replicate 1 none).set ρ.length (some (V.ref a)) = σ ++ [some (.ref a)] := by
    rw [r.len, List.set_append_right _ _ (Nat.le_refl _), Nat.sub_self]
    rfl
  rw [e1, e2] at r2
  exact r2
theorem back_pu {ds : List D} : ∀ {ρ cs : Ab}, back ρ (ds.map .pu) cs = ρ := by
  induction ds with
  | nil => intros; rfl
  | cons d ds ih => intro ρ cs; exact ih
theorem slots_pu (ds : List D) : slots (ds.map .pu) = [] := by
  induction ds with
  | nil => rfl
  | cons d ds ih => exact ih
theorem slOf_pu {ρ : Ab} {ds : List D} : (ds.map Ar.pu).map (slOf ρ) = ds.map fun d => some (.pu d) := by
  rw [List.map_map]
  rfl
def pus (ds : List D) : Ab := ds.map fun d => some (.pu d)
theorem arsOk_pu {vs : List V} {ds : List D} (h : DrA K B vs ds) : ArsOk K B ρ σ vs (ds.map .pu) := by
  induction ds generalizing vs with
  | nil => cases h; exact .nil
  | cons d ds ih => cases h with | cons h1 h2 => exact .cons h1 (ih h2)
/-- C(..): a new instance goes to __init__, then it is data -/
def pMake (C : Addr) (n m : Nat) (P : Pm) (pa pk : PAx) : PEx := fun ρ Ξ Φ => pa ρ Ξ fun as ρ1 => pk ρ1 Ξ fun bs ρ2 => ∃ ds es, as = ds.map .pu ∧ bs = es.map .pu ∧ ds.length = n ∧ es.length = m ∧
  P (some (.ow true (.ins C [])) :: pus (ds ++ es)) (fun C' gs _ => Ξ C' gs ρ2) fun d ρc => d = .non ∧ ∃ gs, ρc.head? = some (some (.ow true (.ins C gs))) ∧ Φ (.obj C gs) ρ2
theorem make_run {C : Addr} {n m kk : Nat} {P : Pm} {ta tk : TA} {pa pk : PAx} {E : XK} (Ξf : XD → XD) (hE : ∀ Γ B σ Ξ, XAt K Γ B σ W Ξ → XAt K Γ B σ (fun cls d _ H' => E cls d H') (Ξf Ξ)) [ha : RfA K W ta pa] [hk : RfA K W tk pk] :
    RfE K W (tMakeK C n m (spD K kk P) (fun vs zs => vs ++ zs) E ta tk) (fun ρ Ξ Φ => pa ρ Ξ fun as ρ1 => pk ρ1 Ξ fun bs ρ2 => ∃ ds es, as = ds.map .pu ∧ bs = es.map .pu ∧ ds.length = n ∧ es.length = m ∧ kk = n + 1 + m ∧
      P (some (.ow true (.ins C [])) :: pus (ds ++ es)) (fun C' gs _ => Ξf Ξ C' gs ρ2) fun d ρc => d = .non ∧ ∃ gs, ρc.head? = some (some (.ow true (.ins C gs))) ∧ Φ (.obj C gs) ρ2) where
  run := fun Γ B ρ σ H Q Ξ Φ r xo h po => ha.run Γ B ρ σ H _ Ξ _ r xo h fun vs as B1 H1 ρ1 r1 s1 aso hq => hk.run Γ B1 ρ1 σ H1 _ Ξ _ r1 (xo.mono s1) hq fun zs bs B2 H2 ρ2 r2 s2 bso hq2 => by
    obtain ⟨ds, es, rfl, rfl, hn, hm, hkk, hp⟩ := hq2
    have da := aso.pure.mono s2
    have db := bso.pure
    refine ⟨by rw [da.length]; exact hn, by rw [db.length]; exact hm, fun x dx hx hdx hne => ?_⟩
    have r3 := r2.al (Al.side (K := K) (o := .own x) hdx) (fun b u e => by rw [upd_ne (ne_of_none (r2.bh b u e) hdx)]; exact r2.bh b u e)
    have hx3 : upd H2 dx (.own x) x = none := by rw [upd_ne hne.symm]; exact hx
    have f := r3.fre hx3
    have r4 := r3.al (Al.side (K := K) (o := .ins C dx []) hx3) (fun b u e => by rw [upd_ne (ne_of_none (r3.bh b u e) hx3)]; exact r3.bh b u e)
    have r5 := r4.push (c := .ins C []) f upd_same (.ins .nil fun _ _ => rfl)
    have e0 : (ρ2 ++ [some (Sl.ow false (.ins C []))])[ρ2.length]? = some (some (.ow false (.ins C []))) := by rw [List.getElem?_append_right (Nat.le_refl _), Nat.sub_self]; rfl
    have hσ : (σ ++ [some (V.ref x)])[ρ2.length]? = some (some (.ref x)) := by rw [r2.len, List.getElem?_append_right (Nat.le_refl _), Nat.sub_self]; rfl
    have dab : DrA K B2 (vs ++ zs) (ds ++ es) := da.append db
    have ars : ArsOk K B2 (ρ2 ++ [some (.ow false (.ins C []))]) (σ ++ [some (.ref x)]) (.ref x :: (vs ++ zs)) (.sl ρ2.length :: (ds ++ es).map .pu) := .cons ⟨hσ, _, _, e0⟩ (arsOk_pu dab)
    have nd : (slots (.sl ρ2.length :: (ds ++ es).map .pu)).Nodup := by
      show (ρ2.length :: slots ((ds ++ es).map .pu)).Nodup
      rw [slots_pu]
      simp
    have st := call_start r5 ars nd
    have es1 : (Ar.sl ρ2.length :: (ds ++ es).map .pu).map (slOf (ρ2 ++ [some (.ow false (.ins C []))])) = some (.ow true (.ins C [])) :: pus (ds ++ es) := by
      rw [List.map_cons, slOf_sl e0, slOf_pu]
      rfl
    have fin : ∀ {B' H' ρc}, Fin K (gaOf B2 (upd (upd H2 dx (.own x)) x (.ins C dx [])) (some (.ow true (.ins C [])) :: pus (ds ++ es)) (.ref x :: (vs ++ zs)) Γ.J) B' ρc H' → Rl K Γ B' ρ2 σ H' ∧ ∀ gs, ρc.head? = some (some (.ow true (.ins C gs))) → ∃ B'', Rl K Γ B'' ρ2 σ H' ∧ Same B' B'' ∧ Dr K B'' (.ref x) (.obj C gs) := fun {B' H' ρc} fi => by
      have ce := call_end r5 ars nd (ρc := ρc) (by rw [es1]; exact fi)
      refine ⟨?_, fun gs hg => ?_⟩
      · have : ∃ y, back (ρ2 ++ [some (.ow false (.ins C []))]) (.sl ρ2.length :: (ds ++ es).map .pu) ρc = ρ2 ++ [y] := by
          unfold back
          rw [back_pu]
          split
          · exact ⟨_, by rw [List.set_append_right _ _ (Nat.le_refl _), Nat.sub_self]; rfl⟩
          · exact ⟨_, by rw [List.set_append_right _ _ (Nat.le_refl _), Nat.sub_self]; rfl⟩
        obtain ⟨y, ey⟩ := this
        rw [ey] at ce
        exact ce.pop
      · have ey : back (ρ2 ++ [some (.ow false (.ins C []))]) (.sl ρ2.length :: (ds ++ es).map .pu) ρc = ρ2 ++ [some (.ow false (.ins C gs))] := by
          unfold back
          rw [back_pu, e0, hg]
          show (ρ2 ++ [some (Sl.ow false (.ins C []))]).set ρ2.length (some (.ow false (.ins C gs))) = _
          rw [List.set_append_right _ _ (Nat.le_refl _), Nat.sub_self]
          rfl
        rw [ey] at ce
        have e1 : (ρ2 ++ [some (Sl.ow false (.ins C gs))])[ρ2.length]? = some (some (.ow false (.ins C gs))) := by rw [List.getElem?_append_right (Nat.le_refl _), Nat.sub_self]; rfl
        obtain ⟨a, o, k1, k2, k3, k4, k5⟩ := ce.freeze e1
        rw [hσ] at k1
        cases k1
        rw [List.set_append_right _ _ (Nat.le_refl _), Nat.sub_self] at k5
        exact ⟨_, k5.pop, k3, k4⟩
    rw [es1] at st
    refine ⟨Γ.J, B2, some (.ow true (.ins C [])) :: pus (ds ++ es), _, _, ?_, st, hp, fun v d B' H' ρ' fi dr q => ?_, fun C' od gs B' H' ρ' fi x q => ?_⟩
    · unfold pus
      rw [List.length_cons, List.length_map, List.length_append]
      omega
    · obtain ⟨rfl, gs, hg, q⟩ := q
      obtain ⟨B'', k1, k2, k3⟩ := (fin fi).2 gs hg
      exact ⟨dr.non_inv, po _ _ _ _ _ k1 ((s1.trans s2).trans (fi.bb.trans k2)) k3 q⟩
    · have z := (hE Γ B σ Ξ xo) B' ρ2 H' C' od gs (fin fi).1 ((s1.trans s2).trans fi.bb) (x.imp id fun ⟨d, fs, e1, e2, e3, e4⟩ => ⟨d, fs, e1, e2, r5.gone e3.1, e4⟩) q
      exact z
instance rf_make {C : Addr} {n m kk : Nat} {P : Pm} {ta tk : TA} {pa pk : PAx} [ha : RfA K W ta pa] [hk : RfA K W tk pk] : RfE K W (tMakeK C n m (spD K kk P) (fun vs zs => vs ++ zs) (fun _ _ _ => False) ta tk) (fun ρ Ξ Φ => pa ρ Ξ fun as ρ1 => pk ρ1 Ξ fun bs ρ2 => ∃ ds es, as = ds.map .pu ∧ bs = es.map .pu ∧ ds.length = n ∧ es.length = m ∧ kk = n + 1 + m ∧
      P (some (.ow true (.ins C [])) :: pus (ds ++ es)) (fun C' gs _ => X0 C' gs ρ2) fun d ρc => d = .non ∧ ∃ gs, ρc.head? = some (some (.ow true (.ins C gs))) ∧ Φ (.obj C gs) ρ2) :=
  make_run (E := fun _ _ _ => False) (fun _ => X0) (fun _ _ _ _ _ => xat0)
end
end Dx
set_option Elab.async false
set_option linter.all false
set_option maxRecDepth 100000
set_option maxHeartbeats 4000000
set_option autoImplicit false
/-! Dx7: methods, dict displays, sets of ints, zip of any two. -/
namespace Dx
open PySem L2
section
variable {K : PySem.W.Frag} {W : WX} {Γ : Ga} {B B' : Hp} {ρ : Ab} {σ : L2.St} {H H' : Hp}
def pMeth (C : Addr) (m : Str) (n : Nat) (P : Pm) (po : PEx) (pa : PAx) (x0 : XD → XD) : PEx := fun ρ Ξ Φ => po ρ Ξ fun o ρ1 => ∃ gs, o = .obj C gs ∧ gs.lookup m = none ∧ pa ρ1 Ξ fun as ρ2 => as.length + 1 = n ∧ (slots as).Nodup ∧
  P (some (.pu o) :: as.map (slOf ρ2)) (fun C' gs ρc => x0 Ξ C' gs (back ρ2 (.pu o :: as) ρc)) fun d ρc => Φ d (back ρ2 (.pu o :: as) ρc)
instance rf_meth {C : Addr} {m : Str} {n : Nat} {P : Pm} {to : TE} {ta : TA} {po : PEx} {pa : PAx} [ho : RfE K W to po] [ha : RfA K W ta pa] : RfE K W (tMeth C m (spD K n P) [] (fun _ _ _ => False) to ta) (pMeth C m n P po pa fun _ => X0) where
  run := fun Γ B ρ σ H Q Ξ Φ r xo h pos => ho.run Γ B ρ σ H _ Ξ _ r xo h fun v d B1 H1 ρ1 r1 s1 dr hq => by
    obtain ⟨gs, rfl, hl, hq⟩ := hq
    cases dr with
    | obj h1 h2 =>
      refine ⟨_, _, _, rfl, r1.bh _ _ h1, h2.lookN hl, ha.run Γ B1 ρ1 σ H1 _ Ξ _ r1 (xo.mono s1) hq fun vs as B2 H2 ρ2 r2 s2 aso hq2 => ?_⟩
      obtain ⟨hn, nd, hq2⟩ := hq2
      rw [List.append_nil]
      exact call_sp (Ξ := X0) (as := .pu (.obj C gs) :: as) r2 (.cons (.obj (s2 _ _ h1) (h2.mono s2)) aso) hn nd hq2 (fun _ _ _ _ _ _ _ _ _ z => z) (pos.mono (s1.trans s2))
/-! ### a dict display -/
class RfK (K : PySem.W.Frag) (W : WX) (t : List (TE × TE)) (p : outParam (Ab → XD → (List (D × D) → Ab → Prop) → Prop)) : Prop where
  run : ∀ Γ B ρ σ H Q Ξ Φ, Rl K Γ B ρ σ H → XAt K Γ B σ W Ξ → p ρ Ξ Φ → (∀ (ps : List (V × V)) es B' H' ρ', Rl K Γ B' ρ' σ H' → Same B B' → DrA K B' (ps.map (·.1)) (es.map (·.1)) → DrA K B' (ps.map (·.2)) (es.map (·.2)) → Φ es ρ' → Q ps H') → tPairs t σ H Q
def pKNil : Ab → XD → (List (D × D) → Ab → Prop) → Prop := fun ρ _ Φ => Φ [] ρ
instance rk_nil : RfK K W [] pKNil := ⟨fun Γ B ρ σ H Q Ξ Φ r xo h po => po [] [] B H ρ r (Same.refl _) .nil .nil h⟩
def pKCons (pk pv : PEx) (pr : Ab → XD → (List (D × D) → Ab → Prop) → Prop) : Ab → XD → (List (D × D) → Ab → Prop) → Prop := fun ρ Ξ Φ => pk ρ Ξ fun x ρ1 => pv ρ1 Ξ fun y ρ2 => pr ρ2 Ξ fun es ρ3 => Φ ((x, y) :: es) ρ3
instance rk_cons {tk tv : TE} {tr : List (TE × TE)} {pk pv : PEx} {pr : Ab → XD → (List (D × D) → Ab → Prop) → Prop} [hk : RfE K W tk pk] [hv : RfE K W tv pv] [hr : RfK K W tr pr] : RfK K W ((tk, tv) :: tr) (pKCons pk pv pr) where
  run := fun Γ B ρ σ H Q Ξ Φ r xo h po => hk.run Γ B ρ σ H _ Ξ _ r xo h fun v d B1 H1 ρ1 r1 s1 dr hq => hv.run Γ B1 ρ1 σ H1 _ Ξ _ r1 (xo.mono s1) hq fun v2 d2 B2 H2 ρ2 r2 s2 dr2 hq2 =>
    hr.run Γ B2 ρ2 σ H2 _ Ξ _ r2 (xo.mono (s1.trans s2)) hq2 fun ps es B3 H3 ρ3 r3 s3 a b hq3 => po ((v, v2) :: ps) ((d, d2) :: es) B3 H3 ρ3 r3 ((s1.trans s2).trans s3) (.cons (dr.mono (s2.trans s3)) a) (.cons (dr2.mono s3) b) hq3
def putKD (es : List (Key × D)) (k : Key) (v : D) : List (Key × D) := if (es.any fun kv => decide (kv.1 = k)) = true then es.map (fun kv => if kv.1 = k then (kv.1, v) else kv) else es ++ [(k, v)]
def mergeKD (es more : List (Key × D)) : List (Key × D) := more.foldl (fun acc kv => putKD acc kv.1 kv.2) es
theorem DrK.append {kvs kws : List (Key × V)} {es fs : List (Key × D)} (h : DrK K B kvs es) (g : DrK K B kws fs) : DrK K B (kvs ++ kws) (es ++ fs) := by
  induction es generalizing kvs with
  | nil => cases h; exact g
  | cons c es ih => cases h with | cons h1 h2 => exact .cons h1 (ih h2)
theorem DrK.any {kvs : List (Key × V)} {es : List (Key × D)} {k : Key} (h : DrK K B kvs es) : (kvs.any fun kv => decide (kv.1 = k)) = es.any fun kv => decide (kv.1 = k) := by
  induction es generalizing kvs with
  | nil => cases h; rfl
  | cons c es ih =>
    cases h with
    | cons h1 h2 =>
      rw [List.any_cons, List.any_cons, ih h2]
theorem DrK.mapPut {kvs : List (Key × V)} {es : List (Key × D)} {k : Key} {v : V} {d : D} (h : DrK K B kvs es) (g : Dr K B v d) : DrK K B (kvs.map (fun kv => if kv.1 = k then (kv.1, v) else kv)) (es.map (fun kv => if kv.1 = k then (kv.1, d) else kv)) := by
  induction es generalizing kvs with
  | nil => cases h; exact .nil
  | cons c es ih =>
    cases h with
    | cons h1 h2 =>
      rename_i k' v' vs d'
      rw [List.map_cons, List.map_cons]
      show DrK K B ((if k' = k then (k', v) else (k', v')) :: _) ((if k' = k then (k', d) else (k', d')) :: _)
      by_cases q : k' = k
      · rw [if_pos q, if_pos q]
        exact .cons g (ih h2)
      · rw [if_neg q, if_neg q]
        exact .cons h1 (ih h2)
theorem DrK.put {kvs : List (Key × V)} {es : List (Key × D)} {k : Key} {v : V} {d : D} (h : DrK K B kvs es) (g : Dr K B v d) : DrK K B (putK kvs k v) (putKD es k d) := by
  unfold putK putKD
  rw [h.any]
  split
  · exact h.mapPut g
  · exact h.append (.cons g .nil)
theorem DrK.merge {more : List (Key × V)} {mes : List (Key × D)} (h : DrK K B more mes) : ∀ {kvs : List (Key × V)} {es : List (Key × D)}, DrK K B kvs es → DrK K B (mergeK kvs more) (mergeKD es mes) := by
  unfold mergeK mergeKD
  induction mes generalizing more with
  | nil => intro kvs es g; cases h; exact g
  | cons c mes ih =>
    intro kvs es g
    cases h with
    | cons h1 h2 =>
      rw [List.foldl_cons, List.foldl_cons]
      exact ih h2 (g.put h1)
/-- the keys of a display, as they are told -/
def keysD : List (D × D) → Option (List (Key × D))
  | [] => some []
  | (x, y) :: r => match x.key, keysD r with
    | some k, some es => some ((k, y) :: es)
    | _, _ => none
theorem keysD_of {ps : List (V × V)} {es : List (D × D)} {kes : List (Key × D)} (a : DrA K B (ps.map (·.1)) (es.map (·.1))) (b : DrA K B (ps.map (·.2)) (es.map (·.2))) (e : keysD es = some kes) : ∃ kvs : List (Key × V), ps = kvs.map (fun kv => (kV kv.1, kv.2)) ∧ DrK K B kvs kes ∧ kvs.length = es.length := by
  induction es generalizing ps kes with
  | nil =>
    cases ps with
    | nil => cases e; exact ⟨[], rfl, .nil, rfl⟩
    | cons p ps => cases a
  | cons c es ih =>
    obtain ⟨x, y⟩ := c
    cases ps with
    | nil => cases a
    | cons p ps =>
      obtain ⟨v, u⟩ := p
      cases a with
      | cons a1 a2 =>
        cases b with
        | cons b1 b2 =>
          unfold keysD at e
          split at e
          · rename_i k es' q1 q2
            cases e
            obtain ⟨kvs, h1, h2, h3⟩ := ih a2 b2 q2
            refine ⟨(k, u) :: kvs, ?_, .cons b1 h2, by rw [List.length_cons, List.length_cons, h3]⟩
            rw [List.map_cons, ← h1]
            have z : v = kV k := a1.key_inv q1
            rw [z]
          · cases e
def pDisp (pr : Ab → XD → (List (D × D) → Ab → Prop) → Prop) : PFx := fun ρ Ξ Φ => pr ρ Ξ fun es ρ1 => ∃ kes, keysD es = some kes ∧ es.length ≤ 15 ∧ Φ (.dK (mergeKD [] kes)) ρ1
/-- while it is made its dict stands hidden -/
theorem Rl.rehide' {p : Addr} {o o' : HO} (r : Rl K (Γ.hide p o) B ρ σ H) (hg : Γ.H p = none) (hpl : (∃ xs, o = .lst xs) ∨ ∃ xs, o = .dK xs) : Rl K (Γ.hide p o') B ρ σ (upd H p o') := by
  rcases hpl with hpl | ⟨xs, rfl⟩
  · exact r.rehide hg hpl
  have hp := r.hd p (.dK xs) upd_same
  have nB : ∀ b u, B b = some u → b ≠ p := fun b u e z => by subst z; rw [hp.2] at e; cases e
  refine ⟨fun b u e => by rw [upd_ne (nB b u e)]; exact r.bh b u e, r.bb, fun b u e n nm => ?_, r.nb, fun b e => ?_, fun b u e => ?_, r.len, r.pu, fun i q c z => ?_, r.ne, r.st, ?_, (r.mm.write r.mm.noHid).unhide.hide r.mm.noHid⟩
  · have : b ≠ p := fun z => by subst z; rw [show Γ.H b = none from hg] at e; cases e
    rw [upd_ne this]
    exact r.fr b u e n nm
  · by_cases hb : b = p
    · subst hb; exact hg
    · rw [upd_ne hb] at e; exact r.dm b e
  · have e : upd Γ.hid p o' b = some u := e
    by_cases hb : b = p
    · subst hb
      rw [upd_same] at e
      exact ⟨by rw [upd_same]; exact e, hp.2⟩
    · rw [upd_ne hb] at e ⊢
      exact r.hd b u (by show upd Γ.hid p (.dK xs) b = some u; rw [upd_ne hb]; exact e)
  · obtain ⟨a, u, h1, h2, h3, h4, h5, h6⟩ := r.ow i q c z
    have : a ≠ p := fun w => by
      subst w
      have h5 : upd Γ.hid a (.dK xs) a = none := h5
      rw [upd_same] at h5
      cases h5
    refine ⟨a, u, h1, by rw [upd_ne this]; exact h2, h3, h4, ?_, h6⟩
    have h5 : upd Γ.hid p (.dK xs) a = none := h5
    rw [upd_ne this] at h5
    show upd Γ.hid p o' a = none
    rw [upd_ne this]
    exact h5
  · refine r.st _ _ (fun b u e n1 n2 n3 n4 => ?_) r.jj
    have : b ≠ p := fun z => by
      subst z
      rw [hp.1] at e
      exact n2 _ (Option.some.inj e).symm
    rw [upd_ne this]
    exact e
/-- in a hidden heap exceptions are not waited for -/
instance rff_disp {trs : List (TE × TE)} {pr : Ab → XD → (List (D × D) → Ab → Prop) → Prop} [hr : RfK K W0 trs pr] : RfF K W (tDisp trs) (fun ρ _ Φ => pDisp pr ρ X0 Φ) where
  run := fun Γ B ρ σ H Q Ξ Φ r xo h po => fun p hp => by
    have f := r.fre hp
    refine hr.run (Γ.hide p (.dK [])) B ρ σ _ _ X0 _ (r.hide (o := .dK []) hp) xat0 h fun ps es B1 H1 ρ1 r1 s1 a b hq => ?_
    obtain ⟨kes, ek, hl, hq⟩ := hq
    obtain ⟨kvs, e1, h1, h2⟩ := keysD_of a b ek
    have hpp := r1.hd p _ upd_same
    refine ⟨hpp.1, kvs, e1, by rw [h2]; exact hl, ?_⟩
    have r2 := r1.rehide' (o' := .dK (mergeK [] kvs)) f.g (.inr ⟨_, rfl⟩)
    refine po p (.dK (mergeK [] kvs)) (.dK (mergeKD [] kes)) B1 _ ρ1 (r2.unhide f.h) s1 ⟨hpp.2, f.g, f.h, fun j q e z1 z2 => ?_⟩ upd_same (.dK (h1.merge .nil)) hq
    obtain ⟨x, u, k1, k2, k3, k4, k5, k6⟩ := r2.ow j q e z1
    rw [k1] at z2
    cases z2
    have k5 : upd Γ.hid p (.dK (mergeK [] kvs)) p = none := k5
    rw [upd_same] at k5
    cases k5
end
end Dx
set_option Elab.async false
set_option linter.all false
set_option maxRecDepth 100000
set_option maxHeartbeats 4000000
set_option autoImplicit false
/-! Dx8: raising own errors. -/
namespace Dx
open PySem L2 PyProof.Rows
/-- the wish of a def -/
abbrev WD (E : XK) : WX := fun cls d _ H => E cls d H
section
variable {K : PySem.W.Frag} {W : WX} {Γ : Ga} {B B' : Hp} {ρ : Ab} {σ : L2.St} {H H' : Hp}
/-- self.f = e is the whole of an error's __init__ -/
def spIni (K : PySem.W.Frag) (C : Addr) (f : Str) : Sp := fun vs H Q _ => ∃ (a : Addr) (v : V), vs = [.ref a, v] ∧ H a = some (exo a C none) ∧ ∀ dx, H dx = none → dx ≠ a → Q .non (upd (upd H dx (exd dx [(f, v)])) a (exo a C (some dx)))
structure Xc (K : PySem.W.Frag) (C fI : Addr) (f : Str) : Prop where
  o : OexC K C
  i : PySem.W.findIn K (.ref C) "__init__" = some (some (.ref fI))
  t : PySem.W.typeIn K (.ref fI) = some (.type "function")
  n : PySem.W.findIn K (.ref C) f = some none
def tRaise1 (K : PySem.W.Frag) (W : WX) (C : Addr) (f : Str) (te : TE) : TS := fun _ σ H => tMkO C (spIni K C f) [] (tCons te tNil) σ H fun cls d H' => W cls d σ H'
def tRaise0 (W : WX) (C : Addr) : TS := fun _ σ H => W (.ref C) none σ H
def pRaise1 (C : Addr) (f : Str) (pe : PEx) : PSx := fun Δ ρ => pe ρ Δ.ex fun d ρ1 => Δ.ex C [(f, d)] ρ1
def pRaise0 (C : Addr) : PSx := fun Δ ρ => Δ.ex C [] ρ
instance rs_raise1 {C : Addr} {f : Str} {te : TE} {pe : PEx} [he : RfE K W te pe] : RfS K W (tRaise1 K W C f te) (pRaise1 C f pe) where
  run := fun Γ B ρ σ H E Δ r sim h => he.run Γ B ρ σ H _ Δ.ex _ r (sim.ex.at _) h fun v d B1 H1 ρ1 r1 s1 dr hq => by
    refine ⟨by show 1 ≤ 1000; decide, fun a ha => ⟨a, v, rfl, upd_same, fun dx hdx hne => ⟨rfl, dx, [(f, v)], upd_same, ?_, ?_, ?_⟩⟩⟩
    · rw [upd_ne hne, upd_same]
    · rw [upd_ne hne] at hdx
      exact hdx
    · have hd1 : H1 dx = none := by
        rw [upd_ne hne] at hdx
        exact hdx
      have sm : Same H1 (upd (del (upd (upd (upd H1 a (exo a C none)) dx (exd dx [(f, v)])) a (exo a C (some dx))) a) dx (.xd [(f, v)])) := fun b o e => by
        have n1 := ne_of_none e ha
        have n2 := ne_of_none e hd1
        rw [upd_ne n2, del_ne n1, upd_ne n1, upd_ne n2, upd_ne n1]
        exact e
      have r2 := r1.al (H' := upd (del (upd (upd (upd H1 a (exo a C none)) dx (exd dx [(f, v)])) a (exo a C (some dx))) a) dx (.xd [(f, v)])) (Al.of (Same.refl _) sm fun _ _ e => .inl e) (r1.bh.trans sm)
      exact sim.ex B1 ρ1 σ _ C (some dx) [(f, d)] r2 s1 (.inr ⟨dx, _, rfl, upd_same, r1.gone hd1, .cons dr .nil⟩) hq
instance rs_raise0 {C : Addr} : RfS K W (tRaise0 W C) (pRaise0 C) where
  run := fun Γ B ρ σ H E Δ r sim h => sim.ex B ρ σ H C none [] r (Same.refl _) (.inl ⟨rfl, rfl⟩) h
end
section
variable {X : Cx} {W : WX} {x f : Str} {C fI : Addr} {fd : FuncData} {ps : List Str} {e : Expr} {te : TE} {p pos pos2 : Pos} {k : Nat} {CX : CXT}
/-- raise C(e) -/
theorem ps_raise1 (hc : X.calm = true) (tk : Takes X W) (Y : Xc X.K C fI f) (F : FnOk X.prog X.w X.K X.mg X.base CX k fI fd ps (spIni X.K C f)) (hr : Room (k + 1) X.A) (hb : Binds X.K fd ps []) (hx : Passes CX X (fun _ _ _ => False)) (hg : Gl X x) (hm : X.mg x = some (.ref C)) (he : PE X e te)
    (hdb : (x == ("__debug__" : Str)) = false := by decide) (hs : starEach [e] X.env = (false, eval e X.env) :: starEach [] X.env := by rfl) (hpl : (backTo pos (starEach [] X.env)).any (·.1) = false := by rfl) :
    PS X (.Raise (some (.Call (.Name x p) [e] [] pos)) none pos2) (tRaise1 X.K W C f te) :=
  ps_raise (pos := pos2) hc tk (pmk_oex (p := p) (pos := pos) Y.o Y.i Y.t F hr hb .nil hx hg hm (pa_cons he pa_nil hs) hdb hs hpl)
theorem ps_raise0 {bmB : List Value} {Bn newId initId : String} (hc : X.calm = true) (tk : Takes X W) (F : ExcBaseFacts Bn newId initId bmB) (q : PySem.W.excIn X.K C bmB newId = true) (gC : X.mg x = some (.ref C)) (kC : PySem.W.keepIn X.K (.ref C) = true) (r : Raises X (.ref C)) (hg : Gl X x)
    (hdb : (x == ("__debug__" : Str)) = false := by decide) : PS X (.Raise (some (.Call (.Name x p) [] [] pos)) none pos2) (tRaise0 W C) := by
  have pm : PMk X (.Call (.Name x p) [] [] pos) (fun _ H Q => Q (.ref C) none H) := by
    intro pins s σ H Q I h
    refine wpAny_Call_Name_kw (ld_glob I hg gC ?_ hdb)
    refine PySem.W.callWith_K0 I.kIn kC ?_
    show wpAny _ _ (call (.ref C) []) _ _ _
    obtain ⟨bm, N, nm, qn, bs, hdct, sn, sub, ab, col, dd, k0, k1, k2, k3, k5, mN, hC, hN, hni, T⟩ := exc_obj I.kIn q
    refine wpAny_call_exc_subT F T hC hN hni (fun h' e hm => ?_) (Nat.zero_le _)
    exact mk_of I hm r h (I.hok.gone hm.new)
  exact ps_raise (pos := pos2) hc tk pm
/-- an error's __init__ -/
theorem ok_ini {P : Program} {w : World} {K : PySem.W.Frag} {mg : Str → Option Value} {base : Heap} {qual : Str} {N : List Str} {st : Stmt} {a : Addr} {fd : FuncData} {C : Addr} {f : Str} (F : Fun K "__init__" qual st a fd) (S : FnScope N N (defScope st)) (hN : N.length = 2) (Y : Xc K C a f)
    (hb : ∀ (cdv : Value) (A : Around) (outer : List Env) (s : Shared) (H : Hp) (E : XK), PSs (cxOf CX0 P w K mg base N qual (defScope st) a cdv A outer s H E).nox (defBody st) (tOst K f (tVar 0) (tVar 1))) :
    FnOk P w K mg base CX0 1 a fd N (spIni K C f) := by
  refine F.ok S (fun vs H Q E h => ?_) (fun cdv A outer s H vs Q E hr h => ?_)
  · obtain ⟨a, v, rfl, _⟩ := h
    exact hN.symm
  · obtain ⟨b, v, rfl, hb1, k⟩ := h
    have es : L2.start N [V.ref b, v] = [some (V.ref b), some v] := by
      unfold L2.start
      rw [hN]
      rfl
    rw [es]
    exact ⟨_, hb cdv A outer s H E, v, rfl, _, rfl, b, C, rfl, Y.o, Y.n, .inl ⟨hb1, fun dx hdx hne => k dx hdx hne⟩⟩
end
end Dx
set_option Elab.async false
set_option linter.all false
set_option maxRecDepth 100000
set_option maxHeartbeats 4000000
set_option autoImplicit false
/-! Dx9: zip of a list or a tuple with a list or a tuple. -/
namespace Dx
open PySem L2 PyProof.Rows
/-- a list, a tuple (t) -/
def SqG (K : PySem.W.Frag) (t : Bool) (H : Hp) (a : Addr) (xs : List V) : Prop := if t = true then SqT K H a xs else SqL K H a xs
def ItG (t : Bool) (h : Heap) (i a : Addr) (k : Nat) : Prop := if t = true then h.IsTupleIter i a k else h.IsListIter i a k
def SeqG (t : Bool) (h : Heap) (a : Addr) (its : Array Value) : Prop := if t = true then h.IsTuple a its else h.IsList a its
def Izg (K : PySem.W.Frag) (t u : Bool) (a b : Addr) : It :=
  ⟨fun i H => ∃ (xs ys : List V) (x y : V), SqG K t H a xs ∧ SqG K u H b ys ∧ xs[i]? = some x ∧ ys[i]? = some y,
    fun i H v H' => ∃ T x y, v = .ref T ∧ H T = none ∧ H' = upd H T (.tup [x, y]) ∧ (∀ xs, SqG K t H a xs → xs[i]? = some x) ∧ ∀ ys, SqG K u H b ys → ys[i]? = some y,
    fun i H => ∃ xs ys : List V, SqG K t H a xs ∧ SqG K u H b ys ∧ i = min xs.length ys.length⟩
section
variable {X : Cx} {pins : List (Addr × Obj)} {σ : L2.St} {H : Hp} {s : Shared}
theorem Inv.seqG {t : Bool} {a : Addr} {xs : List V} (I : Inv X pins σ H s) (h : SqG X.K t H a xs) : ∃ its : List Value, Vals xs its ∧ SeqG t s.heap a its.toArray := by
  cases t with
  | true =>
    obtain ⟨its, r, p, _⟩ := I.tuple (show SqT X.K H a xs from h)
    exact ⟨its, r, p⟩
  | false =>
    obtain ⟨its, r, p, _⟩ := I.list (show SqL X.K H a xs from h)
    exact ⟨its, r, p.isList⟩
theorem Inv.injG {t : Bool} {a : Addr} {xs ys : List V} (I : Inv X pins σ H s) (h : SqG X.K t H a xs) (h' : SqG X.K t H a ys) : xs = ys := by
  cases t with
  | true => exact I.tuple_inj (show SqT X.K H a xs from h) h'
  | false => exact I.list_inj (show SqL X.K H a xs from h) h'
end
theorem drawsG {prog : Program} {w : World} {A : Around} (hh : A.handled = none) (t : Bool) (it l : Addr) (hne : l ≠ it) (items : Array Value) :
    Draws prog w A it [it, l] items.size (fun i v => items[i]? = some v) (fun i h => ItG t h it l i ∧ SeqG t h l items) := by
  cases t with
  | true => exact Draws.tuple hh it l hne items
  | false => exact Draws.list hh it l hne items
theorem ItG.obj {t : Bool} {h : Heap} {i a : Addr} {k : Nat} (x : ItG t h i a k) : ∃ o, h.get? i = some o ∧ ∀ v, o.data ≠ .cell v := by
  cases t with
  | true =>
    obtain ⟨o, e, _, d⟩ := (show h.IsTupleIter i a k from x)
    exact ⟨o, e, fun v q => by rw [d] at q; cases q⟩
  | false =>
    obtain ⟨o, e, _, d⟩ := (show h.IsListIter i a k from x)
    exact ⟨o, e, fun v q => by rw [d] at q; cases q⟩
theorem ItG.at {t : Bool} {h h' : Heap} {i a : Addr} {k : Nat} (x : ItG t h i a k) (f : ∀ o, h.get? i = some o → h'.get? i = some o) : ItG t h' i a k := by
  cases t with
  | true => exact (show h.IsTupleIter i a k from x).at f
  | false => exact (show h.IsListIter i a k from x).at f
theorem turn_zipG {P : Program} {w : World} {K : PySem.W.Frag} {elts : List Expr} {kk : Nat} {tpos : Pos} {t u : Bool} {a b z TI TO i1 i2 : Addr} (D : ZipSep2 z TI TO i1 i2 [i1, a] [i2, b]) (ne1 : a ≠ i1) (ne2 : b ≠ i2) :
    Turn P w K (.Tuple elts kk tpos) (Izg K t u a b) [z, TI, TO, i1, i2] z (fun i h => IsZip h z TI TO .none ∧ IsTupOf2 h TI (.ref i1) (.ref i2) ∧ (∃ x y, IsTupOf2 h TO x y) ∧ ItG t h i1 a i ∧ ItG u h i2 b i) where
  mem := by simp
  obj := fun i h st c hc => by
    obtain ⟨hz, hTI, ⟨x, y, hTO⟩, h1, h2⟩ := st
    have e' : c = z ∨ c = TI ∨ c = TO ∨ c = i1 ∨ c = i2 := by simpa using hc
    rcases e' with q | q | q | q | q
    · rw [q]; exact ⟨_, hz, fun v q => nomatch q⟩
    · rw [q]; exact ⟨_, hTI, fun v q => nomatch q⟩
    · rw [q]; exact ⟨_, hTO, fun v q => nomatch q⟩
    · rw [q]; exact h1.obj
    · rw [q]; exact h2.obj
  keep := fun i h h' st k => by
    obtain ⟨hz, hTI, ⟨x, y, hTO⟩, h1, h2⟩ := st
    exact ⟨k z (by simp) _ hz, k TI (by simp) _ hTI, ⟨x, y, k TO (by simp) _ hTO⟩, h1.at fun o q => k i1 (by simp) o q, h2.at fun o q => k i2 (by simp) o q⟩
  item := by
    intro X hP hw hK hc i pins s σ H E I hf st hg
    subst hP hw hK
    obtain ⟨hz, hTI, hTO, h1, h2⟩ := st
    obtain ⟨xs, ys, x, y, hqx, hqy, hx, hy⟩ := hg
    obtain ⟨its, rv, p⟩ := Inv.seqG I hqx
    obtain ⟨its2, rv2, p2⟩ := Inv.seqG I hqy
    have l1 := rv.length
    have l2 := rv2.length
    have hi1 : i < xs.length := (List.getElem?_eq_some_iff.mp hx).1
    have hi2 : i < ys.length := (List.getElem?_eq_some_iff.mp hy).1
    have hh : X.A.in1.handled = none := I.ok.hd hc
    have Wk := WalksT.zipD2 D (drawsG (prog := X.prog) (w := X.w) hh t i1 a ne1 its.toArray) (drawsG (prog := X.prog) (w := X.w) hh u i2 b ne2 its2.toArray)
    have hlt : i < min its.toArray.size its2.toArray.size := by
      rw [List.size_toArray, List.size_toArray]
      omega
    refine Wk.item i s _ _ hlt ⟨hz, hTI, hTO, ⟨h1, p⟩, ⟨h2, p2⟩⟩ fun T vals h' tk hv hsz hT mid fr => ?_
    refine ⟨_, rfl, Wk.go elts kk tpos i T _ _ _ mid fun h'' st' fr' => ?_⟩
    have nT := Wk.apart i T _ mid
    obtain ⟨u1, u2, hu1, hu2, rfl⟩ := hv
    obtain ⟨w1, g1, r1⟩ := rv.get hx
    obtain ⟨w2, g2, r2⟩ := rv2.get hy
    have e1 : u1 = w1 := by
      have z : its[i]? = some u1 := by simpa using hu1
      rw [g1] at z
      exact (Option.some.inj z).symm
    have e2 : u2 = w2 := by
      have z : its2[i]? = some u2 := by simpa using hu2
      rw [g2] at z
      exact (Option.some.inj z).symm
    subst e1
    subst e2
    obtain ⟨oT, hoT, cT, nT', dT⟩ := hT
    have new : ObjOk X.prog X.w (upd H T (.tup [x, y])) h'' T (.tup [x, y]) :=
      ⟨by show 2 ≤ sizeLine; decide, [u1, u2], .cons r1 (.cons r2 .nil), ⟨oT, fr' T _ nT hoT, cT, nT', dT⟩⟩
    have hch : ∀ c ∈ [z, TO, i1, i2], c ∈ [z, TI, TO, i1, i2] := fun c hcm => by
      have e' : c = z ∨ c = TO ∨ c = i1 ∨ c = i2 := by simpa using hcm
      rcases e' with q | q | q | q <;> rw [q] <;> simp
    have I1 : Inv X pins σ (upd H T (.tup [x, y])) { s with heap := h'', toks := tk } :=
      Inv.turnedNew (t' := tk) (ch := [z, TI, TO, i1, i2]) I (fun c o hb q => fr' c o (fun q' => hb (hch c q')) (fr c o (fun q' => hb (hch c q')) q)) hf hsz new
    refine ⟨.ref T, _, I1, rfl, ⟨T, x, y, rfl, I.hok.fresh hsz, rfl, fun l hl => by rw [Inv.injG I hl hqx]; exact hx, fun l hl => by rw [Inv.injG I hl hqy]; exact hy⟩, ⟨st'.1, st'.2.1, st'.2.2.1, st'.2.2.2.1.1, st'.2.2.2.2.1⟩, fun c hcm => ?_⟩
    have hltc : c < s.heap.objs.size := by
      have e' : c = z ∨ c = TI ∨ c = TO ∨ c = i1 ∨ c = i2 := by simpa using hcm
      obtain ⟨x0, y0, hTO⟩ := hTO
      rcases e' with q | q | q | q | q
      · rw [q]; exact Heap.lt_size hz
      · rw [q]; exact Heap.lt_size hTI
      · rw [q]; exact Heap.lt_size hTO
      · rw [q]; obtain ⟨o, e, _⟩ := h1.obj; exact Heap.lt_size e
      · rw [q]; obtain ⟨o, e, _⟩ := h2.obj; exact Heap.lt_size e
    rw [upd_ne (Nat.ne_of_lt (Nat.lt_of_lt_of_le hltc hsz))]
    exact (hf c hcm).1
  done := by
    intro X hP hw hK hc i pins s σ H E I hf st hg
    subst hP hw hK
    obtain ⟨hz, hTI, hTO, h1, h2⟩ := st
    obtain ⟨xs, ys, hqx, hqy, hend⟩ := hg
    obtain ⟨its, rv, p⟩ := Inv.seqG I hqx
    obtain ⟨its2, rv2, p2⟩ := Inv.seqG I hqy
    have hh : X.A.in1.handled = none := I.ok.hd hc
    have Wk := WalksT.zipD2 D (drawsG (prog := X.prog) (w := X.w) hh t i1 a ne1 its.toArray) (drawsG (prog := X.prog) (w := X.w) hh u i2 b ne2 its2.toArray)
    have e : i = min its.toArray.size its2.toArray.size := by
      rw [List.size_toArray, List.size_toArray, ← rv.length, ← rv2.length]
      exact hend
    rw [e] at h1 h2
    refine Wk.done s _ _ ⟨hz, hTI, hTO, ⟨h1, p⟩, ⟨h2, p2⟩⟩ fun h' tk fr => ⟨rfl, ?_⟩
    have hch : ∀ c ∈ [z, TO, i1, i2], c ∈ [z, TI, TO, i1, i2] := fun c hcm => by
      have e' : c = z ∨ c = TO ∨ c = i1 ∨ c = i2 := by simpa using hcm
      rcases e' with q | q | q | q <;> rw [q] <;> simp
    exact Inv.turnedL (t' := tk) (ch := [z, TI, TO, i1, i2]) I (fun c o hb q => fr c o (fun q' => hb (hch c q')) q) hf
  self := fun A i s Q E st h => wpAny_pyIter_zip st.1 h
def iZipG (K : PySem.W.Frag) (t u : Bool) (ta : TA) : TI := fun σ H R => ta σ H fun vs H1 => ∃ a b xs ys, vs = [.ref a, .ref b] ∧ SqG K t H1 a xs ∧ SqG K u H1 b ys ∧ R (Izg K t u a b) H1
theorem pi_zipG (t u : Bool) {X : Cx} {e e2 : Expr} {ta : TA} {p pos tpos : Pos} {elts : List Expr} {kk : Nat} (hg : Gl X "zip") (hm : X.mg "zip" = none) (ha : PA X [e, e2] ta)
    (hs : starEach [e, e2] X.env = (false, eval e X.env) :: starEach [e2] X.env := by rfl) (hpl : (backTo pos (starEach [e2] X.env)).any (·.1) = false := by rfl) :
    PI X (.Tuple elts kk tpos) (.Call (.Name "zip" p) [e, e2] [] pos) (iZipG X.K t u ta) := by
  refine ⟨fun pins s σ H R I h => ?_⟩
  refine Call_ (ld_blt I hg hm PyProof.Rows.boot_zip (PyProof.Rows.callWith_type1 (thn (ha.run pos pins s σ H _ I h) fun us s1 ⟨vs, H1, I1, r1, q1⟩ => ?_) hs hpl))
  obtain ⟨a, b, xs, ys, ex, hqx, hqy, q⟩ := q1
  subst ex
  cases r1 with
  | cons r rr =>
    cases rr with
    | cons r' rr =>
      cases rr
      cases r
      cases r'
      obtain ⟨its, rv, p1⟩ := Inv.seqG I1 hqx
      obtain ⟨its2, rv2, p2⟩ := Inv.seqG I1 hqy
      have la : a < s1.heap.objs.size := by
        cases t with
        | true => obtain ⟨o, ho, _⟩ := (show s1.heap.IsTuple a _ from p1); exact Heap.lt_size ho
        | false => obtain ⟨_, _, h1, _⟩ := (show s1.heap.IsList a _ from p1); first | exact Heap.lt_size h1 | (obtain ⟨o, ho, _⟩ := (show s1.heap.IsList a _ from p1); exact Heap.lt_size ho)
      have lb : b < s1.heap.objs.size := by
        cases u with
        | true => obtain ⟨o, ho, _⟩ := (show s1.heap.IsTuple b _ from p2); exact Heap.lt_size ho
        | false => obtain ⟨_, _, h1, _⟩ := (show s1.heap.IsList b _ from p2); first | exact Heap.lt_size h1 | (obtain ⟨o, ho, _⟩ := (show s1.heap.IsList b _ from p2); exact Heap.lt_size ho)
      have mem5 : ∀ c, c ∈ [s1.heap.objs.size + 4, s1.heap.objs.size + 2, s1.heap.objs.size + 3, s1.heap.objs.size, s1.heap.objs.size + 1] → s1.heap.objs.size ≤ c := fun c hcm => by
        have e' : c = s1.heap.objs.size + 4 ∨ c = s1.heap.objs.size + 2 ∨ c = s1.heap.objs.size + 3 ∨ c = s1.heap.objs.size ∨ c = s1.heap.objs.size + 1 := by simpa using hcm
        omega
      have fin : ∀ h' : Heap, IsZip h' (s1.heap.objs.size + 4) (s1.heap.objs.size + 2) (s1.heap.objs.size + 3) .none → IsTupOf2 h' (s1.heap.objs.size + 2) (.ref s1.heap.objs.size) (.ref (s1.heap.objs.size + 1)) → IsTupOf2 h' (s1.heap.objs.size + 3) .none .none →
          ItG t h' s1.heap.objs.size a 0 → ItG u h' (s1.heap.objs.size + 1) b 0 → (∀ c o, s1.heap.get? c = some o → h'.get? c = some o) →
          wpAny (model X.prog X.w) X.A (pyIter (.ref (s1.heap.objs.size + 4))) (PIE X pins σ (.Tuple elts kk tpos) R) X.xe { s1 with heap := h' } := fun h' hz hTI hTO h1 h2 hk => wpAny_pyIter_zip hz (by
        have I2 : Inv X pins σ H1 { s1 with heap := h' } := I1.kept (t' := s1.toks) hk
        have D : ZipSep2 (s1.heap.objs.size + 4) (s1.heap.objs.size + 2) (s1.heap.objs.size + 3) s1.heap.objs.size (s1.heap.objs.size + 1) [s1.heap.objs.size, a] [s1.heap.objs.size + 1, b] :=
          zip_sep2 (N := s1.heap.objs.size) (fp1 := [a]) (fp2 := [b]) (fun c hc => by have e : c = a := by simpa using hc
                                                                                      rw [e]; exact la) (fun c hc => by have e : c = b := by simpa using hc
                                                                                                                        rw [e]; exact lb)
        exact ⟨s1.heap.objs.size + 4, [s1.heap.objs.size + 4, s1.heap.objs.size + 2, s1.heap.objs.size + 3, s1.heap.objs.size, s1.heap.objs.size + 1], _, _, H1, rfl, I2, turn_zipG D (Nat.ne_of_lt la) (Nat.ne_of_lt (Nat.lt_succ_of_lt lb)), ⟨hz, hTI, ⟨_, _, hTO⟩, h1, h2⟩, fun c hc => I1.fpOk (mem5 c hc) (I1.hok.fresh (mem5 c hc)), q⟩)
      cases t with
      | true =>
        cases u with
        | true => exact zip_begins2 (begins_tuple a its.toArray) (begins_tuple b its2.toArray) p1 p2 fun h' hz hTI hTO ho1 ho2 _ hk => fin h' hz hTI hTO (show h'.IsTupleIter _ _ _ from ⟨_, ho1, rfl, rfl⟩) (show h'.IsTupleIter _ _ _ from ⟨_, ho2, rfl, rfl⟩) hk
        | false => exact zip_begins2 (begins_tuple a its.toArray) (begins_list b its2.toArray) p1 p2 fun h' hz hTI hTO ho1 ho2 _ hk => fin h' hz hTI hTO (show h'.IsTupleIter _ _ _ from ⟨_, ho1, rfl, rfl⟩) (show h'.IsListIter _ _ _ from ⟨_, ho2, rfl, rfl⟩) hk
      | false =>
        cases u with
        | true => exact zip_begins2 (begins_list a its.toArray) (begins_tuple b its2.toArray) p1 p2 fun h' hz hTI hTO ho1 ho2 _ hk => fin h' hz hTI hTO (show h'.IsListIter _ _ _ from ⟨_, ho1, rfl, rfl⟩) (show h'.IsTupleIter _ _ _ from ⟨_, ho2, rfl, rfl⟩) hk
        | false => exact zip_begins2 (begins_list a its.toArray) (begins_list b its2.toArray) p1 p2 fun h' hz hTI hTO ho1 ho2 _ hk => fin h' hz hTI hTO (show h'.IsListIter _ _ _ from ⟨_, ho1, rfl, rfl⟩) (show h'.IsListIter _ _ _ from ⟨_, ho2, rfl, rfl⟩) hk
section
variable {K : PySem.W.Frag} {W : WX} {Γ : Ga} {B B' : Hp} {ρ : Ab} {σ : L2.St} {H H' : Hp}
def D.sq (t : Bool) : D → Option (List D)
  | .tup ds => if t = true then some ds else none
  | .lst ds => if t = true then none else some ds
  | .sql ds => if t = true then none else some ds
  | _ => none
theorem SqG.mono {t : Bool} {a : Addr} {xs : List V} (s : Same B H) (h : SqG K t B a xs) : SqG K t H a xs := by
  cases t with
  | true => exact Same.sqT s h
  | false => exact s.seq h
theorem Dr.sq_inv {t : Bool} {v : V} {d : D} {ds : List D} (h : Dr K B v d) (e : d.sq t = some ds) : ∃ a xs, v = .ref a ∧ SqG K t B a xs ∧ DrA K B xs ds := by
  cases t with
  | true => cases h <;> first | (cases e; exact ⟨_, _, rfl, by assumption, by assumption⟩) | cases e
  | false => cases h <;> first | (cases e; exact ⟨_, _, rfl, SqL.of (by assumption), by assumption⟩) | (cases e; exact ⟨_, _, rfl, by assumption, by assumption⟩) | cases e
def zipD : List D → List D → List D
  | x :: xs, y :: ys => .tup [x, y] :: zipD xs ys
  | _, _ => []
theorem zipD_get : ∀ {xs ys : List D} {i : Nat} {x y : D}, xs[i]? = some x → ys[i]? = some y → (zipD xs ys)[i]? = some (.tup [x, y])
  | a :: xs, b :: ys, 0, x, y, h1, h2 => by
    cases h1
    cases h2
    rfl
  | a :: xs, b :: ys, i + 1, x, y, h1, h2 => by
    have h1 : xs[i]? = some x := by simpa using h1
    have h2 : ys[i]? = some y := by simpa using h2
    have := zipD_get (xs := xs) (ys := ys) h1 h2
    show (D.tup [a, b] :: zipD xs ys)[i + 1]? = _
    simpa using this
  | [], _, i, x, y, h1, _ => by simp at h1
  | _ :: _, [], i, x, y, _, h2 => by simp at h2
theorem zipD_length : ∀ {xs ys : List D}, (zipD xs ys).length = min xs.length ys.length
  | x :: xs, y :: ys => by
    show (zipD xs ys).length + 1 = _
    rw [zipD_length (xs := xs) (ys := ys), List.length_cons, List.length_cons]
    omega
  | [], _ => by simp [zipD]
  | _ :: _, [] => by simp [zipD]
def pZip (t u : Bool) (pa : PAx) : Ab → XD → (List D → Ab → Prop) → Prop := fun ρ Ξ Φ => pa ρ Ξ fun as ρ1 => ∃ d e xs ys, as = [.pu d, .pu e] ∧ d.sq t = some xs ∧ e.sq u = some ys ∧ Φ (zipD xs ys) ρ1
instance ri_zip {t u : Bool} {ta : TA} {pa : PAx} [ha : RfA K W ta pa] : RfI K W (iZipG K t u ta) (pZip t u pa) where
  run := fun Γ B ρ σ H Ξ Φ R r xo h k => ha.run Γ B ρ σ H _ Ξ _ r xo h fun vs as B1 H1 ρ1 r1 s1 aso hq => by
    obtain ⟨d, e, xs, ys, rfl, ed, ee, hq⟩ := hq
    obtain ⟨v, w, rfl, h1, h2⟩ := (ArsOk.pure (ds := [d, e]) aso).two
    obtain ⟨a, us, rfl, g1, g2⟩ := h1.sq_inv ed
    obtain ⟨b, ws, rfl, k1, k2⟩ := h2.sq_inv ee
    refine ⟨a, b, us, ws, rfl, g1.mono r1.bh, k1.mono r1.bh, k B1 H1 ρ1 _ (Izg K t u a b) r1 s1 hq (fun i B2 H2 s2 s3 hi => ?_) (fun B2 H2 s2 s3 => ⟨us, ws, g1.mono (s2.trans s3), k1.mono (s2.trans s3), by rw [zipD_length, g2.length, k2.length]⟩)⟩
    rw [zipD_length] at hi
    have hx : i < us.length := by rw [g2.length]; omega
    have hy : i < ws.length := by rw [k2.length]; omega
    have q1 : SqG K t H2 a us := g1.mono (s2.trans s3)
    have q2 : SqG K u H2 b ws := k1.mono (s2.trans s3)
    refine ⟨⟨us, ws, us[i], ws[i], q1, q2, List.getElem?_eq_getElem hx, List.getElem?_eq_getElem hy⟩, fun x H3 y => ?_⟩
    obtain ⟨T, x1, y1, rfl, hT, rfl, f1, f2⟩ := y
    obtain ⟨dx, m1, m2⟩ := g2.get' (f1 us q1)
    obtain ⟨dy, n1, n2⟩ := k2.get' (f2 ws q2)
    have al := Al.new (K := K) (o := .tup [x1, y1]) s3 hT
    exact ⟨_, .tup [dx, dy], al, Same.up2 s3, zipD_get m1 n1, .tup (SqT.of upd_same) (.cons (m2.mono (s2.trans al.b)) (.cons (n2.mono (s2.trans al.b)) .nil))⟩
end
/-! ### rules whose fragment is written out (within a comprehension) -/
section
variable {X : Cx} {K : PySem.W.Frag}
theorem ix_ltK (h : X.K = K := by rfl) : IxR X (rIxLT K) := h ▸ ix_lt
theorem op_eqK (hu : X.A.units + 64 < cLine) (h : X.K = K := by rfl) : OpR X (compareOp .Eq) (rEqA K) := h ▸ op_eqA hu
theorem op_neK (hu : X.A.units + 64 < cLine) (h : X.K = K := by rfl) : OpR X (compareOp .NotEq) (rNeA K) := h ▸ op_neA hu
theorem call_lenK (h : X.K = K := by rfl) : CallR X (.builtin "len") (fun xs H Q => ∃ p ys, xs = [.ref p] ∧ (SqL K H p ys ∨ SqT K H p ys) ∧ Q (.int ys.length) H) := h ▸ call_len_seq
theorem call_listK (h : X.K = K := by rfl) : CallR X (.type "list") (fun xs H Q => ∃ p ys, xs = [.ref p] ∧ (SqL K H p ys ∨ SqT K H p ys) ∧ ∀ l, H l = none → Q (.ref l) (upd H l (.lst ys))) := h ▸ call_list_of
theorem call_tupleK (h : X.K = K := by rfl) : CallR X (.type "tuple") (fun xs H Q => ∃ p ys, xs = [.ref p] ∧ ((SqL K H p ys ∧ ∀ l, H l = none → Q (.ref l) (upd H l (.tup ys))) ∨ (SqT K H p ys ∧ Q (.ref p) H))) := h ▸ call_tuple_of
theorem call_typeK (h : X.K = K := by rfl) : CallR X (.type "type") (rTyD K) := h ▸ call_typeD
theorem sl_listK (h : X.K = K := by rfl) : SlR X (rSlL K) := h ▸ sl_list
theorem cr_allK (hc : X.calm = true) (h : X.K = K := by rfl) : CallR X (.builtin "all") (rAll K) := h ▸ cr_all hc
end
end Dx
set_option Elab.async false
set_option linter.all false
set_option maxRecDepth 100000
set_option maxHeartbeats 4000000
set_option autoImplicit false
/-! Dx10: == and != and `not in` where a class has its own __eq__. -/
namespace Dx
open PySem PySem.SeqAt
open AutoSeq1 (wpAny_loadPart')
open MeetsSeq MeetsSeq2 MeetsSeq3 SeqRoads2
/-- a class with its own __eq__ (the def at f), and object's __ne__ -/
structure OwnEqK (K : PySem.W.Frag) (C f : Addr) : Prop where
  he : PySem.W.findIn K (.ref C) "__eq__" = some (some (.ref f))
  hf : PySem.W.isFn K (.ref f) = true
  hn : PySem.W.findIn K (.ref C) "__ne__" = some (some (.builtin "object.__ne__"))
  ho : PySem.W.mroIn K C (.type "object") = some true
  hl : PySem.W.mroIn K C (.type "list") = some false
  hN : PySem.W.mroIn K C (.type "NoneType") = some false
section
variable {prog : Program} {w : World} {A : Around} {E : Value → Shared → Prop} {s : Shared} {K : PySem.W.Frag} {x C f L : Addr} {h₀ : Heap} {m : Str → Option Value} {ox : Obj} {od : Option Obj} {b tb : Value}
theorem ne_body (X : K.In s.heap) (I : PySem.W.InstAt s.heap x ox C od) (k : OwnEqK K C f) (hu : A.units < cLine) {Q : PySem.Fin → Shared → Prop}
    (h : wpAny (model prog w) A (call (.ref f) [.ref x, b]) (fun v s' => ∃ c, v = .bool c ∧ Q (.done (.ret (.bool (!c)))) s') E s) :
    wpAny (model prog w) A (Builtin.«object.__ne__» ⟨[.ref x, b], []⟩) Q E s := by
  unfold Builtin.«object.__ne__»
  repeat (first
    | with_reducible refine wpAny_cRoomFor hu ?_
    | (refine wpAny_bind (m := callSpecialIfBound? (.ref x) (Str.ofString "__eq__") [b]) (PySem.W.ifBound_K X I k.he k.hf (wpAny_mono h (fun v s' z => by
        obtain ⟨c, rfl, z⟩ := z
        repeat (first | exact z | exact wpAny_pure z | exact wpAny_truthy_bool z | (refine wpAny_bind (m := truthy (.bool _)) (wpAny_truthy_bool ?_)) | wp_step)) fun _ _ e => e)))
    | wp_step)
theorem ne_try (X : K.In s.heap) (I : PySem.W.InstAt s.heap x ox C od) (k : OwnEqK K C f) (hu : A.units + 1 < cLine) {Q : Option Value → Shared → Prop}
    (h : wpAny (model prog w) A.in1 (call (.ref f) [.ref x, b]) (fun v s' => ∃ c, v = .bool c ∧ Q (some (.bool (!c))) s') E s) :
    wpAny (model prog w) A (tryCompare (.ref x) "__ne__" b) Q E s := by
  have main : wpAny (model prog w) A (call (.builtin "object.__ne__") [.ref x, b]) (fun v s' => ∃ c, v = .bool c ∧ Q (some (.bool c)) s') E s :=
    wpAny_call (codeAny_call_builtin F.cmp_object.ne.plain F.cmpEntry_ne (PySem.W.check_slot F.cmpKind_ne F.cmpSplit_ne (I.type.andThen (PySem.W.looks_mroIn X k.ho)) (F.cmpArgs_ne _ _)
      (ne_body (A := A.in1) X I k hu (wpAny_mono h (fun v s' z => by
        obtain ⟨c, rfl, z⟩ := z
        exact ⟨c, rfl, !c, rfl, z⟩) fun _ _ e => e))))
  unfold tryCompare
  refine wpAny_bind ?_
  simp only [callSpecialIfBound?, bindSpecialIfBound?]
  refine wpAny_holding (wpAny_bind (wpAny_bind (wpAny_bind (I.type.here ((PySem.W.looks_findIn X k.hn).here ?_)))))
  refine wpAny_bind (wpAny_askSetting (wpAny_ite ?_))
  have fin : wpAny (model prog w) A (call (.builtin "object.__ne__") ([.ref x] ++ [b]) >>= fun v => pure (some v)) (fun r s' => wpAny (model prog w) A (match r with | some .notImplemented | none => pure none | some v => pure (some v)) Q E s') E s :=
    wpAny_bind (wpAny_mono main (fun v s' z => by
      obtain ⟨c, rfl, z⟩ := z
      exact wpAny_pure (wpAny_pure z)) fun _ _ e => e)
  split
  · exact wpAny_bind (wpAny_of_eq (F.cmp_object.ne.bind _) (wpAny_pure (by exact fin)))
  · exact wpAny_tryCatch (wpAny_bind (wpAny_of_eq (F.cmp_object.ne.bind _) (wpAny_pure (by exact fin))))
/-- x != b, x an instance, b no instance of a class below x's -/
theorem ne_K (hu : A.units + 1 < cLine) (X : K.In s.heap) (I : PySem.W.InstAt s.heap x ox C od) (k : OwnEqK K C f) (hb : PySem.W.Looks (model prog w) s.heap (typeOf b) tb) (hn : PySem.W.notFirst K C tb = true) {Q : Value → Shared → Prop}
    (h : wpAny (model prog w) A.in1 (call (.ref f) [.ref x, b]) (fun v s' => ∃ c, v = .bool c ∧ Q (.bool (!c)) s') E s) :
    wpAny (model prog w) A (richCompare .NotEq (.ref x) b) Q E s := by
  have t1 : wpAny (model prog w) A (tryCompare (.ref x) (cmpInfo .NotEq).2.1 b) (fun r s' => ∃ v, r = some v ∧ Q v s') E s :=
    ne_try (A := A) X I k hu (wpAny_mono h (fun v s' z => by
      obtain ⟨c, rfl, z⟩ := z
      exact ⟨c, rfl, _, rfl, z⟩) fun _ _ e => e)
  unfold richCompare
  simp only [oneThing_ref]
  refine wpAny_holding (wpAny_bind (wpAny_cRoomFor (Nat.lt_of_succ_lt hu) ?_))
  refine wpAny_bind (I.type.here (wpAny_bind (hb.here ?_)))
  have go : ∀ k : Option Value → Sem Value, (∀ v s', Q v s' → wpAny (model prog w) A (k (some v)) Q E s') → wpAny (model prog w) A (tryCompare (.ref x) (cmpInfo .NotEq).2.1 b >>= k) Q E s := fun k hk =>
    wpAny_bind (wpAny_mono t1 (fun r s' z => by
      obtain ⟨v, rfl, z⟩ := z
      exact hk v s' z) fun _ _ e => e)
  split
  · rename_i q
    have e : PySem.W.subIn K tb (.ref C) = some false := (Bool.or_eq_true_iff.mp hn).elim (fun e => by rw [beq_iff_eq.mp e] at q; simp at q) beq_iff_eq.mp
    refine wpAny_bind ((PySem.W.looks_subIn X e).here ?_)
    simp only [Bool.false_eq_true, if_false]
    exact go _ fun v s' z => wpAny_pure z
  · refine wpAny_bind (wpAny_pure ?_)
    simp only [Bool.false_eq_true, if_false]
    exact go _ fun v s' z => wpAny_pure z
/-- y == x, y of a builtin type that declines, x an instance with its own __eq__ -/
theorem refl_K {y : Value} {T : String} (hu : A.units < cLine) (X : K.In s.heap) (I : PySem.W.InstAt s.heap x ox C od) (k : OwnEqK K C f) (hy : s.TypeIs y T) (h1 : oneThing? .Eq y (.ref x) = none) (hT : PySem.W.mroIn K C (.type T) = some false)
    (dec : ∀ Q : Option Value → Shared → Prop, Q none s → wpAny (model prog w) A (tryCompare y "__eq__" (.ref x)) Q E s) {Q : Value → Shared → Prop}
    (h : wpAny (model prog w) A (call (.ref f) [.ref x, y]) (fun v s' => ∃ c, v = .bool c ∧ Q (.bool c) s') E s) :
    wpAny (model prog w) A (richCompare .Eq y (.ref x)) Q E s := by
  have two : wpAny (model prog w) A (tryCompare (.ref x) "__eq__" y) (fun r s' => ∃ v, r = some v ∧ Q v s') E s := by
    unfold tryCompare
    exact wpAny_bind (PySem.W.ifBound_K X I k.he k.hf (wpAny_mono h (fun v s' z => by
      obtain ⟨c, rfl, z⟩ := z
      exact wpAny_pure ⟨_, rfl, z⟩) fun _ _ e => e))
  simp only [richCompare, cmpInfo_Eq, h1]
  refine wpAny_holding (wpAny_bind (wpAny_cRoomFor hu ?_))
  refine wpAny_bind (wpAny_typeOf hy (wpAny_bind (I.type.here ?_)))
  split
  · refine wpAny_bind ((PySem.W.looks_mroIn X hT).here ?_)
    simp only [Bool.false_eq_true, if_false, Bool.not_false, if_true]
    refine wpAny_bind (dec _ ?_)
    exact wpAny_bind (wpAny_mono two (fun r s' z => by
      obtain ⟨v, rfl, z⟩ := z
      exact wpAny_pure z) fun _ _ e => e)
  · rename_i q
    exact absurd (by simp) q
/-- list.__eq__ declines an instance of no class below list -/
theorem list_dec {l : Addr} (X : K.In s.heap) (I : PySem.W.InstAt s.heap x ox C od) (k : OwnEqK K C f) (hl : s.TypeIs (.ref l) "list") {Q : Option Value → Shared → Prop} (h : Q none s) :
    wpAny (model prog w) A (tryCompare (.ref l) "__eq__" (.ref x)) Q E s := by
  refine wpAny_tryCompare_declines hl F.slot_list_eq (GQ.call_here F.slot_list_eq hl F.entry_list_eq (F.args_list_eq_2 _ _) ?_)
  have li : PySem.W.Looks (model prog w) s.heap (isInstance (.ref x) (.type "list")) false := I.type.andThen (PySem.W.looks_mroIn X k.hl)
  unfold Builtin.«list.__eq__»
  repeat (first
    | (refine wpAny_bind (m := isInstance (.ref x) (.type "list")) (li.here ?_))
    | wp_step)
  exact ⟨rfl, h⟩
theorem non_dec {Q : Option Value → Shared → Prop} (h : Q none s) : wpAny (model prog w) A (tryCompare .none "__eq__" (.ref x)) Q E s :=
  wpAny_tryCompare_declines (show s.TypeIs .none "NoneType" from rfl) F.slot_NoneType_eq_refl (call_gives F.slot_NoneType_eq_refl rfl F.entry_NoneType_eq (F.args_NoneType_eq_2 _ _) (NoneType___eq___none_ref_0 x) ⟨rfl, h⟩)
/-- no item of the list at l equals x -/
theorem none_loop {R : Result → Shared → Prop} (l : Addr) (y : Value) (N : Nat) (J : Nat → Shared → Prop)
    (hl : ∀ i s, J i s → ∃ (its : Array Value) (n : Nat), s.heap.get? l = some { cls := .type "list", data := .seq its n } ∧ its.size = N ∧ ∀ h : i < its.size, wpAny (model prog w) A.in1 (eqBool its[i] y) (fun r s' => r = false ∧ J (i + 1) s') (fun e s' => R (.error e) s') s)
    (fin : ∀ s, J N s → R (.ok (.ret (.bool false))) s) (k : Nat) :
    ∀ i : Nat, N - i = k → i ≤ N → ∀ s, J i s → wpAny (model prog w) A.in1 (Builtin.«list.__contains__.loop» ⟨[.ref l, y, rawInt i], []⟩) (GQ.FinOf prog w A R) (fun e s' => R (.error e) s') s := by
  induction k with
  | zero =>
    intro i hk hi s h
    obtain ⟨its, n, g1, g2, _⟩ := hl _ _ h
    have hR : R (.ok (.ret (.bool false))) s := fin s (by rw [show N = i by omega]; exact h)
    obtain ⟨hp, g, d, tk, os⟩ := s
    wp_walk using wpAny_loadPart' g1
    rw [show its[((i : Nat) : Int).toNat]? = none by simp; omega]
    wp_walk
    exact hR
  | succ k ih =>
    intro i hk hi s h
    obtain ⟨its, n, g1, g2, turn⟩ := hl _ _ h
    have hlt : i < its.size := by omega
    have ht := turn hlt
    obtain ⟨hp, g, d, tk, os⟩ := s
    wp_walk using wpAny_loadPart' g1
    rw [show its[((i : Nat) : Int).toNat]? = some its[i] by simp [hlt]]
    refine wpAny_bind (wpAny_mono ht (fun r s2 z => ?_) fun _ _ e => e)
    obtain ⟨rfl, z⟩ := z
    have go := ih (i + 1) (by omega) (by omega) s2 z
    obtain ⟨hp2, g2, d2, tk2, os2⟩ := s2
    wp_walk
    rw [show ((i : Int) + 1) = ((i + 1 : Nat) : Int) by omega]
    exact ⟨plainId_quiet plain_contains_loop _, codeAny_builtin entry_contains_loop (by
      rw [Around.under_plainId plain_contains_loop _]
      exact go)⟩
theorem none_in {l : Addr} {y : Value} {N : Nat} {Q : Value → Shared → Prop} (J : Nat → Shared → Prop)
    (hl : ∀ i s, J i s → ∃ (its : Array Value) (n : Nat), s.heap.get? l = some { cls := .type "list", data := .seq its n } ∧ its.size = N ∧ ∀ h : i < its.size, wpAny (model prog w) A.in1 (eqBool its[i] y) (fun r s' => r = false ∧ J (i + 1) s') E s)
    (fin : ∀ s, J N s → Q (.bool true) s) (h0 : J 0 s) : wpAny (model prog w) A (compareOp .NotIn y (.ref l)) Q E s := by
  obtain ⟨its, n, g1, _, _⟩ := hl _ _ h0
  show wpAny _ A (do return .bool (!(← contains (.ref l) y))) Q E s
  have hT : s.TypeIs (.ref l) "list" := ⟨_, g1, rfl⟩
  have one : wpAny (model prog w) A (call (.builtin "list.__contains__") [.ref l, y]) (fun v s' => v = .bool false ∧ Q (.bool true) s') E s := by
    refine GQ.call_here F.slot_list_contains hT F.entry_list_contains (F.args_list_contains_2 _ _) ?_
    have go := none_loop (A := A) (R := wants (fun v s' => v = .bool false ∧ Q (.bool true) s') E) l y N J hl (fun s' z => ⟨rfl, fin s' z⟩) _ 0 rfl (Nat.zero_le _) s h0
    obtain ⟨hp, g, d, tk, os⟩ := s
    wp_walk using wpAny_loadPart' g1
    exact ⟨plainId_quiet plain_contains_loop _, codeAny_builtin entry_contains_loop (by
      rw [Around.under_plainId plain_contains_loop _]
      exact go)⟩
  refine wpAny_bind (wpAny_contains_slot hT F.slot_list_contains (wpAny_mono one (fun v s' z => ?_) fun _ _ e => e))
  obtain ⟨rfl, z⟩ := z
  exact wpAny_truthy_bool (wpAny_pure z)
end
end Dx
set_option Elab.async false
set_option linter.all false
set_option maxRecDepth 100000
set_option maxHeartbeats 4000000
set_option autoImplicit false
/-! Dx11: own comparisons over data. -/
namespace Dx
open PySem PySem.Spec L2
section
variable {K : PySem.W.Frag} {W : WX} {B B' : Hp} {H H' : Hp}
/-- a def called on data alone -/
theorem sp_pure {n : Nat} {P : Pm} {vs : List V} {ds : List D} {Q : VK} {E : XK} {Ψ : D → Prop} (s : Sm K B H) (dr : DrA K B vs ds) (hn : ds.length = n) (hp : P (pus ds) X0 fun d _ => Ψ d)
    (po : ∀ v d B' H', Al K B H B' H' → Same B' H' → Dr K B' v d → Ψ d → Q v H') : spD K n P vs H Q E := by
  have ow : ∀ i, ownOf (pus ds) vs i = none := fun i => by
    unfold ownOf pus
    rw [List.getElem?_map]
    cases ds[i]? <;> rfl
  refine ⟨fun _ => True, B, pus ds, X0, fun d _ => Ψ d, by unfold pus; rw [List.length_map]; exact hn, ⟨s, Same.refl _, fun b o e _ _ => e, fun b o e => .inl e, fun b e => e, (fun b o e => nomatch e), ?_, fun i d e => ?_, fun i p c e => ?_, fun i j p q c e h1 => ?_, fun _ _ _ _ => trivial, trivial, ⟨s.m, fun _ x => .inl x, fun _ _ => rfl⟩⟩, hp, fun v d B' H' ρ' f dr q => po v d B' H' ⟨f.bb, fun b o e m => f.fr b o e (fun i z => ?_) m, f.dm, fun p o e => f.nb p o e, fun _ => f.mm, f.nm⟩ f.bh dr q, fun _ _ _ _ _ _ _ _ z => z.elim⟩
  · unfold pus
    rw [List.length_map, List.length_map, dr.length]
  · unfold pus at e
    rw [List.getElem?_map] at e
    cases q : ds[i]? with
    | none => rw [q] at e; cases e
    | some c =>
      rw [q] at e
      cases e
      obtain ⟨v, h1, h2⟩ := dr.get q
      exact ⟨v, by rw [List.getElem?_map, h1]; rfl, h2⟩
  · unfold pus at e
    rw [List.getElem?_map] at e
    cases q : ds[i]? with
    | none => rw [q] at e; cases e
    | some c => rw [q] at e; cases e
  · unfold pus at h1
    rw [List.getElem?_map] at h1
    cases q : ds[i]? with
    | none => rw [q] at h1; cases h1
    | some c => rw [q] at h1; cases h1
  · rw [show (gaOf B H (pus ds) vs fun _ => True).own i = none from ow i] at z
    cases z
end
section
variable {X : Cx} {n : Nat}
/-- a def is called at A, below the running body -/
theorem run_at {f : Addr} {fd : FuncData} {ps : List Str} {sp : Sp} {A : Around} {pins : List (Addr × Obj)} {σ : L2.St} {H : Hp} {s : Shared} {us : List Value} {vs : List V} {Q : VK} (F : FnOk X.prog X.w X.K X.mg X.base CX0 n f fd ps sp) (hb : Binds X.K fd ps [])
    (sb : Sub X n A) (I : Inv X pins σ H s) (r : Vals vs us) (h : sp vs H Q fun _ _ _ => False) : wpAny (model X.prog X.w) A (call (.ref f) us) (EP X pins σ Q) X.xe s := by
  have hl : us.length = ps.length := by rw [← r.length]; exact F.len _ _ _ _ h
  have e0 : Env0 X.prog X.w X.K X.mg X.base A X.stack s H := ⟨by rw [sb.fr]; exact I.env0.frames, I.env0.mod, I.env0.bs, I.env0.bsz, I.env0.funs, I.env0.frf, I.env0.hok, I.env0.bare⟩
  have bd := hb s us I.kIn (by rw [List.append_nil]; exact hl)
  rw [List.append_nil] at bd
  refine wpAny_call (codeAny_mono (F.run A X.stack s H ⟨us, []⟩ us vs Q _ sb.room e0 bd r h) fun x s' z => ?_)
  cases x with
  | error e => exact pass0 (X := X) pins σ H s e s' I z
  | ok fl =>
    cases fl with
    | ret v => exact I.after z
    | next => exact z.elim
    | brk => exact z.elim
    | cont => exact z.elim
/-- x == y (g: id), x != y (g: not), both of the class at C with its own __eq__ -/
def rOwn2 (K : PySem.W.Frag) (C : Addr) (P : Pm) (g : Bool → Bool) : R2 := fun x y H Q => ∃ a dx fs b dy gs, x = .ref a ∧ y = .ref b ∧ H a = some (.ins C dx fs) ∧ H b = some (.ins C dy gs) ∧
  spD K 2 P [x, y] H (fun v H' => ∃ c, v = .bl c ∧ Q (.bl (g c)) H') fun _ _ _ => False
theorem op_ownEq {C f : Addr} {fd : FuncData} {ps : List Str} {P : Pm} (F : FnOk X.prog X.w X.K X.mg X.base CX0 n f fd ps (spD X.K 2 P)) (hb : Binds X.K fd ps []) (k : OwnEqK X.K C f) (hr : Room n X.A) : OpR X (compareOp .Eq) (rOwn2 X.K C P id) := by
  intro pins s σ H x y v u Q I rx ry h
  obtain ⟨a, dx, fs, b, dy, gs, rfl, rfl, ha, hb', sp⟩ := h
  cases rx
  cases ry
  obtain ⟨_, J, _⟩ := ins_get I.hok ha
  obtain ⟨_, J2, _⟩ := ins_get I.hok hb'
  obtain ⟨od, J, _⟩ := J.look
  obtain ⟨od2, J2, _⟩ := J2.look
  obtain ⟨m, fr⟩ := I.fr
  refine PySem.W.cmp_K (op := .Eq) (tb := .ref C) hr.units0 fr I.ok.mod.kin J J2.type (by simp [PySem.W.notFirst]) k.he k.hf ?_
  refine wpAny_mono (run_at (us := [.ref a, .ref b]) (vs := [.ref a, .ref b]) F hb ⟨hr, rfl⟩ I (.cons rfl (.cons rfl .nil)) sp) (fun r s' z => ?_) fun _ _ e => e
  obtain ⟨t, H', I', rt, c, rfl, q⟩ := z
  cases (show r = Value.bool c from rt)
  exact ⟨.bl c, H', I', rfl, q⟩
theorem op_ownNe {C f : Addr} {fd : FuncData} {ps : List Str} {P : Pm} (F : FnOk X.prog X.w X.K X.mg X.base CX0 n f fd ps (spD X.K 2 P)) (hb : Binds X.K fd ps []) (k : OwnEqK X.K C f) (hr : Room (n + 1) X.A) : OpR X (compareOp .NotEq) (rOwn2 X.K C P not) := by
  intro pins s σ H x y v u Q I rx ry h
  obtain ⟨a, dx, fs, b, dy, gs, rfl, rfl, ha, hb', sp⟩ := h
  cases rx
  cases ry
  obtain ⟨_, J, _⟩ := ins_get I.hok ha
  obtain ⟨_, J2, _⟩ := ins_get I.hok hb'
  obtain ⟨od, J, _⟩ := J.look
  obtain ⟨od2, J2, _⟩ := J2.look
  have sb : Sub X (n + 1) X.A := ⟨hr, rfl⟩
  refine ne_K (tb := .ref C) (Room.units0 hr.in1) I.kIn J k J2.type (by simp [PySem.W.notFirst]) ?_
  refine wpAny_mono (run_at (us := [.ref a, .ref b]) (vs := [.ref a, .ref b]) F hb sb.in1 I (.cons rfl (.cons rfl .nil)) sp) (fun r s' z => ?_) fun _ _ e => e
  obtain ⟨t, H', I', rt, c, rfl, q⟩ := z
  cases (show r = Value.bool c from rt)
  exact ⟨c, rfl, .bl (!c), H', I', rfl, q⟩
/-- x is not == to any of the items -/
def neqs (K : PySem.W.Frag) (C : Addr) (P : Pm) (x : V) : List V → Hp → (Hp → Prop) → Prop
  | [], H, R => R H
  | v :: vs, H, R => ((v = .non ∨ ∃ p ys, v = .ref p ∧ SqL K H p ys) ∧ spD K 2 P [x, v] H (fun r H' => r = .bl false ∧ Same H H' ∧ neqs K C P x vs H' R) fun _ _ _ => False) ∨
    ((∃ b dy gs, v = .ref b ∧ H b = some (.ins C dy gs)) ∧ (∀ (X : Cx) pins σ s, X.K = K → Inv X pins σ H s → v ≠ x) ∧ spD K 2 P [v, x] H (fun r H' => r = .bl false ∧ Same H H' ∧ neqs K C P x vs H' R) fun _ _ _ => False)
def rNoneOf (K : PySem.W.Frag) (C : Addr) (P : Pm) : R2 := fun x y H Q => ∃ a dx fs l xs, x = .ref a ∧ y = .ref l ∧ H a = some (.ins C dx fs) ∧ H l = some (.lst xs) ∧ neqs K C P x xs H fun H' => Q (.bl true) H'
theorem eqBool_non {A : Around} {E : Value → Shared → Prop} {s : Shared} {a : Addr} {Q : Bool → Shared → Prop} {prog : Program} {w : World} (h : wpAny (model prog w) A (richCompare .Eq .none (.ref a)) (fun r s' => ∃ c, r = .bool c ∧ Q c s') E s) : wpAny (model prog w) A (eqBool .none (.ref a)) Q E s := by
  unfold eqBool
  refine wpAny_holding ?_
  refine wpAny_ite_split (fun hab => absurd (eq_of_beq hab) nofun) fun _ => ?_
  refine wpAny_bind (wpAny_mono h (fun r s' z => ?_) fun _ _ e => e)
  obtain ⟨c, rfl, z⟩ := z
  exact wpAny_truthy_bool z
theorem op_noneOf {C f : Addr} {fd : FuncData} {ps : List Str} {P : Pm} (F : FnOk X.prog X.w X.K X.mg X.base CX0 n f fd ps (spD X.K 2 P)) (hb : Binds X.K fd ps []) (k : OwnEqK X.K C f) (hr : Room (n + 1) X.A) : OpR X (compareOp .NotIn) (rNoneOf X.K C P) := by
  intro pins s σ H x y v u Q I rx ry h
  obtain ⟨a, dx, fs, l, xs, rfl, rfl, ha, hl, ne⟩ := h
  cases rx
  cases ry
  have sb : Sub X (n + 1) X.A := ⟨hr, rfl⟩
  refine none_in (N := xs.length) (fun i s' => ∃ H', Inv X pins σ H' s' ∧ Same H H' ∧ neqs X.K C P (.ref a) (xs.drop i) H' fun H'' => Q (.bl true) H'') (fun i s' z => ?_) (fun s' z => ?_) ⟨H, I, Same.refl _, ne⟩
  · obtain ⟨H1, I1, s1, ne⟩ := z
    obtain ⟨_, its, m, rv, g⟩ := I1.hok l _ (s1 _ _ hl)
    refine ⟨its.toArray, m, g, by rw [List.size_toArray, ← rv.length], fun hi => ?_⟩
    have hi' : i < xs.length := by rw [rv.length]; simpa using hi
    rw [List.drop_eq_getElem_cons hi'] at ne
    obtain ⟨u, hu, ru⟩ := rv.get (List.getElem?_eq_getElem hi')
    have eu : its.toArray[i] = u := by
      have h1 : i < its.length := by simpa using hi
      rw [List.getElem?_eq_getElem h1] at hu
      simpa using Option.some.inj hu
    rw [eu]
    obtain ⟨_, J, _⟩ := ins_get I1.hok (s1 _ _ ha)
    obtain ⟨od, J, _⟩ := J.look
    have fin : ∀ r s2, (∃ z H', Inv X pins σ H' s2 ∧ RelV z r ∧ z = .bl false ∧ Same H1 H' ∧ neqs X.K C P (.ref a) (xs.drop (i + 1)) H' fun H'' => Q (.bl true) H'') → ∃ c, r = Value.bool c ∧ c = false ∧ ∃ H', Inv X pins σ H' s2 ∧ Same H H' ∧ neqs X.K C P (.ref a) (xs.drop (i + 1)) H' fun H'' => Q (.bl true) H'' := fun r s2 z => by
      obtain ⟨z, H2, I2, rz, rfl, s2', ne2⟩ := z
      exact ⟨false, rz, rfl, H2, I2, s1.trans s2', ne2⟩
    rcases ne with ⟨hv, sp⟩ | ⟨⟨b, dy, gs, hv, hb2⟩, hd, sp⟩
    · have call : wpAny (model X.prog X.w) X.A.in1 (call (.ref f) [.ref a, u]) (fun r s2 => ∃ c, r = Value.bool c ∧ c = false ∧ ∃ H', Inv X pins σ H' s2 ∧ Same H H' ∧ neqs X.K C P (.ref a) (xs.drop (i + 1)) H' fun H'' => Q (.bl true) H'') X.xe s' :=
        wpAny_mono (run_at (us := [.ref a, u]) (vs := [.ref a, _]) F hb sb.in1 I1 (.cons rfl (.cons ru .nil)) sp) (fun r s2 z => fin r s2 z) fun _ _ e => e
      have hu1 := sb.in1.room.units0
      rcases hv with hv | ⟨p, ys, hv, hy⟩
      · rw [hv] at ru
        cases (show u = Value.none from ru)
        exact eqBool_non (refl_K (T := "NoneType") (y := .none) hu1 I1.kIn J k (show s'.TypeIs .none "NoneType" from rfl) rfl k.hN (fun Q' h => non_dec h) (wpAny_mono call (fun _ _ z => let ⟨c, e, q⟩ := z; ⟨c, e, c, rfl, q⟩) fun _ _ e => e))
      · rw [hv] at ru
        cases (show u = Value.ref p from ru)
        obtain ⟨its2, _, ⟨o, n2, g2, c2, _, _⟩, _⟩ := I1.list hy
        have ne : p ≠ a := fun e => by
          subst e
          have := J.at_
          rw [g2] at this
          cases this
          have := J.cls
          rw [c2] at this
          cases this
        have tl : s'.TypeIs (.ref p) "list" := ⟨o, g2, c2⟩
        exact GQ.eqBool_refG ne (refl_K (T := "list") hu1 I1.kIn J k tl rfl k.hl (fun Q' h => list_dec I1.kIn J k tl h) (wpAny_mono call (fun _ _ z => let ⟨c, e, q⟩ := z; ⟨c, e, c, rfl, q⟩) fun _ _ e => e))
    · rw [hv] at ru
      cases (show u = Value.ref b from ru)
      have ne : b ≠ a := fun e => hd X pins σ s' rfl I1 (by rw [hv, e])
      rw [hv] at sp
      obtain ⟨_, J2, _⟩ := ins_get I1.hok hb2
      obtain ⟨od2, J2, _⟩ := J2.look
      obtain ⟨m', fr⟩ := I1.fr
      refine GQ.eqBool_refG ne (PySem.W.cmp_K (op := .Eq) (tb := .ref C) sb.in1.room.units0 fr I1.ok.mod.kin J2 J.type (by simp [PySem.W.notFirst]) k.he k.hf ?_)
      refine wpAny_mono (run_at (us := [.ref b, .ref a]) (vs := [.ref b, .ref a]) F hb sb.in1 I1 (.cons rfl (.cons rfl .nil)) sp) (fun r s2 z => ?_) fun _ _ e => e
      obtain ⟨c, rfl, z2⟩ := fin r s2 z
      exact ⟨c, rfl, z2⟩
  · obtain ⟨H1, I1, s1, ne⟩ := z
    rw [List.drop_length] at ne
    exact ⟨.bl true, H1, I1, rfl, ne⟩
end
/-! ### .. over data -/
inductive Df : D → D → Prop
  | int {i j : Int} (h : i ≠ j) : Df (.int i) (.int j)
  | nonl {d : D} (h : d.isNon = false) : Df .non d
  | nonr {d : D} (h : d.isNon = false) : Df d .non
  | tup {ds es : List D} {i : Nat} {x y : D} (h1 : ds[i]? = some x) (h2 : es[i]? = some y) (h : Df x y) : Df (.tup ds) (.tup es)
  | fld {C C' : Addr} {gs hs : List (Str × D)} {f : Str} {x y : D} (h1 : gs.lookup f = some x) (h2 : hs.lookup f = some y) (h : Df x y) : Df (.obj C gs) (.obj C' hs)
theorem Df.no {X : Cx} {pins : List (Addr × Obj)} {σ : L2.St} {H B : Hp} {s : Shared} (I : Inv X pins σ H s) (sm : Same B H) {d e : D} (h : Df d e) : ∀ v, Dr X.K B v d → Dr X.K B v e → False := by
  induction h with
  | int h =>
    intro v h1 h2
    cases h1
    cases h2
    exact h rfl
  | nonl h =>
    intro v h1 h2
    cases h1
    cases h2
    cases h
  | nonr h =>
    intro v h1 h2
    cases h2
    cases h1
    cases h
  | tup k1 k2 _ ih =>
    intro v h1 h2
    cases h1 with
    | tup a1 a2 =>
      cases h2 with
      | tup b1 b2 =>
        have e := I.tuple_inj (Same.sqT sm a1) (Same.sqT sm b1)
        subst e
        obtain ⟨u, g1, g2⟩ := a2.get k1
        obtain ⟨u2, g3, g4⟩ := b2.get k2
        rw [g1] at g3
        cases g3
        exact ih u g2 g4
  | fld k1 k2 _ ih =>
    intro v h1 h2
    cases h1 with
    | obj a1 a2 =>
      cases h2 with
      | obj b1 b2 =>
        rw [a1] at b1
        cases b1
        obtain ⟨u, g1, g2⟩ := a2.look k1
        obtain ⟨u2, g3, g4⟩ := b2.look k2
        rw [g1] at g3
        cases g3
        exact ih u g2 g4
section
variable {K : PySem.W.Frag} {W : WX} {B B' : Hp} {H H' : Hp}
def qOwn2 (C : Addr) (P : Pm) (g : Bool → Bool) : D → D → (D → Prop) → Prop := fun x y Ψ => ∃ gs hs, x = .obj C gs ∧ y = .obj C hs ∧ P (pus [x, y]) X0 fun d _ => ∃ c, d = .bl c ∧ Ψ (.bl (g c))
instance ro_own2 {C : Addr} {P : Pm} {g : Bool → Bool} : RfO K (rOwn2 K C P g) (qOwn2 C P g) where
  run := fun B H x y dx dy Q Ψ s hx hy h po => by
    obtain ⟨gs, hs, rfl, rfl, h⟩ := h
    cases hx with
    | obj a1 a2 =>
      cases hy with
      | obj b1 b2 =>
        refine ⟨_, _, _, _, _, _, rfl, rfl, s _ _ a1, s _ _ b1, sp_pure (ds := [.obj C gs, .obj C hs]) s (.cons (.obj a1 a2) (.cons (.obj b1 b2) .nil)) rfl h fun v d B' H' al sm dr q => ?_⟩
        obtain ⟨c, rfl, q⟩ := q
        cases dr
        exact ⟨c, rfl, po _ _ _ _ al sm (.bl _) q⟩
end
end Dx
namespace Dx
open PySem PySem.Spec L2
/-- isinstance(e, C), C a class of the text -/
structure InsK (K : PySem.W.Frag) (C : Addr) : Prop where
  cl : Cls K C
  ha : PySem.W.findIn K (.ref C) "__class__" = some (some (.builtin "object.__class__"))
  hn : PySem.W.specialIn K (.builtin "object.__class__") "__get__" = some (some (.builtin "getset_descriptor.__get__"))
  tk : PySem.W.takesIn K (.builtin "object.__class__") = some true
  hm : PySem.W.mroIn K C (.type "object") = some true
def Isi (K : PySem.W.Frag) (C : Addr) (d : D) (b : Bool) : Prop := (∃ n, d.ty = some n ∧ PySem.W.kitOne K (.type n) (.ref C) = some b) ∨ ∃ C' gs, d = .obj C' gs ∧ InsK K C' ∧ PySem.W.kitOne K (.ref C') (.ref C) = some b
def pIsi (K : PySem.W.Frag) (C : Addr) (pa : PEx) : PEx := fun ρ Ξ Φ => pa ρ Ξ fun d ρ1 => ∃ b, Isi K C d b ∧ Φ (.bl b) ρ1
section
variable {K : PySem.W.Frag} {W : WX} {B B' : Hp} {H H' : Hp}
theorem Dr.tyX {v : V} {d : D} {n : String} (s : Same B H) (h : Dr K B v d) (e : d.ty = some n) : TyX K H v (.type n) := by
  cases h with
  | non => cases e; exact .base .non
  | bl b => cases e; exact .base (.bl b)
  | int i => cases e; exact .base (.int i)
  | str x => cases e; exact .base (.str x)
  | tup h1 h2 =>
    cases e
    rcases Same.sqT s h1 with (h | ⟨o, h⟩) | ⟨o, its, n, h, c, _⟩
    · exact .base (.tup h)
    · exact .fTuple h
    · exact .kTuple h c
  | lst h1 h2 => cases e; exact .base (.lst (s _ _ h1))
  | sql h1 h2 =>
    cases e
    rcases s.seq h1 with (h | ⟨o, h⟩) | ⟨o, its, n, h, c, _⟩
    · exact .base (.lst h)
    · exact .base (.frz h)
    · exact .kList h c
  | dic h1 h2 => cases e; exact .base (.dK (s _ _ h1))
  | obj h1 h2 => cases e
  | raw a => cases e
  | trk h1 h2 => cases e
  | exc0 a C => cases e
  | exc h1 h2 => cases e
instance (priority := high) rf_isi {C : Addr} {ta : TE} {pa : PEx} [ha : RfE K W ta pa] : RfE K W (tCB (rIsi K) (tCons ta (tCons (tC (.ref C)) tNil))) (pIsi K C pa) where
  run := fun Γ B ρ σ H Q Ξ Φ r xo h po => ha.run Γ B ρ σ H _ Ξ _ r xo h fun v d B1 H1 ρ1 r1 s1 dr hq => by
    obtain ⟨b, i, q⟩ := hq
    refine ⟨v, .ref C, ?_⟩
    rcases i with ⟨n, e, k⟩ | ⟨C', gs, rfl, k0, k⟩
    · exact ⟨.type n, .ref C, b, rfl, .own C, dr.tyX r1.bh e, k, po _ _ _ _ _ r1 s1 (.bl b) q⟩
    · cases dr with
      | obj h1 h2 => exact ⟨.ref C', .ref C, b, rfl, .own C, .base (.ins (r1.bh _ _ h1) k0.cl k0.ha k0.hn k0.tk k0.hm), k, po _ _ _ _ _ r1 s1 (.bl b) q⟩
end
theorem call_isiK {X : Cx} {K : PySem.W.Frag} (h : X.K = K := by rfl) : CallR X (.builtin "isinstance") (rIsi K) := h ▸ call_isi
end Dx
set_option Elab.async false
set_option linter.all false
set_option maxRecDepth 100000
set_option maxHeartbeats 4000000
set_option autoImplicit false
/-! Dx12: defs that return a new thing, to be changed by the caller; clear() of a new list. -/
namespace Dx
open PySem L2
abbrev PmF := Ab → (OC → Ab → Prop) → Prop
def spF (K : PySem.W.Frag) (n : Nat) (P : PmF) : Sp := fun vs H Q E => ∃ (J : Hp → Prop) (B : Hp) (ρ : Ab) (Φ : OC → Ab → Prop), ρ.length = n ∧ Rl K (gaOf B H ρ vs J) B ρ (vs.map some) H ∧ P ρ Φ ∧
  ∀ a o c B' H' ρ', Fin K (gaOf B H ρ vs J) B' ρ' H' → B' a = none → H a = none → H' a = some o → OCr K B' c o → Φ c ρ' → Q (.ref a) H'
theorem spF_len {K : PySem.W.Frag} {n : Nat} {P : PmF} {vs : List V} {H : Hp} {Q : VK} {E : XK} (h : spF K n P vs H Q E) : vs.length = n := by
  obtain ⟨J, B, ρ, Φ, h1, h2, _⟩ := h
  have := h2.len
  rw [List.length_map] at this
  omega
section
variable {K : PySem.W.Frag} {W : WX} {Γ : Ga} {B B' : Hp} {ρ : Ab} {σ : L2.St} {H H' : Hp}
def bodyF (pf : PFx) (P : PmF) (m : Nat) : Prop := ∀ ρ Φ, P ρ Φ → pf (ρ ++ List.replicate m none) X0 Φ
theorem body_runF {te : TE} {pf : PFx} {n : Nat} {P : PmF} {N : List Str} {vs : List V} {Q : VK} {E : XK} (ht : RfF K W0 te pf) (h : spF K n P vs H Q E) (hb : bodyF pf P (N.length - n)) : tRet te { nx := fun _ H' => Q .non H', rt := Q } (L2.start N vs) H := by
  have hl := spF_len h
  obtain ⟨J, B, ρ, Φ, h1, h2, h3, h4⟩ := h
  have e : L2.start N vs = vs.map some ++ List.replicate (N.length - n) none := by unfold L2.start; rw [hl]
  rw [e]
  exact ht.run _ B (ρ ++ List.replicate (N.length - n) none) _ H Q X0 Φ (h2.more _) xat0 (hb ρ Φ h3) fun a o c B' H' ρ' r s f ha oc q => h4 a o c B' H' ρ' r.fin f.b f.g ha oc q
theorem callF_sp {n : Nat} {P : PmF} {Q : VK} {E : XK} {Φ : OC → Ab → Prop} {vs : List V} {as : List Ar} (r : Rl K Γ B ρ σ H) (h : ArsOk K B ρ σ vs as) (hn : as.length = n) (nd : (slots as).Nodup)
    (hp : P (as.map (slOf ρ)) fun c ρc => Φ c (back ρ as ρc)) (po : PoF K Γ B σ Q Φ) : spF K n P vs H Q E :=
  ⟨Γ.J, B, as.map (slOf ρ), _, by rw [List.length_map]; exact hn, call_start r h nd, hp, fun a o c B1 H1 ρ1 f ba ha h1 oc q => by
    have r1 := call_end r h nd f
    refine po a o c B1 H1 _ r1 f.bb ⟨ba, r.dm a ha, ?_, fun j p e z w => ?_⟩ h1 oc q
    · cases q : Γ.hid a with
      | none => rfl
      | some o => rw [(r.hd a o q).1] at ha; cases ha
    · have own : ∃ p' e', ρ[j]? = some (some (.ow p' e')) := by
        rcases back_get nd z with ⟨_, y⟩ | ⟨_, p', c', _, _, y, _⟩
        · exact ⟨_, _, y⟩
        · exact ⟨_, _, y⟩
      obtain ⟨p', e', y⟩ := own
      obtain ⟨x, u, g1, g2, _⟩ := r.ow j p' e' y
      rw [w] at g1
      cases g1
      rw [ha] at g2
      cases g2⟩
def pCallF (n : Nat) (P : PmF) (pa : PAx) : PFx := fun ρ Ξ Φ => pa ρ Ξ fun as ρ1 => as.length = n ∧ (slots as).Nodup ∧ P (as.map (slOf ρ1)) fun c ρc => Φ c (back ρ1 as ρc)
theorem PoF.mono {Q : VK} {Φ : OC → Ab → Prop} (h : PoF K Γ B σ Q Φ) (s : Same B B') : PoF K Γ B' σ Q Φ := fun a o c B1 H1 ρ1 r s1 => h a o c B1 H1 ρ1 r (s.trans s1)
instance rff_call {n : Nat} {P : PmF} {ta : TA} {pa : PAx} [ha : RfA K W ta pa] : RfF K W (tCall (spF K n P) [] (fun _ _ _ => False) ta) (pCallF n P pa) where
  run := fun Γ B ρ σ H Q Ξ Φ r xo h po => ha.run Γ B ρ σ H _ Ξ _ r xo h fun vs as B1 H1 ρ1 r1 s1 aso hq => by
    obtain ⟨hn, nd, hq⟩ := hq
    rw [List.append_nil]
    exact callF_sp r1 aso hn nd hq (po.mono s1)
def pMethF (C : Addr) (m : Str) (n : Nat) (P : PmF) (po : PEx) (pa : PAx) : PFx := fun ρ Ξ Φ => po ρ Ξ fun o ρ1 => ∃ gs, o = .obj C gs ∧ gs.lookup m = none ∧ pa ρ1 Ξ fun as ρ2 => as.length + 1 = n ∧ (slots as).Nodup ∧
  P (some (.pu o) :: as.map (slOf ρ2)) fun c ρc => Φ c (back ρ2 (.pu o :: as) ρc)
instance rff_meth {C : Addr} {m : Str} {n : Nat} {P : PmF} {to : TE} {ta : TA} {po : PEx} {pa : PAx} [ho : RfE K W to po] [ha : RfA K W ta pa] : RfF K W (tMeth C m (spF K n P) [] (fun _ _ _ => False) to ta) (pMethF C m n P po pa) where
  run := fun Γ B ρ σ H Q Ξ Φ r xo h pos => ho.run Γ B ρ σ H _ Ξ _ r xo h fun v d B1 H1 ρ1 r1 s1 dr hq => by
    obtain ⟨gs, rfl, hl, hq⟩ := hq
    cases dr with
    | obj h1 h2 =>
      refine ⟨_, _, _, rfl, r1.bh _ _ h1, h2.lookN hl, ha.run Γ B1 ρ1 σ H1 _ Ξ _ r1 (xo.mono s1) hq fun vs as B2 H2 ρ2 r2 s2 aso hq2 => ?_⟩
      obtain ⟨hn, nd, hq2⟩ := hq2
      rw [List.append_nil]
      exact callF_sp (as := .pu (.obj C gs) :: as) r2 (.cons (.obj (s2 _ _ h1) (h2.mono s2)) aso) hn nd hq2 (pos.mono (s1.trans s2))
/-- a list that nothing of one's own holds is changed -/
theorem Rl.touch {a : Addr} {xs : List V} {o : HO} (r : Rl K Γ B ρ σ H) (f : Fre Γ B ρ σ a) (ha : H a = some (.lst xs)) : Rl K Γ B ρ σ (upd H a o) where
  bh := fun b u e => by rw [upd_ne (fun z => by subst z; rw [f.b] at e; cases e)]; exact r.bh b u e
  bb := r.bb
  fr := fun b u e n nm => by rw [upd_ne (fun z => by subst z; rw [f.g] at e; cases e)]; exact r.fr b u e n nm
  nb := r.nb
  dm := fun b e => by
    by_cases q : b = a
    · subst q; exact f.g
    · rw [upd_ne q] at e; exact r.dm b e
  hd := fun b u e => by
    obtain ⟨h1, h2⟩ := r.hd b u e
    exact ⟨by rw [upd_ne (fun z => by subst z; rw [f.h] at e; cases e)]; exact h1, h2⟩
  len := r.len
  pu := r.pu
  ow := fun i p c e => by
    obtain ⟨x, u, g1, g2, g3⟩ := r.ow i p c e
    have : x ≠ a := fun z => by subst z; exact f.s i p c e g1
    exact ⟨x, u, g1, by rw [upd_ne this]; exact g2, g3⟩
  ne := r.ne
  st := r.st
  jj := r.st _ _ (fun b u e n1 n2 n3 n4 => by
    by_cases q : b = a
    · subst q
      rw [ha] at e
      exact absurd (Option.some.inj e).symm (n1 xs)
    · rw [upd_ne q]; exact e) r.jj
  mm := r.mm.write (r.mm.ok.no ha fun _ z => nomatch z)
/-- list(e), as a new list -/
def pListF (pa : PAx) : PFx := fun ρ Ξ Φ => pa ρ Ξ fun as ρ1 => ∃ ds, as = ds.map .pu ∧ ∃ d es, ds = [d] ∧ d.items = some es ∧ Φ (.lst es) ρ1
instance rff_listOf {ta : TA} {pa : PAx} [ha : RfA K W ta pa] : RfF K W (tCB (fun xs H Q => ∃ p ys, xs = [.ref p] ∧ (SqL K H p ys ∨ SqT K H p ys) ∧ ∀ l, H l = none → Q (.ref l) (upd H l (.lst ys))) ta) (pListF pa) where
  run := fun Γ B ρ σ H Q Ξ Φ r xo h po => ha.run Γ B ρ σ H _ Ξ _ r xo h fun vs as B1 H1 ρ1 r1 s1 aso hq => by
    obtain ⟨ds, rfl, d, es, rfl, e, hq⟩ := hq
    obtain ⟨v, rfl, h1⟩ := (ArsOk.pure (ds := [d]) aso).one
    obtain ⟨a, xs, rfl, h2, h3⟩ := h1.items_inv e
    exact ⟨a, xs, rfl, h2.imp r1.bh.seq (Same.sqT r1.bh), fun p hp => po.new r1 s1 hp (.lst h3) hq⟩
def pDropClr (pf : PFx) : PSx := fun Δ ρ => pf ρ Δ.ex fun c ρ1 => (∃ ds, c = .lst ds) ∧ Δ.nx ρ1
instance (priority := high) rs_dropClr {te : TE} {pf : PFx} [hf : RfF K W te pf] : RfS K W (tDrop (tBM0 K "list" rClear te)) (pDropClr pf) where
  run := fun Γ B ρ σ H E Δ r sim h => hf.run Γ B ρ σ H _ Δ.ex _ r (sim.ex.at _) h fun a o c B1 H1 ρ1 r1 s1 f ha oc hq => by
    obtain ⟨⟨ds, rfl⟩, hq⟩ := hq
    obtain ⟨xs, rfl, _⟩ := oc.lst_inv
    exact ⟨.inl ⟨rfl, _, SqL.of ha⟩, a, xs, rfl, rfl, ha, sim.nx _ _ _ _ (r1.touch f ha) s1 hq⟩
end
section
variable {P : Program} {w : World} {K : PySem.W.Frag} {mg : Str → Option Value} {base : Heap}
open PyProof.Rows (envOfC) in
/-- a def that returns a new thing -/
theorem okF {x qual : Str} {st : Stmt} {f : Addr} {fd : FuncData} {N ps : List Str} {k : Nat} {Pw : PmF} (F : Fun K x qual st f fd) (S : FnScope N ps (defScope st))
    (hb : ∀ (cdv : Value) (A : Around) (outer : List Env) (s : Shared) (H : Hp) (E : XK), Room k (A.deeper (envOfC qual (defScope st) s.heap.objs.size f cdv)) →
      ∃ t, PSs (cxOf CX0 P w K mg base N qual (defScope st) f cdv A outer s H E).nox (defBody st) (tRet t) ∧ ∃ p, RfF K W0 t p ∧ bodyF p Pw (N.length - ps.length)) : FnOk P w K mg base CX0 (k + 1) f fd ps (spF K ps.length Pw) :=
  F.ok S (fun vs H Q E h => spF_len h) fun cdv A outer s H vs Q E hr h => by
    obtain ⟨t, h1, p, h2, h3⟩ := hb cdv A outer s H E hr
    exact ⟨tRet t, h1, body_runF h2 h h3⟩
end
end Dx
set_option Elab.async false
set_option linter.all false
set_option maxRecDepth 100000
set_option maxHeartbeats 4000000
set_option autoImplicit false
/-! Dx13: sorted(set(xs)), xs a list of ints. -/
namespace DxS
open PySem PyProof.Rows
abbrev nsO (led : Bool) : Obj := { cls := .type "set", dict := none, data := .set #[] 0 (.fresh 0 0 led) }
abbrev inM (f : Nat → Int) (i : Nat) : Int → Bool := fun k => (firstMet f i).any (· == k)
section
variable {prog : Program} {w : World} {A : Around} {R : Result → Shared → Prop} {I : Addr} {fp wr : List Addr} {G : Array GenState → Array GenState → Prop} {n : Nat} {P : Nat → Value → Prop} {St : Nat → Shared → Prop}
theorem cgR {h : Heap} {a : Addr} {S S' : Int → Bool} {m m' : Nat} (r : L2.SetR w h a S m) (e : S = S') (e2 : m = m') : L2.SetR w h a S' m' := e2 ▸ e ▸ r
theorem fillR (W : WalksS prog w A.in1 I fp wr G n P St) (z : Addr) (zf : z ∉ fp) (f : Nat → Int) (hf : ∀ i v, P i v → ∃ t, v = .int (f i) t) (hb : n + 1 < scanBound) (j : Nat) :
    ∀ (i : Nat) (s : Shared), n - i = j → i ≤ n → St i s → L2.SetR w s.heap z (inM f i) (firstMet f i).length →
      (∀ s', Moved (z :: wr) G s s' → L2.SetR w s'.heap z (inM f n) (firstMet f n).length → R (.ok (.ret .none)) s') → codeAny (model prog w) A (.builtin "set.update.loop" ⟨[.ref z, .ref I], []⟩) R s := by
  have zw : z ∉ wr := fun q => zf (W.sub _ q)
  have sb : ∀ b ∈ wr, b ∈ z :: wr := fun b q => List.mem_cons_of_mem _ q
  induction j with
  | zero =>
    intro i s hj hi st r fin
    obtain rfl : i = n := by omega
    refine codeAny_builtin F.entry_set_update_loop ?_
    rw [Around.under_plainId F.plain_set_update_loop _]
    show wpAny _ A.in1 (pyNext (.ref I) >>= _) _ _ s
    exact wpAny_bind (W.done s _ _ st fun s' m => show wpAny _ A.in1 (ret Value.none) _ _ s' from wpAny_pure (fin s' (m.mono sb) (r.at fun o q => m.heap z _ zw q)))
  | succ j ih =>
    intro i s hj hi st r fin
    have lt : i < n := by omega
    refine codeAny_builtin F.entry_set_update_loop ?_
    rw [Around.under_plainId F.plain_set_update_loop _]
    show wpAny _ A.in1 (pyNext (.ref I) >>= _) _ _ s
    refine wpAny_bind (W.item i s _ _ lt st fun v s' pv st' m => ?_)
    obtain ⟨t, rfl⟩ := hf i v pv
    have r' := r.at (h' := s'.heap) fun o q => m.heap z _ zw q
    show wpAny _ A.in1 (holding [Value.int (f i) t] (setAdd z (.int (f i) t)) >>= _) _ _ s'
    refine wpAny_bind (wpAny_holding ?_)
    unfold setAdd
    refine wpAny_holding (wpAny_bind ((intKind prog w).pyHash (k := f i) (intKind_is _ _ _ _) ?_))
    have room : (firstMet f i).length + 1 < scanBound := Nat.lt_of_le_of_lt (Nat.succ_le_succ (firstMet_length_le f i)) (by omega)
    refine L2.setR_add_hashed (P := prog) (s := { s' with toks := s'.toks + 1 }) r' room fun h' u r2 => ?_
    have r3 : L2.SetR w h' z (inM f (i + 1)) (firstMet f (i + 1)).length :=
      cgR r2 (funext fun k => by show _ = (firstMet f (i + 1)).any (· == k); rw [firstMet_succ, step_any]) (by rw [firstMet_succ, step_length])
    refine wpAny_pure ⟨plainId_quiet F.plain_set_update_loop _, ih (i + 1) _ (by omega) lt (W.frame _ s' _ _ st' (Nat.le_succ _) fun b hb o e => ?_) r3 fun s'' m2 q => ?_⟩
    · rw [u.2 b fun x : b = z => zf (x ▸ hb)]
      exact e
    · refine fin s'' (Moved.trans W.gtrans ((m.mono sb).then_heap (Nat.le_succ _) fun b o hb e => ?_) m2) q
      rw [u.2 b fun x : b = z => hb (x ▸ List.mem_cons_self)]
      exact e
end
section
variable {prog : Program} {w : World} {A : Around} {E : Value → Shared → Prop} {s : Shared}
theorem newR (a : Value) {Q₁ : Value → Shared → Prop} (h : Q₁ (.ref s.heap.objs.size) { s with heap := s.heap.push (nsO (!w.params.followText "set-order")) }) :
    codeAny (model prog w) A (.call (.builtin "set.__new__") ⟨[.type "set", a], []⟩) (wants Q₁ E) s := by
  refine codeAny_of_tree ?_
  show wpAny _ A.in1 (do checkBuiltinCall "set.__new__" ⟨[.type "set", a], []⟩; again (.builtin "set.__new__" ⟨[.type "set", a], []⟩)) _ _ s
  refine wpAny_bind (wpAny_of_eq (PySem.F.newCall_set_1 a) (wpAny_pure ⟨plainId_quiet PySem.F.plain_set_new _, codeAny_builtin PySem.F.entry_set_new ?_⟩))
  rw [Around.under_plainId PySem.F.plain_set_new _]
  unfold Builtin.«set.__new__» Builtin.Frozenset.newClass
  have x1 := sub_set_self
  obtain ⟨hp, g, d, tk, os⟩ := s
  dsimp only
  wp_walk
  refine wpAny_askSetting (wpAny_pure ?_)
  dsimp only
  simp only [newObj]
  exact wpAny_bind (wpAny_alloc (wpAny_pure (wpAny_pure h)))
theorem setListR {l : Addr} {its : Array Value} {ns : List Int} {Q : Value → Shared → Prop} (hh : A.handled = none) (hl : s.heap.IsList l its) (hi : IntsAre its.toList ns) (hb : its.size + 1 < scanBound)
    (k : ∀ (h' : Heap) (tk : Nat), L2.SetR w h' s.heap.objs.size (inM (fun i => ns.getD i 0) its.size) (firstMet (fun i => ns.getD i 0) its.size).length → (∀ b o, b < s.heap.objs.size → s.heap.get? b = some o → h'.get? b = some o) → Q (.ref s.heap.objs.size) { s with heap := h', toks := tk }) :
    wpAny (model prog w) A (call (.type "set") [.ref l]) Q E s := by
  obtain ⟨c, tl, y1⟩ := PySem.F.called_set.mro
  have y2 := PySem.F.called_set.made
  have y3 := PySem.F.called_set.sub
  refine wpAny_call (codeAny_of_tree (show wpAny _ _ (callAny (.type "set") _) _ _ _ from wpAny_pure ⟨Code.quiet_builtin _ (by decide +kernel), codeAny_builtin PySem.F.entry_type_call ?_⟩))
  rw [Around.under_plain (weight_type_call_type "set" [.ref l] []) rfl]
  have y4 := PySem.F.called_set.notType
  have y5 := PySem.F.called_set.canCreate
  have y6 := PySem.F.typeCall_set_1 (.ref l)
  repeat (any_goals (first | assumption | wp_step))
  refine codeAny_mono (newR (.ref l) (E := E) (Q₁ := fun u t => u = .ref s.heap.objs.size ∧ t = { s with heap := s.heap.push (nsO (!w.params.followText "set-order")) }) ⟨rfl, rfl⟩) fun r t hr => ?_
  cases r with
  | error e => exact hr
  | ok fl =>
    cases fl with
    | ret u =>
      obtain ⟨rfl, rfl⟩ := hr
      have hS : (s.heap.push (nsO (!w.params.followText "set-order"))).get? s.heap.objs.size = some (nsO (!w.params.followText "set-order")) := Heap.get?_push_size _ rfl
      have hT : Shared.TypeIs { s with heap := s.heap.push (nsO (!w.params.followText "set-order")) } (.ref s.heap.objs.size) "set" := ⟨_, hS, rfl⟩
      have y7 := PySem.F.called_set.init.lookup
      have y8 := PySem.F.called_set.init.bind (.ref s.heap.objs.size)
      repeat (any_goals (first | assumption | wp_step))
      refine codeAny_mono (codeAny_call_builtin (R := wants (fun r t => r = .none ∧ ∃ h' tk, t = { s with heap := h', toks := tk } ∧ L2.SetR w h' s.heap.objs.size (inM (fun i => ns.getD i 0) its.size) (firstMet (fun i => ns.getD i 0) its.size).length ∧
        ∀ b o, b < s.heap.objs.size → s.heap.get? b = some o → h'.get? b = some o) E) PySem.F.called_set.init.plain PySem.F.entry_set_init (check_set_init_1 hT ?_)) fun r2 t2 hr2 => ?_
      · obtain ⟨⟨oc, od, ot, ol⟩, hol, hc, nl, hd⟩ := hl
        simp only at hc hd
        subst hc
        subst hd
        have hol2 : (s.heap.push (nsO (!w.params.followText "set-order"))).get? l = some { cls := .type "list", dict := od, data := .seq its nl, slots := ol } := Heap.get?_push_of_some _ hol
        have x1 := PySem.F.sub_list_set
        have x2 := PySem.F.sub_list_frozenset
        have x3 : (Value.type "list" == Value.type "dict") = false := by decide
        have hl1 : (s.heap.push (nsO (!w.params.followText "set-order"))).IsList l its := ⟨_, hol2, rfl, nl, rfl⟩
        unfold Builtin.«set.__init__» noKeywords Builtin.Frozenset.updateFrom
        generalize hPI : pyIter = PI
        wp_walk
        subst hPI
        refine wpAny_pyIter_list hl1 (wpAny_bind (wpAny_runValue ?_))
        have lS : l < s.heap.objs.size := Heap.lt_size hol
        have h3 : A.in1.in1.in1.handled = none := by simp [hh]
        have sz : (s.heap.push (nsO (!w.params.followText "set-order"))).objs.size = s.heap.objs.size + 1 := Heap.size_push ..
        have ne1 : l ≠ (s.heap.push (nsO (!w.params.followText "set-order"))).objs.size := by
          rw [sz]
          exact Nat.ne_of_lt (Nat.lt_succ_of_lt lS)
        have ne2 : s.heap.objs.size ∉ [(s.heap.push (nsO (!w.params.followText "set-order"))).objs.size, l] := by
          rw [sz]
          simp only [List.mem_cons, List.not_mem_nil, or_false, not_or]
          exact ⟨Nat.ne_of_lt (Nat.lt_succ_self _), Nat.ne_of_gt lS⟩
        refine fillR ((Walks.list h3 _ l ne1 its).toS) s.heap.objs.size ne2 (fun i => ns.getD i 0) (fun i v hv => IntsAre.int_at hi i v (by rw [Array.getElem?_toList]; exact hv)) hb (its.size - 0) 0 _ (by omega) (Nat.zero_le _) ⟨⟨_, Heap.get?_push_size _ rfl, rfl, rfl⟩, hl1.push _⟩ ?_ fun s' m q => ?_
        · exact cgR ((L2.setR_fresh (h := s.heap) w).at fun o q => Heap.get?_push_of_some _ q) rfl rfl
        · obtain ⟨h', g', d', tk', os'⟩ := s'
          obtain rfl : g' = s.gens := m.gens
          obtain rfl : d' = s.drawn := m.drawn
          obtain rfl : os' = s.os := m.os
          show wpAny _ _ _ _ _ _
          refine wpAny_pure (show wpAny _ _ (ret Value.none) _ _ _ from wpAny_pure ⟨rfl, h', tk', rfl, q, fun b o lb e => m.heap b o ?_ (Heap.get?_push_of_some _ (Heap.get?_push_of_some _ e))⟩)
          rw [sz]
          simp only [List.mem_cons, List.not_mem_nil, or_false, not_or]
          exact ⟨Nat.ne_of_lt lb, Nat.ne_of_lt (Nat.lt_succ_of_lt lb)⟩
      · cases r2 with
        | error e => exact hr2
        | ok f2 =>
          cases f2 with
          | ret r =>
            obtain ⟨rfl, h', tk, rfl, q1, q2⟩ := hr2
            repeat (any_goals (first | assumption | wp_step))
            exact k _ _ q1 q2
          | _ => exact hr2.elim
    | _ => exact hr.elim
end
end DxS
set_option Elab.async false
set_option linter.all false
set_option maxRecDepth 100000
set_option maxHeartbeats 4000000
set_option autoImplicit false
/-! Dx14: sorted(set(xs)) as an expression; over data. -/
namespace Dx
open PySem PySem.Spec L2 PyProof.Rows
def tSortSet (K : PySem.W.Frag) (ta : TE) : TE := fun σ H Q => ta σ H fun x H1 => ∃ (l : Addr) (ns : List Int), x = V.ref l ∧ SqL K H1 l (ns.map V.int) ∧ ns.length < 64 ∧
  ∀ (ms : List Int) (p : Addr), ms.Pairwise (· < ·) → (∀ k, k ∈ ms ↔ k ∈ ns) → H1 p = none → Q (.ref p) (upd H1 p (.lst (ms.map V.int)))
theorem any_range {ns : List Int} (k : Int) : (((List.range ns.length).map fun i => ns.getD i 0).any (· == k)) = true ↔ k ∈ ns := by
  rw [List.any_eq_true]
  constructor
  · rintro ⟨x, hx, e⟩
    obtain ⟨i, hi, rfl⟩ := List.mem_map.mp hx
    have hi : i < ns.length := List.mem_range.mp hi
    rw [← beq_iff_eq.mp e, List.getD_eq_getElem?_getD, List.getElem?_eq_getElem hi]
    exact List.getElem_mem hi
  · intro h
    obtain ⟨i, hi, e⟩ := List.getElem_of_mem h
    refine ⟨k, List.mem_map.mpr ⟨i, List.mem_range.mpr hi, ?_⟩, by simp⟩
    rw [List.getD_eq_getElem?_getD, List.getElem?_eq_getElem hi]
    exact e
theorem intsOf_vals {ns : List Int} {us : List Value} (r : Vals (ns.map V.int) us) : PyProof.Rows.IntsAre us ns := r.ints
theorem pe_sortSet {X : Cx} {a : Expr} {ta : TE} {p p2 q pos : Pos} (hg : Gl X "sorted") (hm : X.mg "sorted" = none) (hg2 : Gl X "set") (hm2 : X.mg "set" = none) (ha : PE X a ta) (hc : X.calm = true := by rfl)
    (na : starEach [a] X.env = (false, eval a X.env) :: starEach [] X.env := by rfl) : PE X (.Call (.Name "sorted" p) [.Call (.Name "set" p2) [a] [] q] [] pos) (tSortSet X.K ta) := by
  refine ⟨fun pins s σ H Q I h => ?_⟩
  refine Call_ (ld_blt I hg hm (by decide +kernel : bootBuiltins "sorted" = some (.builtin "sorted")) ?_)
  refine PyProof.Rows.callWith_builtin1 (PyProof.Rows.args_cons ?_ rfl) rfl rfl
  refine Call_ (ld_blt I hg2 hm2 (by decide +kernel : bootBuiltins "set" = some (.type "set")) ?_)
  refine PyProof.Rows.callWith_type1 (PyProof.Rows.args_cons (thn (ha.run pins s σ H _ I h) fun v s1 ⟨x, H1, I1, r1, q1⟩ => PyProof.Rows.args_nil ?_) na) na rfl
  obtain ⟨l, ns, rfl, hq, h64, k⟩ := q1
  cases r1
  obtain ⟨its, r, pl, hz⟩ := I1.list hq
  have hl : its.toArray.size = ns.length := by rw [List.size_toArray, ← r.length, List.length_map]
  refine DxS.setListR (I1.ok.hd hc) pl.isList (ns := ns) (by simpa using r.ints) (by unfold scanBound; omega) fun h' tk hS hk => PyProof.Rows.args_nil ?_
  rw [hl] at hS
  have I2 : Inv X pins σ H1 { s1 with heap := h', toks := tk } := I1.kept fun b o e => hk b o (Heap.lt_size e) e
  have few : (PyProof.Rows.firstMet (fun i => ns.getD i 0) ns.length).length < 64 := Nat.lt_of_le_of_lt (PyProof.Rows.firstMet_length_le _ _) h64
  refine sorted_set hS (I2.ok.hd hc) few fun s' p out c ms hp g o hlt hgo hi hs hm' hle => ?_
  have hlen : (ms.map V.int).length ≤ sizeLine := by rw [List.length_map, hle, sizeLine_eq]; omega
  have hn : H1 p = none := I2.hok.fresh hlt
  have J : Inv X pins σ (upd H1 p (.lst (ms.map V.int))) { ({ s1 with heap := h', toks := tk } : Shared) with heap := s'.heap, gens := s'.gens, drawn := s'.drawn, toks := s'.toks } :=
    I2.call (ch := []) (Un.laid hp hlt hn) (I2.hok.laid hp hlt ⟨hlen, out.toList, c, vals_of_ints hi, hgo⟩) (by rw [g]; exact I2.bare) (fun _ z => nomatch z)
  have e : s' = { s1 with heap := s'.heap, gens := s'.gens, drawn := s'.drawn, toks := s'.toks } := by
    obtain ⟨a1, a2, a3, a4, a5⟩ := s'
    obtain ⟨b1, b2, b3, b4, b5⟩ := s1
    cases o
    rfl
  rw [e]
  refine ⟨.ref p, _, J, rfl, k ms p hs (fun j => ?_) hn⟩
  rw [hm' j]
  show (PyProof.Rows.firstMet (fun i => ns.getD i 0) ns.length).any (· == j) = true ↔ _
  rw [PyProof.Rows.firstMet_any]
  exact any_range j
section
variable {K : PySem.W.Frag} {W : WX}
def pSortSet (pa : PEx) : PFx := fun ρ Ξ Φ => pa ρ Ξ fun d ρ1 => ∃ ns : List Int, d.seq = some (ns.map D.int) ∧ ns.length < 64 ∧ ∀ ms : List Int, ms.Pairwise (· < ·) → (∀ k, k ∈ ms ↔ k ∈ ns) → Φ (.lst (ms.map D.int)) ρ1
theorem DrA.ints_inv {B : Hp} {xs : List V} {ns : List Int} (h : DrA K B xs (ns.map D.int)) : xs = ns.map V.int := by
  induction ns generalizing xs with
  | nil => cases h; rfl
  | cons n ns ih => cases h with | cons h1 h2 => rw [h1.int_inv, ih h2]; rfl
theorem DrA.ints {B : Hp} (ns : List Int) : DrA K B (ns.map V.int) (ns.map D.int) := by
  induction ns with
  | nil => exact .nil
  | cons n ns ih => exact .cons (.int n) ih
instance rff_sortSet {ta : TE} {pa : PEx} [ha : RfE K W ta pa] : RfF K W (tSortSet K ta) (pSortSet pa) where
  run := fun Γ B ρ σ H Q Ξ Φ r xo h po => ha.run Γ B ρ σ H _ Ξ _ r xo h fun v d B1 H1 ρ1 r1 s1 dr hq => by
    obtain ⟨ns, e, h64, k⟩ := hq
    obtain ⟨a, xs, rfl, h1, h2⟩ := dr.seq_inv e
    rw [h2.ints_inv] at h1
    exact ⟨a, ns, rfl, r1.bh.seq h1, h64, fun ms p m1 m2 hp => po.new r1 s1 hp (.lst (DrA.ints ms)) (k ms m1 m2)⟩
end
end Dx
set_option Elab.async false
set_option linter.all false
set_option maxRecDepth 100000
set_option maxHeartbeats 4000000
set_option autoImplicit false
/-! Dx15: xs[::-1]; slices by natural numbers. -/
namespace Dx
open PySem L2
section
variable {K : PySem.W.Frag} {W : WX} {B : Hp}
theorem DrA.rev {xs : List V} {ds : List D} (h : DrA K B xs ds) : DrA K B xs.reverse ds.reverse := by
  induction ds generalizing xs with
  | nil => cases h; exact .nil
  | cons d ds ih =>
    cases h with
    | cons h1 h2 =>
      rw [List.reverse_cons, List.reverse_cons]
      exact (ih h2).append (.cons h1 .nil)
def pRevL (pa : PEx) : PFx := fun ρ Ξ Φ => pa ρ Ξ fun d ρ1 => ∃ ds, d.seq = some ds ∧ Φ (.lst ds.reverse) ρ1
instance rff_rev {ta : TE} {pa : PEx} [ha : RfE K W ta pa] : RfF K W (tRevL K ta) (pRevL pa) where
  run := fun Γ B ρ σ H Q Ξ Φ r xo h po => ha.run Γ B ρ σ H _ Ξ _ r xo h fun v d B1 H1 ρ1 r1 s1 dr hq => by
    obtain ⟨ds, e, hq⟩ := hq
    obtain ⟨a, xs, rfl, h1, h2⟩ := dr.seq_inv e
    exact ⟨a, xs, rfl, r1.bh.seq h1, fun p hp => po.new r1 s1 hp (.lst h2.rev) hq⟩
theorem sIx_some {n k : Nat} {d : Nat} : HT.sIx n d (some (k : Int)) = min k n := HT.sIx_nat n d k
theorem sIx_none {n d : Nat} : HT.sIx n d none = d := rfl
theorem cut_to (xs : List D) (k : Nat) : cutD xs none (some (k : Int)) = xs.take k := by
  unfold cutD
  rw [sIx_some, sIx_none, Nat.sub_zero, List.drop_zero]
  rw [List.take_eq_take_iff]
  omega
theorem cut_from (xs : List D) (k : Nat) : cutD xs (some (k : Int)) none = xs.drop k := by
  unfold cutD
  rw [sIx_some, sIx_none, List.take_of_length_le (by rw [List.length_drop]; omega)]
  rcases Nat.le_total k xs.length with h | h
  · rw [Nat.min_eq_left h]
  · rw [Nat.min_eq_right h, List.drop_length, List.drop_of_length_le h]
theorem cut_one (xs : List D) (k : Nat) : cutD xs (some (k : Int)) (some ((k : Int) + 1)) = (xs.drop k).take 1 := by
  unfold cutD
  rw [show ((k : Int) + 1) = ((k + 1 : Nat) : Int) by omega, sIx_some, sIx_some]
  rcases Nat.lt_or_ge k xs.length with h | h
  · rw [Nat.min_eq_left (by omega), Nat.min_eq_left (by omega)]
    congr 1
    omega
  · rw [Nat.min_eq_right h, List.drop_length, List.drop_of_length_le h, List.take_nil, List.take_nil]
end
end Dx
set_option Elab.async false
set_option linter.all false
set_option maxRecDepth 100000
set_option maxHeartbeats 4000000
set_option autoImplicit false
/-! Dx16: a list of one's own, lent. -/
namespace Dx
open PySem L2
section
variable {K : PySem.W.Frag} {W : WX} {Γ : Ga} {B B' : Hp} {ρ : Ab} {σ : L2.St} {H H' : Hp}
theorem Rl.later (r : Rl K Γ B ρ σ H) (s : Same H H') : Rl K Γ B ρ σ H' where
  bh := r.bh.trans s
  bb := r.bb
  fr := fun b o e n m => s _ _ (r.fr b o e n m)
  nb := r.nb
  dm := fun b e => r.dm b (by
    cases q : H b with
    | none => rfl
    | some o => rw [s b o q] at e; cases e)
  hd := fun b o e => ⟨s _ _ (r.hd b o e).1, (r.hd b o e).2⟩
  len := r.len
  pu := r.pu
  ow := fun i p c e => by
    obtain ⟨a, o, g1, g2, g3⟩ := r.ow i p c e
    exact ⟨a, o, g1, s _ _ g2, g3⟩
  ne := r.ne
  st := r.st
  jj := r.st _ _ (fun b o e _ _ _ _ => s b o e) r.jj
  mm := ⟨r.mm.ok.heap fun m o _ e => s m o e, r.mm.nm, r.mm.hh⟩
/-- the promise of a def that only reads its first argument -/
def lend (P : Pm) : Pm := P
def D.plain : D → Bool
  | .non => true
  | .bl _ => true
  | .int _ => true
  | .str _ => true
  | _ => false
theorem Dr.plain {v : V} {d : D} (h : Dr K B v d) (e : d.plain = true) : Dr K B' v d := by
  cases h with
  | non => exact .non
  | bl b => exact .bl b
  | int i => exact .int i
  | str x => exact .str x
  | _ => cases e
/-- data without instances -/
inductive Pl : D → Prop
  | non : Pl .non
  | bl (b : Bool) : Pl (.bl b)
  | int (i : Int) : Pl (.int i)
  | str (x : Str) : Pl (.str x)
  | tup {ds : List D} (h : ∀ d ∈ ds, Pl d) : Pl (.tup ds)
  | lst {ds : List D} (h : ∀ d ∈ ds, Pl d) : Pl (.lst ds)
  | sql {ds : List D} (h : ∀ d ∈ ds, Pl d) : Pl (.sql ds)
  | dic (es : List (Key × D)) (h : ∀ e ∈ es, Pl e.2) : Pl (.dic es)
/-- the data but for the instances -/
def noIns (B : Hp) : Hp := fun b => match B b with
  | some (.ins _ _ _) => none
  | x => x
theorem noIns_of {B : Hp} {b : Addr} {o : HO} (e : B b = some o) (n : ∀ C dx fs, o ≠ .ins C dx fs) : noIns B b = some o := by
  unfold noIns
  rw [e]
  cases o <;> first | rfl | exact absurd rfl (n _ _ _)
theorem noIns_inv {B : Hp} {b : Addr} {o : HO} (e : noIns B b = some o) : B b = some o ∧ ∀ C dx fs, o ≠ .ins C dx fs := by
  unfold noIns at e
  cases q : B b with
  | none => rw [q] at e; cases e
  | some u =>
    rw [q] at e
    cases u <;> first | (cases e; done) | (cases e; exact ⟨rfl, fun _ _ _ z => nomatch z⟩)
theorem noIns_rd {B : Hp} {b : Addr} {u : HO} (e : Rd B b u) (n : ∀ C dx fs, u ≠ .ins C dx fs) : Rd (noIns B) b u := by
  rcases e with e | ⟨o, e⟩
  · exact .inl (noIns_of e n)
  · exact .inr ⟨o, noIns_of e fun _ _ _ z => nomatch z⟩
theorem noIns_mm {K : PySem.W.Frag} {B H : Hp} : MmOk K (noIns B) H := ⟨fun b C dx fs f v h => absurd rfl ((noIns_inv h).2 C dx fs), fun b C dx fs f b' C' dx' fs' f' m h => absurd rfl ((noIns_inv h).2 C dx fs)⟩
theorem noIns_Mm {B : Hp} {m : Addr} : ¬ Mm (noIns B) m := fun ⟨b, C, dx, fs, f, h, _⟩ => absurd rfl ((noIns_inv h).2 C dx fs)
theorem noIns_arr {K : PySem.W.Frag} {B : Hp} {ds : List D} (ih : ∀ d ∈ ds, ∀ v, Dr K B v d → Dr K (noIns B) v d) : ∀ {vs : List V}, DrA K B vs ds → DrA K (noIns B) vs ds := by
  induction ds with
  | nil => intro vs h; cases h; exact .nil
  | cons d ds ih2 =>
    intro vs h
    cases h with
    | cons h1 h2 => exact .cons (ih d List.mem_cons_self _ h1) (ih2 (fun e he => ih e (List.mem_cons_of_mem _ he)) h2)
theorem Pl.dr {K : PySem.W.Frag} {B : Hp} {d : D} (p : Pl d) : ∀ {v : V}, Dr K B v d → Dr K (noIns B) v d := by
  induction p with
  | non => intro v h; cases h; exact .non
  | bl b => intro v h; cases h; exact .bl b
  | int i => intro v h; cases h; exact .int i
  | str x => intro v h; cases h; exact .str x
  | tup h ih =>
    intro v q
    cases q with
    | tup q1 q2 => exact .tup (q1.imp (fun z => noIns_rd z fun _ _ _ z => nomatch z) id) (noIns_arr (fun d hd v => ih d hd) q2)
  | lst h ih =>
    intro v q
    cases q with
    | lst q1 q2 => exact .lst (noIns_of q1 fun _ _ _ z => nomatch z) (noIns_arr (fun d hd v => ih d hd) q2)
  | sql h ih =>
    intro v q
    cases q with
    | sql q1 q2 => exact .sql (q1.imp (fun z => noIns_rd z fun _ _ _ z => nomatch z) id) (noIns_arr (fun d hd v => ih d hd) q2)
  | dic es h ih =>
    intro v q
    cases q with
    | @dic a kvs es q1 q2 =>
      refine .dic (noIns_of q1 fun _ _ _ z => nomatch z) ?_
      clear q1 h
      induction es generalizing kvs with
      | nil => cases q2; exact .nil
      | cons e es ih2 =>
        cases q2 with
        | cons g1 g2 => exact .cons (ih _ List.mem_cons_self g1) (ih2 (fun e he => ih e (List.mem_cons_of_mem _ he)) g2)
theorem Pl.dra {K : PySem.W.Frag} {B : Hp} {ds : List D} (p : ∀ d ∈ ds, Pl d) {vs : List V} (h : DrA K B vs ds) : DrA K (noIns B) vs ds := noIns_arr (fun d hd v => (p d hd).dr) h
/-- a promise that asks for data without instances -/
class LendOk (P : Pm) : Prop where
  ok : ∀ ds Ξ Φ, P (pus ds) Ξ Φ → ∀ d ∈ ds, Pl d
/-- f(x, ..): x of one's own, lent -/
def pLend (n : Nat) (P : Pm) (i : Nat) (pr : PAx) : PEx := fun ρ Ξ Φ => (∃ d, ρ[i]? = some (some (.pu d)) ∧ pCall0 n P (pCons (pArV i) pr) ρ Ξ Φ) ∨
  (∃ p xs, ρ[i]? = some (some (.ow p (.lst xs))) ∧ pr ρ Ξ fun bs ρ1 => ρ1[i]? = some (some (.ow p (.lst xs))) ∧ ∃ ds, bs = ds.map .pu ∧ ds.length + 1 = n ∧ P (pus (.lst xs :: ds)) X0 fun d _ => d.plain = true ∧ Φ d ρ1)
instance (priority := high) rf_lend {n i : Nat} {P : Pm} {tr : TA} {pr : PAx} [hr : RfA K W tr pr] [lk : LendOk P] : RfE K W (tCall (spD K n (lend P)) [] (fun _ _ _ => False) (tCons (tVar i) tr)) (pLend n P i pr) where
  run := fun Γ B ρ σ H Q Ξ Φ r xo h po => by
    rcases h with ⟨d, e, h⟩ | ⟨p, xs, e, h⟩
    · exact (rf_call0 (K := K) (W := W) (n := n) (P := P) (ta := tCons (tVar i) tr) (pa := pCons (pArV i) pr)).run Γ B ρ σ H Q Ξ Φ r xo h po
    · obtain ⟨a, o, g1, g2, g3, _⟩ := r.ow i p _ e
      refine ⟨.ref a, g1, hr.run Γ B ρ σ H _ Ξ _ r xo h fun vs bs B1 H1 ρ1 r1 s1 aso hq => ?_⟩
      obtain ⟨e1, ds, rfl, hn, hq⟩ := hq
      obtain ⟨a', o', k1, k2, k3, k4, _⟩ := r1.ow i p _ e1
      rw [g1] at k1
      cases k1
      obtain ⟨ys, rfl, k5⟩ := k3.lst_inv
      have da := aso.pure
      have n4 : noIns B1 a = none := by
        cases q : noIns B1 a with
        | none => rfl
        | some u => rw [(noIns_inv q).1] at k4; cases k4
      have up : Same (noIns B1) (upd (noIns B1) a (.lst ys)) := Same.upd' n4
      have up2 : Same (upd (noIns B1) a (.lst ys)) H1 := fun b u z => by
        by_cases q : b = a
        · subst q
          rw [upd_same] at z
          rw [← z]
          exact k2
        · rw [upd_ne q] at z
          exact r1.bh b u (noIns_inv z).1
      have pl := lk.ok (.lst xs :: ds) X0 _ hq
      have no : ∀ m, ¬ Mm (upd (noIns B1) a (.lst ys)) m := fun m x => noIns_Mm (mm_upd (o := .lst ys) (fun _ _ _ _ z => nomatch z) x)
      have mm : MmOk K (upd (noIns B1) a (.lst ys)) H1 := noIns_mm.data (o := .lst ys) (fun _ _ _ _ z => nomatch z) n4 noIns_Mm
      have plx : ∀ x ∈ xs, Pl x := by
        have := pl _ List.mem_cons_self
        cases this with
        | lst h => exact h
      rw [List.append_nil]
      refine sp_pure (ds := .lst xs :: ds) (Ψ := fun d => d.plain = true ∧ Φ d ρ1) ⟨up2, mm⟩ (.cons (.lst upd_same ((Pl.dra plx k5).mono up)) ((Pl.dra (fun d hd => pl d (List.mem_cons_of_mem _ hd)) da).mono up)) (by rw [List.length_cons]; exact hn) hq fun v d B' H' al sm dr q => ?_
      exact po v d B1 H' ρ1 (r1.later fun p o e => al.h p o e (no p)) s1 (dr.plain q.1) q.2
/-- tuple(x), x of one's own too -/
def pTupV (i : Nat) : PEx := fun ρ Ξ Φ => ∃ s, ρ[i]? = some (some s) ∧ match s with
  | .pu x => ∃ es, x.items = some es ∧ Φ (.tup es) ρ
  | .ow _ c => ∃ es, c = .lst es ∧ Φ (.tup es) ρ
instance (priority := high) rf_tupV {i : Nat} : RfE K W (tCB (fun xs H Q => ∃ p ys, xs = [.ref p] ∧ ((SqL K H p ys ∧ ∀ l, H l = none → Q (.ref l) (upd H l (.tup ys))) ∨ (SqT K H p ys ∧ Q (.ref p) H))) (tCons (tVar i) tNil)) (pTupV i) where
  run := fun Γ B ρ σ H Q Ξ Φ r xo h po => by
    obtain ⟨s, e, h⟩ := h
    match s, e, h with
    | .pu x, e, h =>
      obtain ⟨es, e2, h⟩ := h
      obtain ⟨v, h1, h2⟩ := r.pu i x e
      refine ⟨v, h1, ?_⟩
      exact (rc_tuple (K := K)).run B H [v] [x] Q (fun d => Φ d ρ) r.sm (.cons h2 .nil) ⟨x, es, rfl, e2, h⟩ fun v3 d3 B3 H3 al s3 dr3 q3 => po v3 d3 B3 H3 ρ (r.al al s3) al.b dr3 q3
    | .ow p c, e, h =>
      obtain ⟨es, rfl, h⟩ := h
      obtain ⟨a, o, g1, g2, g3, _⟩ := r.ow i p _ e
      obtain ⟨ys, rfl, g4⟩ := g3.lst_inv
      refine ⟨.ref a, g1, a, ys, rfl, .inl ⟨SqL.of g2, fun l hl => ?_⟩⟩
      have al := Al.new (K := K) (o := .tup ys) r.bh hl
      exact po (.ref l) (.tup es) _ _ ρ (r.al al (Same.up2 r.bh)) al.b (.tup (SqT.of upd_same) (g4.mono al.b)) h
/-! ### a class called, a list of one's own among the arguments -/
theorem ArsOk.up {vs : List V} {as : List Ar} {ρ' : Ab} (h : ArsOk K B ρ σ vs as) (s : Same B B') (st : ∀ a ∈ as, a.still ρ') : ArsOk K B' ρ' σ vs as := by
  induction h with
  | nil => exact .nil
  | cons h1 h2 ih =>
    rename_i v vs a as
    refine .cons ?_ (ih fun a ha => st a (List.mem_cons_of_mem _ ha))
    have s0 := st a (List.mem_cons_self ..)
    cases a with
    | pu d => exact Dr.mono s h1
    | sl j => exact ⟨h1.1, s0⟩
theorem ArsOk.app {vs ws : List V} {as bs : List Ar} (h : ArsOk K B ρ σ vs as) (g : ArsOk K B ρ σ ws bs) : ArsOk K B ρ σ (vs ++ ws) (as ++ bs) := by
  induction h with
  | nil => exact g
  | cons h1 h2 ih => exact .cons h1 ih
theorem ArsOk.lt {vs : List V} {as : List Ar} {j : Nat} (h : ArsOk K B ρ σ vs as) (hj : j ∈ slots as) : j < ρ.length := by
  induction h with
  | nil => cases hj
  | cons h1 h2 ih =>
    rename_i v vs a as
    cases a with
    | pu d => exact ih hj
    | sl k =>
      rcases List.mem_cons.mp hj with rfl | hj
      · obtain ⟨_, p, c, e⟩ := h1
        exact lt_of_some e
      · exact ih hj
theorem ArsOk.push {vs : List V} {as : List Ar} {y : Option Sl} {z : Option V} (h : ArsOk K B ρ σ vs as) (hl : ρ.length = σ.length) : ArsOk K B (ρ ++ [y]) (σ ++ [z]) vs as := by
  induction h with
  | nil => exact .nil
  | cons h1 h2 ih =>
    rename_i v vs a as
    refine .cons ?_ ih
    cases a with
    | pu d => exact h1
    | sl j =>
      obtain ⟨e1, p, c, e⟩ := h1
      have hj := lt_of_some e
      exact ⟨by rw [List.getElem?_append_left (by omega)]; exact e1, p, c, by rw [List.getElem?_append_left hj]; exact e⟩
theorem back_push {y : Option Sl} : ∀ {as : List Ar} {ρ cs : Ab}, (∀ j ∈ slots as, j < ρ.length) → back (ρ ++ [y]) as cs = back ρ as cs ++ [y]
  | [], _, _, _ => rfl
  | .pu d :: as, ρ, cs, h => back_push (as := as) h
  | .sl j :: as, ρ, cs, h => by
    have hj := h j (List.mem_cons_self ..)
    have key : ∀ x : Option Sl, back ((ρ ++ [y]).set j x) as cs.tail = back (ρ.set j x) as cs.tail ++ [y] := fun x => by
      rw [List.set_append_left _ _ hj]
      exact back_push (as := as) fun k hk => by rw [List.length_set]; exact h k (List.mem_cons_of_mem _ hk)
    unfold back
    rw [List.getElem?_append_left hj]
    generalize ρ[j]? = u
    generalize cs.head? = w
    cases u with
    | none => exact key none
    | some u =>
      cases u with
      | none => exact key none
      | some s =>
        cases s with
        | pu d => exact key none
        | ow p c =>
          cases w with
          | none => exact key none
          | some w =>
            cases w with
            | none => exact key none
            | some t =>
              cases t with
              | pu d => exact key none
              | ow q e =>
                cases q with
                | true => exact key _
                | false => exact key none
theorem back_sl {j : Nat} {as : List Ar} {cs : Ab} {p : Bool} {c e : OC} (h : ρ[j]? = some (some (.ow p c))) (hh : cs.head? = some (some (.ow true e))) : back ρ (.sl j :: as) cs = back (ρ.set j (some (.ow p e))) as cs.tail := by
  conv => lhs; unfold back
  rw [h, hh]
theorem slOf_app {y : Option Sl} {j : Nat} (h : j < ρ.length) : slOf (ρ ++ [y]) (.sl j) = slOf ρ (.sl j) := by
  show (match (ρ ++ [y])[j]? with
    | some (some (.ow _ c)) => some (Sl.ow true c)
    | _ => none) = (match ρ[j]? with
    | some (some (.ow _ c)) => some (Sl.ow true c)
    | _ => none)
  rw [List.getElem?_append_left h]
theorem slOf_push {y : Option Sl} {as : List Ar} (h : ∀ j ∈ slots as, j < ρ.length) : as.map (slOf (ρ ++ [y])) = as.map (slOf ρ) := by
  induction as with
  | nil => rfl
  | cons a as ih =>
    cases a with
    | pu d => rw [List.map_cons, List.map_cons, ih h]; rfl
    | sl j =>
      rw [List.map_cons, List.map_cons, ih fun k hk => h k (List.mem_cons_of_mem _ hk), slOf_app (h j (List.mem_cons_self ..))]
def pMakeO (C : Addr) (n m kk : Nat) (P : Pm) (pa pk : PAx) : PEx := fun ρ Ξ Φ => pa ρ Ξ fun as ρ1 => pk ρ1 Ξ fun bs ρ2 => as.length = n ∧ bs.length = m ∧ kk = n + 1 + m ∧ (slots (as ++ bs)).Nodup ∧ (∀ a ∈ as, a.still ρ2) ∧
  P (some (.ow true (.ins C [])) :: (as ++ bs).map (slOf ρ2)) X0 fun d ρc => d = .non ∧ ∃ gs, ρc.head? = some (some (.ow true (.ins C gs))) ∧ Φ (.obj C gs) (back ρ2 (as ++ bs) ρc.tail)
instance (priority := high) rf_makeO {C : Addr} {n m kk : Nat} {P : Pm} {ta tk : TA} {pa pk : PAx} [ha : RfA K W ta pa] [hk : RfA K W tk pk] : RfE K W (tMakeK C n m (spD K kk P) (fun vs zs => vs ++ zs) (fun _ _ _ => False) ta tk) (pMakeO C n m kk P pa pk) where
  run := fun Γ B ρ σ H Q Ξ Φ r xo h po => ha.run Γ B ρ σ H _ Ξ _ r xo h fun vs as B1 H1 ρ1 r1 s1 aso hq => hk.run Γ B1 ρ1 σ H1 _ Ξ _ r1 (xo.mono s1) hq fun zs bs B2 H2 ρ2 r2 s2 bso hq2 => by
    obtain ⟨hn, hm, hkk, nd0, st0, hp⟩ := hq2
    have ab0 := (aso.up s2 st0).app bso
    refine ⟨by rw [aso.length]; exact hn, by rw [bso.length]; exact hm, fun x dx hx hdx hne => ?_⟩
    have r3 := r2.al (Al.side (K := K) (o := .own x) hdx) (fun b u e => by rw [upd_ne (ne_of_none (r2.bh b u e) hdx)]; exact r2.bh b u e)
    have hx3 : upd H2 dx (.own x) x = none := by rw [upd_ne hne.symm]; exact hx
    have r4 := r3.al (Al.side (K := K) (o := .ins C dx []) hx3) (fun b u e => by rw [upd_ne (ne_of_none (r3.bh b u e) hx3)]; exact r3.bh b u e)
    have r5 := r4.push (c := .ins C []) (r3.fre hx3) upd_same (.ins .nil fun _ _ => rfl)
    have lts : ∀ j ∈ slots (as ++ bs), j < ρ2.length := fun j hj => ab0.lt hj
    have e0 : (ρ2 ++ [some (Sl.ow false (.ins C []))])[ρ2.length]? = some (some (.ow false (.ins C []))) := by rw [List.getElem?_append_right (Nat.le_refl _), Nat.sub_self]; rfl
    have hσ : (σ ++ [some (V.ref x)])[ρ2.length]? = some (some (.ref x)) := by rw [r2.len, List.getElem?_append_right (Nat.le_refl _), Nat.sub_self]; rfl
    have ars : ArsOk K B2 (ρ2 ++ [some (.ow false (.ins C []))]) (σ ++ [some (.ref x)]) (.ref x :: (vs ++ zs)) (.sl ρ2.length :: (as ++ bs)) := .cons ⟨hσ, _, _, e0⟩ (ab0.push r2.len)
    have nd : (slots (.sl ρ2.length :: (as ++ bs))).Nodup := List.nodup_cons.mpr ⟨fun h => Nat.lt_irrefl _ (lts _ h), nd0⟩
    have st := call_start r5 ars nd
    have es1 : (Ar.sl ρ2.length :: (as ++ bs)).map (slOf (ρ2 ++ [some (.ow false (.ins C []))])) = some (.ow true (.ins C [])) :: (as ++ bs).map (slOf ρ2) := by
      rw [List.map_cons, slOf_sl e0, slOf_push lts]
    rw [es1] at st
    refine ⟨Γ.J, B2, some (.ow true (.ins C [])) :: (as ++ bs).map (slOf ρ2), X0, _, ?_, st, hp, fun v d B' H' ρc fi dr q => ?_, fun _ _ _ _ _ _ _ _ z => z⟩
    · rw [List.length_cons, List.length_map, List.length_append]
      omega
    · obtain ⟨rfl, gs, hg, q⟩ := q
      have ce := call_end r5 ars nd (ρc := ρc) (by rw [es1]; exact fi)
      have ey : back (ρ2 ++ [some (.ow false (.ins C []))]) (.sl ρ2.length :: (as ++ bs)) ρc = back ρ2 (as ++ bs) ρc.tail ++ [some (.ow false (.ins C gs))] := by
        rw [back_sl e0 hg, List.set_append_right _ _ (Nat.le_refl _), Nat.sub_self]
        exact back_push lts
      rw [ey] at ce
      have bl : (back ρ2 (as ++ bs) ρc.tail).length = ρ2.length := back_length
      have e1 : (back ρ2 (as ++ bs) ρc.tail ++ [some (Sl.ow false (.ins C gs))])[ρ2.length]? = some (some (.ow false (.ins C gs))) := by rw [List.getElem?_append_right (by omega), bl, Nat.sub_self]; rfl
      obtain ⟨a, o, k1, k2, k3, k4, k5⟩ := ce.freeze e1
      rw [hσ] at k1
      cases k1
      rw [List.set_append_right _ _ (by omega), bl, Nat.sub_self] at k5
      rw [dr.non_inv]
      exact ⟨rfl, po _ _ _ _ _ k5.pop ((s1.trans s2).trans (fi.bb.trans k3)) k4 q⟩
end
end Dx
set_option Elab.async false
set_option linter.all false
set_option maxRecDepth 100000
set_option maxHeartbeats 4000000
set_option autoImplicit false
/-! Dx17: isinstance of a caught error that has fields, or none. -/
namespace DxE
open PySem PySem.Spec PySem.Calls PyProof.Rows PySem.W
section
variable {prog : Program} {w : World} {A : Around} {E : Value → Shared → Prop} {s : Shared} {K : Frag} {x D : Addr} {ox : Obj} {od : Option Obj}
theorem fo_any (k : L2.ExcC K D) : findObj K D od "__class__" = some (.bind (.builtin "getset_descriptor.__get__") (.builtin "object.__class__")) := by
  have hc : (clsIn K D).isSome = true := by
    obtain ⟨cd, hc, _⟩ := any_some k.hd
    rw [hc]
    rfl
  cases od with
  | none => exact findObj_dataN hc k.ha k.hn k.ht
  | some o => exact findObj_data hc k.ha k.hn k.ht
theorem cls_any {Q : Option Value → Shared → Prop} (k : L2.ExcC K D) (X : K.In s.heap) (I : InstAt s.heap x ox D od) (q : Q (some (.ref D)) { s with toks := s.toks + 1 }) : wpAny (model prog w) A (getAttr? (.ref x) "__class__") Q E s := by
  have z0 := fo_any (od := od) k
  obtain ⟨hp, g, d, t, os⟩ := s
  have y0 := I.type (M := model prog w)
  have y1 := looks_findIn (M := model prog w) X k.hg
  have y2 := looks_findIn (M := model prog w) X k.hk
  have y3 := looks_find (M := model prog w) X I z0
  have y4 : Looks (model prog w) hp (isInstance (.ref x) (.type "BaseException")) true := y0.andThen (looks_subIn X k.hs)
  have n1 : (false && onTheHeap (Value.builtin "BaseException.__getattribute__")) = false := rfl
  have n2 : (onTheHeap (Value.ref D) && Value.builtin "BaseException.__getattribute__" == Value.builtin "object.__getattribute__") = false := by
    rw [show (Value.builtin "BaseException.__getattribute__" == Value.builtin "object.__getattribute__") = false by decide +kernel, Bool.and_false]
  unfold getAttr? getAttrBy? getAttrBy
  refine wpAny_bind (wpAny_mkText (wpAny_bind (wpAny_attempt (wpAny_holding (wpAny_bind (y0.at (wpAny_bind (y1.at ?_))))))))
  show wpAny _ _ (if (onTheHeap (Value.ref D) && Value.builtin "BaseException.__getattribute__" == Value.builtin "object.__getattribute__") = true then _ else _) _ _ _
  rw [n2, if_neg Bool.false_ne_true]
  unfold getAttrByItsOwn hookBefore
  refine wpAny_bind ?_
  rw [if_pos (show onTheHeap (Value.ref D) = true from rfl)]
  refine y2.at (wpAny_bind (wpAny_attempt (wpAny_holding ?_)))
  unfold callGetattribute
  rw [n1, if_neg Bool.false_ne_true]
  unfold boundAndCalled
  rw [PySem.F.excAttr_ValueError.ga.bind (.ref x)]
  refine wpAny_bind (wpAny_pure (show wpAny _ _ (call (.builtin "BaseException.__getattribute__") [.ref x, .str "__class__" t]) _ _ _ from wpAny_call (codeAny_call_builtin PySem.F.excAttr_ValueError.ga.plain PySem.F.entry_bexc_ga ?_)))
  refine @check_slot (model prog w) _ _ ⟨hp, g, d, t + 1, os⟩ "BaseException.__getattribute__" "BaseException" "__getattribute__" (.ref x) [.str "__class__" t] [] _ (by decide +kernel) (by decide +kernel) y4 (PySem.F.args_bexc_ga (.ref x) (.str "__class__" t)) ?_
  unfold Builtin.«object.__getattribute__»
  refine wpAny_bind (wpAny_of_eq (a := ((Value.ref x : Value), [Value.str "__class__" t])) (by first | rfl | (simp only [slotArgs]; rfl)) (wpAny_bind (wpAny_pure (wpAny_bind (y0.at (wpAny_bind (y3.at ?_)))))))
  show wpAny _ _ (holding [Value.builtin "object.__class__"] (call (.builtin "getset_descriptor.__get__") [.builtin "object.__class__", .ref x, .ref D]) >>= ret) _ _ _
  refine wpAny_bind (wpAny_holding (wpAny_call (class_get (s := ⟨hp, g, d, t + 1, os⟩) (ox := ox) (od := od) X I k.hm (wpAny_pure ?_))))
  show wpAny _ _ (handedOut (.ref D)) _ _ _
  rw [handedOut_of (v := .ref D) rfl]
  first
    | exact wpAny_pure (wpAny_pure q)
    | exact wpAny_pure q
    | exact wpAny_pure (wpAny_bind (wpAny_pure (wpAny_pure q)))
theorem kit_any (k : L2.ExcC K D) : KitX K (.ref x) (.ref D) fun h => ∃ ox od, InstAt h x ox D od where
  ty := fun _ _ _ ⟨_, _, I⟩ => I.type
  it := fun _ _ X _ => by
    obtain ⟨cd, hc, _⟩ := any_some k.hd
    unfold clsIn at hc
    split at hc
    · rename_i ho
      intro A' Q' E' s' kp q
      unfold isType loadHead
      exact wpAny_bind (wpAny_loadPart (kp _ _ (X _ _ ho)) (wpAny_pure q))
    · cases hc
  ne := fun h tp dd its n sl X htp => by
    obtain ⟨cd, hc, _⟩ := any_some k.hd
    cases q : (Value.ref D == .ref tp) with
    | false => rfl
    | true =>
      have e : D = tp := Value.ref.inj (beq_iff_eq.mp q)
      subst e
      unfold clsIn at hc
      split at hc
      · rename_i ho
        rw [X _ _ ho] at htp
        cases htp
      · cases hc
  ca := fun X ⟨_, _, I⟩ q => cls_any k X I q
end
end DxE
namespace Dx
open PySem PySem.Spec L2 PyProof.Rows
/-- isinstance(e, c), e the caught error at a, with fields or without -/
def rIsX (K : PySem.W.Frag) (a : Addr) (cls : Value) (d : Option Addr) : List V → Hp → VK → Prop := fun xs H Q => ∃ (D : Addr) (c : V) (cv : Value) (b : Bool), cls = .ref D ∧ xs = [.ref a, c] ∧ ExcC K D ∧ (d = none ∨ ∃ dd fs, d = some dd ∧ H dd = some (.xd fs)) ∧ (∀ u, RelV c u → u = cv) ∧ PySem.W.kitOne K (.ref D) cv = some b ∧ Q (.bl b) H
theorem call_isX {X : Cx} {a : Addr} {oe : Obj} {cls : Value} {d : Option Addr} {pn : List (Addr × Obj)} (hz : Zc cls d oe) (hf : ∃ vs, oe.data = .fields vs) : CallR (X.suite a ((a, oe) :: pn)) (.builtin "isinstance") (rIsX X.K a cls d) := by
  intro pins s σ H xs us Q I r h
  obtain ⟨D, c, cv, b, rfl, rfl, C, hd, hcv, e, q⟩ := h
  obtain ⟨u1, u2, rfl, r1, r2⟩ := vals2 r
  cases (show u1 = Value.ref a from r1)
  cases hcv _ r2
  obtain ⟨hget, _⟩ := I.pin (a, oe) (List.mem_append.mpr (.inl List.mem_cons_self))
  obtain ⟨vs, hv⟩ := hf
  obtain ⟨h1, h2⟩ := hz
  have J : ∃ od, PySem.W.InstAt s.heap a oe D od := by
    rcases hd with rfl | ⟨dd, fs, rfl, hH⟩
    · exact ⟨none, hget, h1, by unfold PySem.W.notCls; rw [hv] <;> rfl, by rw [h2]; trivial⟩
    · obtain ⟨mA, hns, _⟩ := (show ObjOk X.prog X.w H s.heap dd (.xd fs) from I.hok dd _ hH)
      obtain ⟨od, ho, _⟩ := lookIn_ns hns
      exact ⟨some od, hget, h1, by unfold PySem.W.notCls; rw [hv] <;> rfl, by rw [h2]; exact ho⟩
  obtain ⟨od, J⟩ := J
  exact PySem.W.kia_one (DxE.kit_any C) I.kIn ⟨oe, od, J⟩ e (fun z => nomatch z) fun tk => ⟨.bl b, H, I.kept (t' := tk) fun _ _ z => z, rfl, q⟩
end Dx
set_option Elab.async false
set_option linter.all false
set_option maxRecDepth 100000
set_option maxHeartbeats 4000000
set_option autoImplicit false
/-! Dx18: try .. except C as e, over data. -/
namespace Dx
open PySem L2
section
variable {K : PySem.W.Frag} {W : WX} {Γ : Ga} {B B' : Hp} {ρ : Ab} {σ : L2.St} {H H' : Hp}
theorem Dr.exc_inv {v : V} {a C : Addr} {d : Option Addr} {gs : List (Str × D)} (h : Dr K B v (.exc a C d gs)) : v = .ref a ∧ ((d = none ∧ gs = []) ∨ ∃ dd fs, d = some dd ∧ B dd = some (.xd fs) ∧ DrF K B fs gs) := by
  cases h with
  | exc0 => exact ⟨rfl, .inl ⟨rfl, rfl⟩⟩
  | exc h1 h2 => exact ⟨rfl, .inr ⟨_, _, rfl, h1, h2⟩⟩
/-- isinstance(e, C') -/
def pIsX (K : PySem.W.Frag) (a : Addr) (cls : Value) (d : Option Addr) (cv : Value) (i : Nat) : PEx := fun ρ Ξ Φ => ∃ D gs b, ρ[i]? = some (some (.pu (.exc a D d gs))) ∧ cls = .ref D ∧ ExcC K D ∧ PySem.W.kitOne K (.ref D) cv = some b ∧ Φ (.bl b) ρ
theorem isX_run {a : Addr} {cls : Value} {d : Option Addr} {i : Nat} {c : V} {cv : Value} (one : ∀ u, RelV c u → u = cv) : RfE K W (tCB (rIsX K a cls d) (tCons (tVar i) (tCons (tC c) tNil))) (pIsX K a cls d cv i) where
  run := fun Γ B ρ σ H Q Ξ Φ r xo h po => by
    obtain ⟨D, gs, b, e, ec, k1, k2, q⟩ := h
    obtain ⟨v, h1, h2⟩ := r.pu i _ e
    obtain ⟨rfl, h3⟩ := h2.exc_inv
    refine ⟨.ref a, h1, D, c, cv, b, ec, rfl, k1, ?_, one, k2, po _ _ _ _ _ r (Same.refl _) (.bl b) q⟩
    rcases h3 with ⟨e, _⟩ | ⟨dd, fs, e, h4, _⟩
    · exact .inl e
    · exact .inr ⟨dd, fs, e, r.bh _ _ h4⟩
instance (priority := high) rf_isX {a : Addr} {cls : Value} {d : Option Addr} {i : Nat} {C : Addr} : RfE K W (tCB (rIsX K a cls d) (tCons (tVar i) (tCons (tC (.ref C)) tNil))) (pIsX K a cls d (.ref C) i) := isX_run fun _ r => r
instance (priority := high) rf_isXty {a : Addr} {cls : Value} {d : Option Addr} {i : Nat} {n : String} : RfE K W (tCB (rIsX K a cls d) (tCons (tVar i) (tCons (tC (.ty n)) tNil))) (pIsX K a cls d (.type n) i) := isX_run fun _ r => r
/-- e.f -/
def pXf (a : Addr) (cls : Value) (d : Option Addr) (C : Addr) (f : Str) (i : Nat) : PEx := fun ρ Ξ Φ => ∃ gs e, ρ[i]? = some (some (.pu (.exc a C d gs))) ∧ cls = .ref C ∧ gs.lookup f = some e ∧ Φ e ρ
instance (priority := high) rf_xf {a C : Addr} {cls : Value} {d : Option Addr} {f : Str} {i : Nat} : RfE K W (tXf a cls d C f (tVar i)) (pXf a cls d C f i) where
  run := fun Γ B ρ σ H Q Ξ Φ r xo h po => by
    obtain ⟨gs, x, e, ec, l, q⟩ := h
    obtain ⟨v, h1, h2⟩ := r.pu i _ e
    obtain ⟨rfl, h3⟩ := h2.exc_inv
    rcases h3 with ⟨_, rfl⟩ | ⟨dd, fs, ed, h4, h5⟩
    · cases l
    · obtain ⟨u, k1, k2⟩ := h5.look l
      exact ⟨.ref a, h1, rfl, ec, dd, fs, u, ed, r.bh _ _ h4, k1, po _ _ _ _ _ r (Same.refl _) k2 q⟩
theorem Rl.forget2 (r : Rl K Γ B ρ σ H) (i : Nat) : Rl K Γ B (ρ.set i none) (σ.set i none) H := by
  have q := r.forget i
  have g : ∀ (j : Nat) (x : Sl), (ρ.set i none)[j]? = some (some x) → (σ.set i none)[j]? = σ[j]? := fun j x e => by
    refine List.getElem?_set_ne fun z => ?_
    subst z
    rw [List.getElem?_set] at e
    split at e
    · split at e <;> cases e
    · rename_i z
      exact z rfl
  refine ⟨q.bh, q.bb, q.fr, q.nb, q.dm, q.hd, by rw [List.length_set, List.length_set]; exact r.len, fun j d e => ?_, fun j p c e => ?_, fun j k p p2 c c2 h1 h2 h3 => ?_, q.st, q.jj, q.mm⟩
  · rw [g j _ e]
    exact q.pu j d e
  · rw [g j _ e]
    exact q.ow j p c e
  · rw [g j _ h1, g k _ h2] at h3
    exact q.ne j k p p2 c c2 h1 h2 h3
/-- a caught error becomes data -/
theorem Rl.caught {od : Option Addr} {gs : List (Str × D)} {i : Nat} {a C : Addr} (r : Rl K Γ B ρ σ H) (x : XDat K B H Γ.H Γ.hid od gs) : ∃ B', Rl K Γ B' (ρ.set i (some (.pu (.exc a C od gs)))) (σ.set i (some (.ref a))) H ∧ Same B B' := by
  rcases x with ⟨rfl, rfl⟩ | ⟨dd, fs, rfl, h1, ⟨h2, h3⟩, h4⟩
  · exact ⟨B, r.set (.exc0 a C), Same.refl _⟩
  · cases q : B dd with
    | some o =>
      have e := r.bh _ _ q
      rw [h1] at e
      cases e
      exact ⟨B, r.set (.exc q h4), Same.refl _⟩
    | none =>
      have s : Same B (upd B dd (.xd fs)) := Same.upd' q
      refine ⟨upd B dd (.xd fs), Rl.set ⟨fun b u e => ?_, r.bb.trans s, r.fr, fun b u e => ?_, r.dm, fun b u e => ?_, r.len, fun j d e => ?_, fun j p c e => ?_, r.ne, r.st, r.jj, r.mm.data (fun _ _ _ _ z => nomatch z) q (r.mm.ok.no h1 fun _ z => nomatch z)⟩ (.exc upd_same (h4.mono s)), s⟩
      · by_cases hb : b = dd
        · subst hb
          rw [upd_same] at e
          rw [← e]
          exact h1
        · rw [upd_ne hb] at e
          exact r.bh b u e
      · by_cases hb : b = dd
        · subst hb
          exact .inr h2
        · rw [upd_ne hb] at e
          exact r.nb b u e
      · obtain ⟨g1, g2⟩ := r.hd b u e
        exact ⟨g1, by rw [upd_ne (fun z => by subst z; rw [h3] at e; cases e)]; exact g2⟩
      · obtain ⟨v, g1, g2⟩ := r.pu j d e
        exact ⟨v, g1, g2.mono s⟩
      · obtain ⟨y, u, g1, g2, g3, g4, g5⟩ := r.ow j p c e
        refine ⟨y, u, g1, g2, g3.mono s, ?_, g5⟩
        have : y ≠ dd := fun z => by
          subst z
          rw [h1] at g2
          cases g2
          rcases g3.plain with ⟨_, e⟩ | ⟨_, e⟩ | ⟨_, _, _, e⟩ <;> cases e
        rw [upd_ne this]
        exact g4
def sufEn (i : Nat) (Δ : PEn) : PEn := { nx := fun ρ2 => Δ.nx (ρ2.set i none), rt := Δ.rt, bk := fun ρ2 => Δ.bk (ρ2.set i none), ct := fun ρ2 => Δ.ct (ρ2.set i none), ex := X0 }
def tryEx (K : PySem.W.Frag) (c : Value) (i : Nat) (ps : Addr → Value → Option Addr → PSx) (Δ : PEn) : XD := fun C gs ρ' => ∃ b, PySem.W.exmOne K (.ref C) c = some b ∧
  (b = true → ∀ a d, ps a (.ref C) d (sufEn i Δ) (ρ'.set i (some (.pu (.exc a C d gs))))) ∧ (b = false → Δ.ex C gs ρ')
def pTryAs (K : PySem.W.Frag) (c : Value) (i : Nat) (pb : PSx) (ps : Addr → Value → Option Addr → PSx) : PSx := fun Δ ρ => pb { Δ with ex := tryEx K c i ps Δ } ρ
instance rs_tryAs {c : Value} {i : Nat} {tb : WX → TS} {ts : Addr → Value → Option Addr → TS} {pb : PSx} {ps : Addr → Value → Option Addr → PSx} [hb : ∀ W', RfS K W' (tb W') pb] [hs : ∀ a cls d, RfS K W0 (ts a cls d) (ps a cls d)] :
    RfS K W (fun D σ H => tb (wAs K c i ts W D) D σ H) (pTryAs K c i pb ps) where
  run := fun Γ B ρ σ H E Δ r sim h => (hb (wAs K c i ts W E)).run Γ B ρ σ H E { Δ with ex := tryEx K c i ps Δ } r ⟨sim.nx, sim.rt, sim.bk, sim.ct, fun B' ρ' σ' H' C od gs r' s' x q => by
    obtain ⟨b, e, q1, q2⟩ := q
    refine ⟨b, e, fun hb a ha => ?_, fun hb => sim.ex B' ρ' σ' H' C od gs r' s' x (q2 hb)⟩
    obtain ⟨B2, r2, s2⟩ := r'.caught (i := i) (a := a) (C := C) x
    exact (hs a (.ref C) od).run Γ B2 _ _ H' _ (sufEn i Δ) r2 ⟨fun B3 ρ3 σ3 H3 r3 s3 z => sim.nx B3 _ _ H3 (r3.forget2 i) ((s'.trans s2).trans s3) z, fun v d B3 ρ3 σ3 H3 r3 s3 dr z => sim.rt v d B3 ρ3 σ3 H3 r3 ((s'.trans s2).trans s3) dr z, fun B3 ρ3 σ3 H3 r3 s3 z => sim.bk B3 _ _ H3 (r3.forget2 i) ((s'.trans s2).trans s3) z, fun B3 ρ3 σ3 H3 r3 s3 z => sim.ct B3 _ _ H3 (r3.forget2 i) ((s'.trans s2).trans s3) z, xok0⟩ (q1 hb a od)⟩ h
end
end Dx
set_option Elab.async false
set_option linter.all false
set_option maxRecDepth 100000
set_option maxHeartbeats 4000000
set_option autoImplicit false
/-! Dx19: count and index of flat items. -/
namespace Dx
open PySem PySem.Spec L2 PyProof.Rows
def eqU (y : V) (u : Value) : Bool := match absV u with
  | some x => eqV x y
  | none => false
theorem eqU_rel {x y : V} {u : Value} (r : RelV x u) : eqU y u = eqV x y := by
  unfold eqU
  rw [r.abs]
theorem eqU_count {y : V} : ∀ {xs : List V} {us : List Value}, Vals xs us → us.countP (eqU y) = xs.countP (fun x => eqV x y)
  | _, _, .nil => rfl
  | x :: xs, u :: us, .cons r t => by
    rw [List.countP_cons, List.countP_cons, eqU_count t, eqU_rel r]
/-- xs.count(y), flat items -/
def rCntF (K : PySem.W.Frag) : V → List V → Hp → VK → Prop := fun x xs H Q => ∃ (p : Addr) (ys : List V) (y : V), x = .ref p ∧ xs = [y] ∧ SqL K H p ys ∧ flatV y = true ∧ ys.all flatV = true ∧ Q (.int (ys.countP (fun x => eqV x y) : Nat)) H
theorem mt_countF {X : Cx} : MtR X "list.count" (rCntF X.K) := by
  intro pins s σ H x xs v us Q I rx rxs h
  obtain ⟨p, ys, y, rfl, rfl, hs, fy, fys, q⟩ := h
  cases rx
  obtain ⟨u, rfl, ru⟩ := rxs.one
  obtain ⟨its, rv, ⟨⟨cls, dd, data, sl⟩, n, ho, hc, hdn, hd⟩, hlen⟩ := I.list hs
  simp only at hc hd
  subst hc
  subst hd
  have each : ∀ z ∈ its.toArray, SeqAt.EqAt X.A.in1 s z u (eqU y z) := fun z hz => by
    obtain ⟨j, hj⟩ := List.mem_iff_getElem?.mp (show z ∈ its by simpa using hz)
    have hlt : j < ys.length := by
      rw [rv.length]
      exact (List.getElem?_eq_some_iff.mp hj).1
    obtain ⟨z', hz', rz⟩ := rv.get (List.getElem?_eq_getElem hlt)
    rw [hj] at hz'
    cases hz'
    rw [eqU_rel rz]
    exact eqAt_V rz ru (List.all_eq_true.mp fys _ (List.getElem_mem hlt)) fy
  refine call_meets PySem.F.slot_list_count ⟨_, ho, rfl⟩ PySem.F.entry_list_count (PySem.F.args_list_count_2 _ _) (SeqAt.list_countAt p its.toArray n dd sl u (eqU y)) ⟨ho, each, ?_⟩
  refine ⟨.int (ys.countP (fun x => eqV x y) : Nat), H, I.tok _, ⟨s.toks, ?_⟩, q⟩
  show Value.int ((its.toArray.toList.countP (eqU y) : Nat) : Int) s.toks = Value.int ((ys.countP (fun x => eqV x y) : Nat) : Int) s.toks
  rw [show its.toArray.toList = its from rfl, eqU_count rv]
section
variable {K : PySem.W.Frag} {W : WX}
theorem cnt_bls (bs : List Bool) : (bs.map V.bl).countP (fun x => eqV x (.bl true)) = bs.count true := by
  induction bs with
  | nil => rfl
  | cons b bs ih =>
    rw [List.map_cons, List.countP_cons, List.count_cons, ih]
    cases b <;> rfl
theorem flat_bls (bs : List Bool) : (bs.map V.bl).all flatV = true := by
  rw [List.all_map]
  exact List.all_eq_true.mpr fun _ _ => rfl
/-- xs.count(True), xs truths -/
def pCntT (i : Nat) : PEx := fun ρ Ξ Φ => ∃ d bs, ρ[i]? = some (some (.pu d)) ∧ d.seq = some (Dx.bls bs) ∧ Φ (.int (bs.count true : Nat)) ρ
instance (priority := high) rf_cntT {i : Nat} : RfE K W (tBM K "list" (rCntF K) (tVar i) (tCons (tC (.bl true)) tNil)) (pCntT i) where
  run := fun Γ B ρ σ H Q Ξ Φ r xo h po => by
    obtain ⟨d, bs, e, e2, q⟩ := h
    obtain ⟨v, h1, h2⟩ := r.pu i _ e
    obtain ⟨a, ys, rfl, h3, h4⟩ := h2.seq_inv e2
    rw [h4.bls] at h3
    refine ⟨.ref a, h1, .inl ⟨rfl, _, r.bh.seq h3⟩, a, _, .bl true, rfl, rfl, r.bh.seq h3, rfl, flat_bls bs, ?_⟩
    rw [cnt_bls]
    exact po _ _ _ _ _ r (Same.refl _) (.int _) q
/-- xs.index(True), xs truths, j the first that is -/
def pIdxT (i : Nat) : PEx := fun ρ Ξ Φ => ∃ d bs j, ρ[i]? = some (some (.pu d)) ∧ d.seq = some (Dx.bls bs) ∧ bs[j]? = some true ∧ (∀ m, m < j → bs[m]? = some false) ∧ Φ (.int (j : Nat)) ρ
instance (priority := high) rf_idxT {i : Nat} : RfE K W (tBM K "list" (rIndex K) (tVar i) (tCons (tC (.bl true)) tNil)) (pIdxT i) where
  run := fun Γ B ρ σ H Q Ξ Φ r xo h po => by
    obtain ⟨d, bs, j, e, e2, e3, e4, q⟩ := h
    obtain ⟨v, h1, h2⟩ := r.pu i _ e
    obtain ⟨a, ys, rfl, h3, h4⟩ := h2.seq_inv e2
    rw [h4.bls] at h3
    refine ⟨.ref a, h1, .inl ⟨rfl, _, r.bh.seq h3⟩, a, _, .bl true, j, .bl true, rfl, rfl, r.bh.seq h3, rfl, flat_bls bs, ?_, rfl, fun m z' hm hz => ?_, po _ _ _ _ _ r (Same.refl _) (.int _) q⟩
    · rw [List.getElem?_map, e3]
      rfl
    · rw [List.getElem?_map, e4 m hm] at hz
      cases hz
      rfl
end
end Dx
set_option Elab.async false
set_option linter.all false
set_option maxRecDepth 100000
set_option maxHeartbeats 4000000
set_option autoImplicit false
/-! Dx20: repr of data, where no guard stands around (A.guards = some []). -/
namespace Dx
open PySem PySem.Spec L2 PyProof.Rows
def rRepr (K : PySem.W.Frag) : List V → Hp → VK → Prop := fun xs H Q => ∃ x d, xs = [x] ∧ Dp K H x d ∧ d.showable = true ∧ d.hasDict = false ∧ d.depth ≤ 64 ∧ d.shown.length ≤ sizeLine ∧ Q (.str d.shown) H
theorem call_reprD {X : Cx} (hg : X.A.guards = some []) (hu : X.A.units + 100 < cLine) : CallR X (.builtin "repr") (rRepr X.K) := by
  intro pins s σ H xs us Q I r h
  obtain ⟨x, d, rfl, dp, hs, hn, hd, hz, q⟩ := h
  obtain ⟨u, rfl, ru⟩ := vals1 r
  obtain ⟨as, rd⟩ := Dp.reads I d x u dp ru
  cases u with
  | ref a => exact repr_of_reads' rd hs (fun e => by rw [hn] at e; cases e) hg (by omega) (fun _ _ e => e) (fun h' t tk hk => ⟨.str d.shown, H, I.kept hk, ⟨t, rfl⟩, q⟩) hz
  | none =>
    cases rd
    exact PySem.P.repr_of_none ⟨.str _, H, I.tok _, ⟨_, rfl⟩, q⟩
  | bool b =>
    cases rd
    exact PySem.P.repr_of_bool ⟨.str _, H, I.tok _, ⟨_, rfl⟩, q⟩
  | int i t =>
    cases rd
    exact PySem.P.repr_of_int (of_decide_eq_true hs) ⟨.str _, H, I.tok _, ⟨_, rfl⟩, q⟩
  | str y t =>
    cases rd
    exact PySem.P.repr_of_str ⟨.str _, H, I.tok _, ⟨_, rfl⟩, q⟩ hz
  | _ => cases rd
section
variable {K : PySem.W.Frag} {B H : Hp}
/-- repr(x), x told -/
instance rc_repr : RfC K (rRepr K) (fun ds Ψ => ∃ n d, ds = [d] ∧ Shp n d ∧ d.py.showable = true ∧ d.py.hasDict = false ∧ d.py.depth ≤ 64 ∧ d.py.shown.length ≤ sizeLine ∧ Ψ (.str d.py.shown)) where
  run := fun B H xs ds Q Ψ s da h po => by
    obtain ⟨n, d, rfl, sh, h1, h2, h3, h4, q⟩ := h
    obtain ⟨v, rfl, dr⟩ := da.one
    exact ⟨v, d.py, rfl, sh.dp s v dr, h1, h2, h3, h4, po _ _ _ _ (Al.refl (K := K) B H) s (.str _) q⟩
end
section
variable {X : Cx} {K : PySem.W.Frag}
theorem call_reprK (hg : X.A.guards = some []) (hu : X.A.units + 100 < cLine) (h : X.K = K := by rfl) : CallR X (.builtin "repr") (rRepr K) := h ▸ call_reprD hg hu
theorem call_isXK {a : Addr} {oe : Obj} {cls : Value} {d : Option Addr} {pn : List (Addr × Obj)} (hz : Zc cls d oe) (hf : ∃ vs, oe.data = .fields vs) (h : X.K = K := by rfl) : CallR (X.suite a ((a, oe) :: pn)) (.builtin "isinstance") (rIsX K a cls d) := h ▸ call_isX hz hf
theorem mt_countK (h : X.K = K := by rfl) : MtR X "list.count" (rCntF K) := h ▸ mt_countF
theorem mt_indexK (h : X.K = K := by rfl) : MtR X "list.index" (rIndex K) := h ▸ mt_index
theorem pe_bmK {o e : Expr} {es : List Expr} {to : TE} {t : TA} {name : Str} {apos cpos : Pos} {T id : String} {r : V → List V → Hp → VK → Prop} (pa : PlainAttrs T) (slot : Slot T name id) (hty : typeOf (.builtin id) = pure (.type "method_descriptor")) (hm : MtR X id r) (ho : PE X o to) (ha : PA X (e :: es) t)
    (hbase : attributeBase o name X.env (eval o X.env) = eval o X.env := by rfl) (hfew : ((backTo cpos (starEach (e :: es) X.env)).all (fun x => !x.1) && (backToKw cpos (keywordEach [] X.env)).all (fun x => x.1.isSome) && decide ((e :: es).length + ([] : List Keyword).length + (if ([] : List Keyword).isEmpty then 0 else 1) < 30)) = true := by rfl)
    (hline : (apos.endLine == cpos.line) = true := by rfl) (hs : starEach (e :: es) X.env = (false, eval e X.env) :: starEach es X.env := by rfl) (hplain : (backTo cpos (starEach es X.env)).any (·.1) = false := by rfl) (h : X.K = K := by rfl) : PE X (.Call (.Attribute o name apos) (e :: es) [] cpos) (tBM K T r to t) :=
  h ▸ pe_bm pa slot hty hm ho ha hbase hfew hline hs hplain
end
end Dx
set_option Elab.async false
set_option linter.all false
set_option maxRecDepth 100000
set_option maxHeartbeats 4000000
set_option autoImplicit false
/-! Ey1: further readings over data: assert, ranges as lists and tuples, stars, in, fields and methods of one's own instance, +=, clear, lcm. -/
namespace Dx
open PySem PySem.Spec PyProof.Rows L2 StX
section
variable {K : PySem.W.Frag} {W : WX} {Γ : Ga} {B B' : Hp} {ρ : Ab} {σ : L2.St} {H H' : Hp}
def pAssert (pt : PTx) : PSx := fun Δ ρ => pt ρ Δ.ex fun b ρ1 => b = true ∧ Δ.nx ρ1
instance rs_assert {tc : TT} {pt : PTx} [hc : RfT K W tc pt] : RfS K W (tAssert tc) (pAssert pt) where
  run := fun Γ B ρ σ H E Δ r sim h => hc.run Γ B ρ σ H _ Δ.ex _ r (sim.ex.at _) h fun b B1 H1 ρ1 r1 s1 hq => ⟨hq.1, sim.nx _ _ _ _ r1 s1 hq.2⟩
/-! ### ranges as lists, as tuples -/
theorem dra_map {α : Type} (l : List α) (f : α → V) (g : α → D) (h : ∀ x ∈ l, Dr K B (f x) (g x)) : DrA K B (l.map f) (l.map g) := by
  induction l with
  | nil => exact .nil
  | cons x l ih => exact .cons (h x List.mem_cons_self) (ih fun y hy => h y (List.mem_cons_of_mem _ hy))
theorem dra_rg {a b : Int} : DrA K B (rgV a b) (rngD a (b - a).toNat) := dra_map _ _ _ fun i _ => .int _
def pRgN (pa : PEx) (Ψ : List D → Ab → Prop) (ρ : Ab) (Ξ : XD) : Prop := pa ρ Ξ fun d ρ1 => ∃ n : Int, d = .int n ∧ 0 ≤ n ∧ n ≤ 100000 ∧ Ψ (rngD 0 n.toNat) ρ1
theorem sub0 (n : Int) : (n - 0).toNat = n.toNat := by rw [Int.sub_zero]
instance rf_tupRg {ta : TE} {pa : PEx} [ha : RfE K W ta pa] : RfE K W (tTupRg (tRg1 ta)) (fun ρ Ξ Φ => pRgN pa (fun ds ρ1 => Φ (.tup ds) ρ1) ρ Ξ) where
  run := fun Γ B ρ σ H Q Ξ Φ r xo h po => ha.run Γ B ρ σ H _ Ξ _ r xo h fun v d B1 H1 ρ1 r1 s1 dr hq => by
    obtain ⟨n, rfl, h0, h1, hq⟩ := hq
    refine ⟨n, dr.int_inv, RgOk.of_le (by omega) (by omega) (by omega) (by omega), fun p hp => ?_⟩
    have al := Al.new (K := K) (o := .tup (rgV 0 n)) r1.bh hp
    have da : DrA K (upd B1 p (.tup (rgV 0 n))) (rgV 0 n) (rngD 0 (n - 0).toNat) := dra_rg
    rw [sub0] at da
    exact po _ _ _ _ _ (r1.al al (Same.up2 r1.bh)) (s1.trans al.b) (.tup (SqT.of upd_same) da) hq
instance rff_lstRg {ta : TE} {pa : PEx} [ha : RfE K W ta pa] : RfF K W (tLstRg (tRg1 ta)) (fun ρ Ξ Φ => pRgN pa (fun ds ρ1 => Φ (.lst ds) ρ1) ρ Ξ) where
  run := fun Γ B ρ σ H Q Ξ Φ r xo h po => ha.run Γ B ρ σ H _ Ξ _ r xo h fun v d B1 H1 ρ1 r1 s1 dr hq => by
    obtain ⟨n, rfl, h0, h1, hq⟩ := hq
    refine ⟨n, dr.int_inv, RgOk.of_le (by omega) (by omega) (by omega) (by omega), fun p hp => ?_⟩
    have da : DrA K B1 (rgV 0 n) (rngD 0 (n - 0).toNat) := dra_rg
    rw [sub0] at da
    exact po.new r1 s1 hp (.lst da) hq
/-! ### stars in displays -/
theorem ArsOk.append {vs ws : List V} {as bs : List Ar} (h : ArsOk K B ρ σ vs as) (g : ArsOk K B ρ σ ws bs) : ArsOk K B ρ σ (vs ++ ws) (as ++ bs) := by
  induction h with
  | nil => exact g
  | cons h1 h2 ih => exact .cons h1 ih
theorem ArsOk.ofPure {vs : List V} {ds : List D} (h : DrA K B vs ds) : ArsOk K B ρ σ vs (ds.map .pu) := by
  induction ds generalizing vs with
  | nil => cases h; exact .nil
  | cons d ds ih => cases h with | cons h1 h2 => exact .cons h1 (ih h2)
def pStar (pe : PEx) (pr : PAx) : PAx := fun ρ Ξ Φ => pe ρ Ξ fun d ρ1 => ∃ es, d.items = some es ∧ pr ρ1 Ξ fun as ρ2 => Φ (es.map .pu ++ as) ρ2
instance raa_star {te : TE} {tr : TA} {pe : PEx} {pr : PAx} [he : RfE K W te pe] [hr : RfA K W tr pr] : RfA K W (tStar K te tr) (pStar pe pr) where
  run := fun Γ B ρ σ H Q Ξ Φ r xo h po => he.run Γ B ρ σ H _ Ξ _ r xo h fun v d B1 H1 ρ1 r1 s1 dr hq => by
    obtain ⟨es, e, hq⟩ := hq
    obtain ⟨a, xs, rfl, h1, h2⟩ := dr.items_inv e
    refine ⟨a, xs, rfl, (sq_up r1.bh h1).symm, hr.run Γ B1 ρ1 σ H1 _ Ξ _ r1 (xo.mono s1) hq fun vs as B2 H2 ρ2 r2 s2 aso hq2 => ?_⟩
    exact po _ _ _ _ _ r2 (s1.trans s2) ((ArsOk.ofPure (h2.mono s2)).append aso) hq2
/-! ### in, among ints -/
theorem in_ints {i : Int} : ∀ ns : List Int, inV (.int i) (ns.map V.int) = decide (i ∈ ns)
  | [] => by simp [inV]
  | n :: ns => by
    have ih := in_ints (i := i) ns
    unfold inV at ih ⊢
    rw [List.map_cons, List.any_cons, ih]
    show ((n == i) || decide (i ∈ ns)) = decide (i ∈ n :: ns)
    by_cases hn : n = i
    · subst hn; simp
    · have : ¬ i = n := fun z => hn z.symm
      simp [hn, this]
theorem flat_ints (ns : List Int) : (ns.map V.int).all flatV = true := List.all_eq_true.mpr fun x hx => by
  obtain ⟨n, _, rfl⟩ := List.mem_map.mp hx
  rfl
theorem dra_ints_inv {ns : List Int} : ∀ {xs : List V}, DrA K B xs (ns.map D.int) → xs = ns.map V.int := by
  induction ns with
  | nil => intro xs h; cases h; rfl
  | cons n ns ih =>
    intro xs h
    cases h with
    | cons h1 h2 => rw [h1.int_inv, ih h2]; rfl
instance ro_inInts : RfO K (rIn K false) (fun x y Ψ => ∃ i ns, x = .int i ∧ y.items = some (List.map D.int ns) ∧ Ψ (.bl (decide (i ∈ ns)))) where
  run := fun B H x y dx dy Q Ψ s hx hy h po => by
    obtain ⟨i, ns, rfl, e, h⟩ := h
    obtain ⟨a, xs, rfl, h1, h2⟩ := hy.items_inv e
    have ex := dra_ints_inv h2
    subst ex
    rw [hx.int_inv]
    refine ⟨a, _, rfl, sq_up s h1, rfl, flat_ints ns, ?_⟩
    show Q (.bl (inV (.int i) (ns.map V.int))) H
    rw [in_ints]
    exact po _ _ _ _ (Al.refl (K := K) B H) s (.bl _) h
/-! ### fields and methods of an instance that may be one's own -/
def pFldV (K : PySem.W.Frag) (i : Nat) (f : Str) : PEx := fun ρ Ξ Φ => ∃ s, ρ[i]? = some (some s) ∧ match s with
  | .pu d => ∃ C gs e, d = .obj C gs ∧ Cls K C ∧ NoAttr K C f ∧ gs.lookup f = some e ∧ Φ e ρ
  | .ow _ c => ∃ C gs e, c = .ins C gs ∧ Cls K C ∧ NoAttr K C f ∧ gs.lookup f = some e ∧ Φ e ρ
instance (priority := high) rf_fldV {i : Nat} {f : Str} : RfE K W (tFld K (tVar i) f) (pFldV K i f) where
  run := fun Γ B ρ σ H Q Ξ Φ r xo h po => by
    obtain ⟨s, e, h⟩ := h
    match s, e, h with
    | .pu d, e, h =>
      obtain ⟨v, h1, h2⟩ := r.pu i d e
      obtain ⟨C, gs, u, rfl, c, n, l, hq⟩ := h
      cases h2 with
      | obj g1 g2 =>
        obtain ⟨w, h3, h4⟩ := g2.look l
        exact ⟨_, h1, _, C, _, _, w, rfl, r.bh _ _ g1, c, n, h3, po _ _ _ _ _ r (Same.refl _) h4 hq⟩
    | .ow p c, e, h =>
      obtain ⟨C, gs, u, rfl, c, n, l, hq⟩ := h
      obtain ⟨a, o, h1, h2, h3, _⟩ := r.ow i p _ e
      obtain ⟨dx, fs, rfl, g4, nm4⟩ := h3.ins_inv
      obtain ⟨w, h5, h6⟩ := g4.look l
      exact ⟨_, h1, a, C, dx, fs, w, rfl, h2, c, n, h5, po _ _ _ _ _ r (Same.refl _) h6 hq⟩
def pMethV (C : Addr) (m : Str) (n : Nat) (P : Pm) (i : Nat) (pa : PAx) : PEx := fun ρ Ξ Φ => ∃ s, ρ[i]? = some (some s) ∧ match s with
  | .pu o => ∃ gs, o = .obj C gs ∧ gs.lookup m = none ∧ pa ρ Ξ fun as ρ2 => as.length + 1 = n ∧ (slots as).Nodup ∧ P (some (.pu o) :: as.map (slOf ρ2)) X0 fun d ρc => Φ d (back ρ2 (.pu o :: as) ρc)
  | .ow _ c => ∃ gs, c = .ins C gs ∧ gs.lookup m = none ∧ pa ρ Ξ fun as ρ2 => (∃ p, ρ2[i]? = some (some (.ow p (.ins C gs)))) ∧ as.length + 1 = n ∧ (slots (.sl i :: as)).Nodup ∧ P ((Ar.sl i :: as).map (slOf ρ2)) X0 fun d ρc => Φ d (back ρ2 (.sl i :: as) ρc)
instance (priority := high) rf_methV {C : Addr} {m : Str} {n i : Nat} {P : Pm} {ta : TA} {pa : PAx} [ha : RfA K W ta pa] : RfE K W (tMeth C m (spD K n P) [] (fun _ _ _ => False) (tVar i) ta) (pMethV C m n P i pa) where
  run := fun Γ B ρ σ H Q Ξ Φ r xo h po => by
    obtain ⟨s, e, h⟩ := h
    match s, e, h with
    | .pu o, e, h =>
      obtain ⟨v, h1, h2⟩ := r.pu i o e
      obtain ⟨gs, rfl, hl, hq⟩ := h
      cases h2 with
      | obj g1 g2 =>
        refine ⟨_, h1, _, _, _, rfl, r.bh _ _ g1, g2.lookN hl, ha.run Γ B ρ σ H _ Ξ _ r xo hq fun vs as B2 H2 ρ2 r2 s2 aso hq2 => ?_⟩
        obtain ⟨hn, nd, hq2⟩ := hq2
        rw [List.append_nil]
        exact call_sp (Ξ := X0) (as := .pu (.obj C gs) :: as) r2 (.cons (.obj (s2 _ _ g1) (g2.mono s2)) aso) hn nd hq2 (fun _ _ _ _ _ _ _ _ _ z => z) (po.mono s2)
    | .ow p c, e, h =>
      obtain ⟨gs, rfl, hl, hq⟩ := h
      obtain ⟨a, o, h1, h2, h3, _⟩ := r.ow i p _ e
      obtain ⟨dx, fs, rfl, g4, nm4⟩ := h3.ins_inv
      refine ⟨_, h1, a, dx, fs, rfl, h2, g4.lookN hl, ha.run Γ B ρ σ H _ Ξ _ r xo hq fun vs as B2 H2 ρ2 r2 s2 aso hq2 => ?_⟩
      obtain ⟨⟨p2, ei⟩, hn, nd, hq2⟩ := hq2
      rw [List.append_nil]
      exact call_sp (Ξ := X0) (as := .sl i :: as) r2 (.cons ⟨h1, p2, _, ei⟩ aso) hn nd hq2 (fun _ _ _ _ _ _ _ _ _ z => z) (po.mono s2)
/-! ### name += e, ints -/
def pAugI (g : Int → Int → Int) (i : Nat) (pe : PEx) : PSx := fun Δ ρ => ∃ a, ρ[i]? = some (some (.pu (.int a))) ∧ pe ρ Δ.ex fun d ρ1 => ∃ b, d = .int b ∧ Δ.nx (ρ1.set i (some (.pu (.int (g a b)))))
instance rs_augI {g : Int → Int → Int} {i : Nat} {te : TE} {pe : PEx} [he : RfE K W te pe] : RfS K W (tAug i te (ipI g)) (pAugI g i pe) where
  run := fun Γ B ρ σ H E Δ r sim h => by
    obtain ⟨a, e, h⟩ := h
    obtain ⟨v, h1, h2⟩ := r.pu i _ e
    refine ⟨v, h1, he.run Γ B ρ σ H _ Δ.ex _ r (sim.ex.at _) h fun y d B1 H1 ρ1 r1 s1 dr hq => ?_⟩
    obtain ⟨b, rfl, hq⟩ := hq
    exact ⟨a, b, h2.int_inv, dr.int_inv, sim.nx _ _ _ _ (r1.set (.int _)) s1 hq⟩
/-! ### one's own list, cleared -/
def pClrV (i : Nat) : PSx := fun Δ ρ => ∃ p ds, ρ[i]? = some (some (.ow p (.lst ds))) ∧ Δ.nx (ρ.set i (some (.ow p (.lst []))))
instance (priority := high) rs_clrV {i : Nat} : RfS K W (tDrop (tBM0 K "list" rClear (tVar i))) (pClrV i) where
  run := fun Γ B ρ σ H E Δ r sim h => by
    obtain ⟨p, ds, e, hq⟩ := h
    obtain ⟨a, o, h1, h2, h3, _⟩ := r.ow i p _ e
    obtain ⟨xs, rfl, _⟩ := h3.lst_inv
    exact ⟨_, h1, .inl ⟨rfl, _, SqL.of h2⟩, a, xs, rfl, rfl, h2, sim.nx _ _ _ _ (r.write e h1 (.lst .nil)) (Same.refl _) hq⟩
end
/-! ### math.lcm -/
section
variable {X : Cx} {K : PySem.W.Frag}
def rLcm : List V → Hp → VK → Prop := fun vs H Q => ∃ a b : Int, vs = [.int a, .int b] ∧ a.natAbs < 2 ^ 64 ∧ b.natAbs < 2 ^ 64 ∧ Q (.int ((Nat.lcm a.natAbs b.natAbs : Nat) : Int)) H
theorem cr_lcm : CallR X (.builtin "math.lcm") rLcm := by
  intro pins s σ H vs us Q I r h
  obtain ⟨a, b, rfl, h1, h2, q⟩ := h
  obtain ⟨t, u, rfl⟩ := Vals.int2 r
  exact PySem.W.mc_lcm h1 h2 fun _ => ⟨.int _, H, I.tok _, ⟨_, rfl⟩, q⟩
instance rc_lcm : RfC K rLcm (fun ds Ψ => ∃ a b : Int, ds = [.int a, .int b] ∧ a.natAbs < 2 ^ 64 ∧ b.natAbs < 2 ^ 64 ∧ Ψ (.int ((Nat.lcm a.natAbs b.natAbs : Nat) : Int))) where
  run := fun B H xs ds Q Ψ s da h po => by
    obtain ⟨a, b, rfl, h1, h2, h⟩ := h
    obtain ⟨v, u, rfl, d1, d2⟩ := da.two
    exact ⟨a, b, by rw [d1.int_inv, d2.int_inv], h1, h2, po _ _ _ _ (Al.refl (K := K) B H) s (.int _) h⟩
end
end Dx
set_option Elab.async false
set_option linter.all false
set_option maxRecDepth 100000
set_option maxHeartbeats 4000000
set_option autoImplicit false
/-! Ey2: for i, x in enumerate(t), t a tuple; enumerate over data. -/
namespace Dx
open PySem PySem.Spec PyProof.Rows L2
/-- enumerate(v): a new enumerate over a new iterator -/
theorem meets_enum1 {v : Value} {ob : Obj} {F : Heap → Prop} (G : Begins v ob F) :
    Meets (Builtin.«enumerate.__new__» ⟨[.type "enumerate", v], []⟩) (fun _ R s => F s.heap ∧
      R (.ok (.ret (.ref (s.heap.push ob).objs.size))) { s with heap := (s.heap.push ob).push { cls := .type "enumerate", data := .fields #[.none, .bool false, .ref s.heap.objs.size, rawInt 0, .none, .none] } }) :=
  .of_wp fun prog w A R s z => by
    obtain ⟨hp, gs, dr, tk, os⟩ := s; obtain ⟨z1, z⟩ := z
    have hsub := sub_enumerate
    have step : ∀ {A' : Around} {E : Value → Shared → Prop} {Q : Value → Shared → Prop}, Q (.ref hp.objs.size) ⟨hp.push ob, gs, dr, tk, os⟩ → wpAny (model prog w) A' (pyIter v) Q E ⟨hp, gs, dr, tk, os⟩ :=
      fun q => G.iter prog w _ _ ⟨hp, gs, dr, tk, os⟩ _ z1 q
    wp_walk using step
    refine wpAny_stack_any fun st => wpAny_pure ?_
    split
    · rename_i c _ _ _ _ _
      cases (c == Value.type "enumerate")
      · wp_walk using step
        exact ⟨_, rfl, z⟩
      · wp_walk using step
        exact ⟨_, rfl, z⟩
    · wp_walk using step
      exact ⟨_, rfl, z⟩
section
variable {prog : Program} {w : World} {A : Around} {E : Value → Shared → Prop} {s : Shared}
theorem call_enum1 {v : Value} {ob : Obj} {Fh : Heap → Prop} {Q : Value → Shared → Prop} (G : Begins v ob Fh) (z1 : Fh s.heap)
    (k : ∀ h', IsEnum h' (s.heap.objs.size + 1) s.heap.objs.size 0 .none → h'.get? s.heap.objs.size = some ob → (∀ b o, s.heap.get? b = some o → h'.get? b = some o) → Q (.ref (s.heap.objs.size + 1)) { s with heap := h' }) :
    wpAny (model prog w) A (call (.type "enumerate") [v]) Q E s := by
  refine callType_new F.called_enumerate (by decide) (F.typeCall_enumerate_1 _) (F.newCall_enumerate_1 _) (fun obj => F.args_object_init_2 obj _) F.entry_enumerate_new (meets_enum1 G) ⟨z1, ?_⟩
  have sz : (s.heap.push ob).objs.size = s.heap.objs.size + 1 := Heap.size_push ..
  show _ ∧ _
  rw [sz]
  have made : IsEnum ((s.heap.push ob).push { cls := .type "enumerate", data := .fields #[.none, .bool false, .ref s.heap.objs.size, rawInt 0, .none, .none] }) (s.heap.objs.size + 1) s.heap.objs.size 0 .none := by
    have := Heap.get?_push_size (s.heap.push ob) (o := { cls := .type "enumerate", data := .fields #[.none, .bool false, .ref s.heap.objs.size, rawInt 0, .none, .none] }) rfl
    rw [sz] at this; exact this
  exact ⟨⟨_, made, rfl⟩, k _ made (Heap.get?_push_of_some _ (Heap.get?_push_size _ G.free)) fun b o y => Heap.get?_push_of_some _ (Heap.get?_push_of_some _ y)⟩
end
/-- the tuple at a, each item in a new pair with its place -/
def IteT (K : PySem.W.Frag) (a : Addr) : It :=
  ⟨fun i H => ∃ (xs : List V) (x : V), SqT K H a xs ∧ xs[i]? = some x, fun i H v H' => ∃ p x, v = .ref p ∧ H p = none ∧ H' = upd H p (.tup [.int (i : Nat), x]) ∧ ∀ xs, SqT K H a xs → xs[i]? = some x, fun i H => ∃ xs : List V, SqT K H a xs ∧ xs.length ≤ i⟩
theorem turn_enumT {P : Program} {w : World} {K : PySem.W.Frag} {elts : List Expr} {kk : Nat} {tpos : Pos} (a en it : Addr) :
    Turn P w K (.Tuple elts kk tpos) (IteT K a) [en, it] en (fun i h => (∃ old, IsEnum h en it ((i : Nat) : Int) old) ∧ h.IsTupleIter it a i ∧ en ≠ it) where
  mem := by simp
  obj := fun i h st b hb => by
    obtain ⟨⟨old, q1⟩, ⟨o, q2, q3, q4⟩, _⟩ := st
    have eb : b = en ∨ b = it := by simpa using hb
    rcases eb with rfl | rfl
    · exact ⟨_, q1, fun v z => nomatch z⟩
    · exact ⟨o, q2, fun v z => by rw [q4] at z; cases z⟩
  keep := fun i h h' st k => let ⟨⟨old, q1⟩, q2, q3⟩ := st; ⟨⟨old, k en (by simp) _ q1⟩, q2.at fun o z => k it (by simp) o z, q3⟩
  item := by
    intro X eP ew eK calm i pins s σ H E I free st can
    subst eP ew eK
    obtain ⟨⟨old, q1⟩, q2, q3⟩ := st
    obtain ⟨xs, x, sq, hx⟩ := can
    obtain ⟨its, rv, tp, big⟩ := I.tuple sq
    obtain ⟨u, hu, ru⟩ := rv.get hx
    have le : en < s.heap.objs.size := Heap.lt_size q1
    have li : it < s.heap.objs.size := by obtain ⟨_, z, _⟩ := q2; exact Heap.lt_size z
    have na : a ≠ it := fun z => by
      obtain ⟨o1, y1, y2, _⟩ := q2
      obtain ⟨o2, w1, w2, _⟩ := (show s.heap.IsTuple a its.toArray from tp)
      rw [z, y1] at w1
      cases w1
      have w2 := y2.symm.trans w2
      exact absurd w2 (by simp)
    have nea : en ≠ a := fun z => by
      obtain ⟨o2, w1, w2, _⟩ := (show s.heap.IsTuple a its.toArray from tp)
      have q1' : s.heap.get? en = some _ := q1
      rw [z, w1] at q1'
      cases q1'
      exact absurd (show (Value.type "enumerate") = .type "tuple" from w2) (by simp)
    refine wpAny_pyNext_enum_itemD (Draws.tuple (show X.A.in1.handled = none from I.ok.hd calm) it a na its.toArray) q1 ⟨q2, tp⟩ (i := i) (by have := List.getElem?_eq_some_iff.mp hu; simpa using this.1) q3 (by simp [q3, nea]) fun y h1 tk py out st2 made sz kept => ?_
    have ey : y = u := by
      have : some y = some u := py.symm.trans (by simpa using hu)
      exact Option.some.inj this
    subst ey
    refine ⟨_, rfl, wpAny_letOwnedTupleGo_enum (s := { s with heap := h1, toks := tk + 1 }) out fun h2 again sb => ?_⟩
    have at2 : h2.get? s.heap.objs.size = some { cls := .type "tuple", data := .seq #[.int i tk, y] } := (sb.2 _ (Nat.ne_of_gt le)).trans made
    have new : ObjOk X.prog X.w (upd H s.heap.objs.size (.tup [.int (i : Nat), x])) h2 s.heap.objs.size (.tup [.int (i : Nat), x]) :=
      ⟨by show 2 ≤ sizeLine; decide, [.int i tk, y], .cons ⟨_, rfl⟩ (.cons ru .nil), ⟨_, at2, rfl, _, rfl⟩⟩
    have J : Inv X pins σ (upd H s.heap.objs.size (.tup [.int (i : Nat), x])) { s with heap := h2, toks := tk + 1 } :=
      I.turnedNew (ch := [en, it]) (fun b ob hb z => (sb.2 b (fun w => hb (by simp [w]))).trans (kept b ob (fun w => hb (by simp [w])) (fun w => hb (by simp [w])) z)) free (Nat.le_refl _) new
    refine ⟨.ref s.heap.objs.size, _, J, rfl, ⟨_, x, rfl, I.hok.fresh (Nat.le_refl _), rfl, fun ys hy => by rw [I.tuple_inj hy sq]; exact hx⟩, ⟨⟨y, ?_⟩, st2.1.at fun o z => (sb.2 it (Ne.symm q3)).trans z, q3⟩, fun b hb => ?_⟩
    · have e1 : ((i + 1 : Nat) : Int) = (i : Int) + 1 := by omega
      rw [e1]
      exact again
    · have old : b < s.heap.objs.size := by
        have eb : b = en ∨ b = it := by simpa using hb
        rcases eb with rfl | rfl
        · exact le
        · exact li
      rw [upd_ne (Nat.ne_of_lt old)]
      exact (free b hb).1
  done := by
    intro X eP ew eK calm i pins s σ H E I free st can
    subst eP ew eK
    obtain ⟨⟨old, q1⟩, q2, q3⟩ := st
    obtain ⟨xs, sq, hx⟩ := can
    obtain ⟨its, rv, tp, big⟩ := I.tuple sq
    obtain ⟨f0, f1, f2, f3, f4, f5⟩ := free it (by simp)
    have hl := rv.length
    have ty : s.TypeIs (.ref en) "enumerate" := ⟨_, q1, rfl⟩
    unfold pyNext
    refine wpAny_bind (wpAny_attempt (wpAny_callSpecial?_slot (name := Str.ofString "__next__") ty F.slot_enumerate_next (wpAny_call_entry F.slot_enumerate_next ty F.entry_enumerate_next ?_ (F.args_enumerate_next_1 _))))
    show wpAny _ _ (field (.ref en) 2 >>= _) _ _ _
    refine wpAny_bind (wpAny_field q1 rfl (x := .ref it) rfl ?_)
    refine wpAny_bind (wpAny_nextOf_tuple_end (show X.A.in1.handled = none from I.ok.hd calm) q2 (show s.heap.IsTuple a its.toArray from tp) (by simp; omega) fun h1 x1 eb hx1 => ?_)
    obtain ⟨o1, w1, w2⟩ := hx1
    refine wpAny_bind (wpAny_isInstance (T := "StopIteration") (b := true) ⟨o1, w1, w2⟩ isSubtype_stop ?_)
    exact wpAny_pure ⟨rfl, I.turned (t' := s.toks) (fun b o hb z => eb b o hb z) f0 f1 f3 f4 f5⟩
  self := fun A i s Q E st h => let ⟨⟨_, q1⟩, _⟩ := st; wpAny_pyIter_enum q1 h
def iEnumT (K : PySem.W.Frag) (ta : TA) : TI := fun σ H R => ta σ H fun vs H1 => ∃ a xs, vs = [.ref a] ∧ ((SqL K H1 a xs ∧ R (Ite K a) H1) ∨ (SqT K H1 a xs ∧ R (IteT K a) H1))
/-- for i, x in enumerate(e), e a list or a tuple -/
theorem pi_enumT {X : Cx} {e : Expr} {ta : TA} {p pos tpos : Pos} {elts : List Expr} {kk : Nat} (hg : Gl X "enumerate") (hm : X.mg "enumerate" = none) (ha : PA X [e] ta) (hs : starEach [e] X.env = [(false, eval e X.env)] := by rfl) :
    PI X (.Tuple elts kk tpos) (.Call (.Name "enumerate" p) [e] [] pos) (iEnumT X.K ta) := by
  refine ⟨fun pins s σ H R I h => ?_⟩
  refine Call_ (ld_blt I hg hm boot_enumerate (PyProof.Rows.callWith_type1 (thn (ha.run pos pins s σ H _ I h) fun us s1 ⟨vs, H1, J, rr, q⟩ => ?_) hs rfl))
  obtain ⟨a, xs, rfl, q⟩ := q
  cases rr with
  | cons r rr =>
    cases rr
    cases r
    have two : ∀ b, b ∈ [s1.heap.objs.size + 1, s1.heap.objs.size] → s1.heap.objs.size ≤ b := fun b hb => by
      have eb : b = s1.heap.objs.size + 1 ∨ b = s1.heap.objs.size := by simpa using hb
      omega
    rcases q with ⟨sq, q⟩ | ⟨sq, q⟩
    · obtain ⟨its, rv, lp, big⟩ := J.list sq
      refine call_enumerate_list lp.isList fun h1 made at1 _ kept => wpAny_pyIter_enum made ?_
      have J1 : Inv X pins σ H1 { s1 with heap := h1 } := J.kept (t' := s1.toks) kept
      exact ⟨s1.heap.objs.size + 1, [s1.heap.objs.size + 1, s1.heap.objs.size], _, _, H1, rfl, J1, turn_enum a (s1.heap.objs.size + 1) s1.heap.objs.size, ⟨⟨.none, made⟩, at1, Nat.succ_ne_self _⟩, fun b hb => J.fpOk (two b hb) (J.hok.fresh (two b hb)), q⟩
    · obtain ⟨its, rv, tp, big⟩ := J.tuple sq
      refine call_enum1 (begins_tuple a its.toArray) tp fun h1 made at1 kept => wpAny_pyIter_enum made ?_
      have J1 : Inv X pins σ H1 { s1 with heap := h1 } := J.kept (t' := s1.toks) kept
      exact ⟨s1.heap.objs.size + 1, [s1.heap.objs.size + 1, s1.heap.objs.size], _, _, H1, rfl, J1, turn_enumT a (s1.heap.objs.size + 1) s1.heap.objs.size, ⟨⟨.none, made⟩, ⟨_, at1, rfl, rfl⟩, Nat.succ_ne_self _⟩, fun b hb => J.fpOk (two b hb) (J.hok.fresh (two b hb)), q⟩
section
variable {K : PySem.W.Frag} {W : WX} {Γ : Ga} {B B' : Hp} {ρ : Ab} {σ : L2.St} {H H' : Hp}
def enumD (ds : List D) : List D := (List.range ds.length).map fun i => .tup [.int (i : Nat), ds.getD i .non]
theorem enumD_length (ds : List D) : (enumD ds).length = ds.length := by unfold enumD; rw [List.length_map, List.length_range]
theorem enumD_get {ds : List D} {i : Nat} {d : D} (h : ds[i]? = some d) : (enumD ds)[i]? = some (.tup [.int (i : Nat), d]) := by
  have hi := lt_of_some h
  unfold enumD
  rw [List.getElem?_map, List.getElem?_range hi]
  show some (D.tup [.int (i : Nat), ds.getD i .non]) = _
  rw [List.getD_eq_getElem?_getD, h]
  rfl
theorem enumD_some {ds : List D} {i : Nat} {e : D} (h : (enumD ds)[i]? = some e) : ∃ d, ds[i]? = some d ∧ e = .tup [.int (i : Nat), d] := by
  have hi := lt_of_some h
  rw [enumD_length] at hi
  refine ⟨ds[i], List.getElem?_eq_getElem hi, ?_⟩
  rw [enumD_get (List.getElem?_eq_getElem hi)] at h
  exact (Option.some.inj h).symm
def pEnum (pa : PAx) : Ab → XD → (List D → Ab → Prop) → Prop := fun ρ Ξ Φ => pa ρ Ξ fun as ρ1 => ∃ d ds, as = [.pu d] ∧ d.items = some ds ∧ Φ (enumD ds) ρ1
instance ri_enumT {ta : TA} {pa : PAx} [ha : RfA K W ta pa] : RfI K W (iEnumT K ta) (pEnum pa) where
  run := fun Γ B ρ σ H Ξ Φ R r xo h k => ha.run Γ B ρ σ H _ Ξ _ r xo h fun vs as B1 H1 ρ1 r1 s1 aso hq => by
    obtain ⟨d, ds, rfl, e, hq⟩ := hq
    obtain ⟨v, rfl, dr⟩ := (ArsOk.pure (ds := [d]) aso).one
    obtain ⟨a, xs, rfl, h1, h2⟩ := dr.items_inv e
    have hn : (enumD ds).length = xs.length := by rw [enumD_length, h2.length]
    have pair : ∀ {B2 H2 p x i}, Same B1 B2 → Same B2 H2 → H2 p = none → xs[i]? = some x → ∃ B3 d, Al K B2 H2 B3 (upd H2 p (.tup [.int (i : Nat), x])) ∧ Same B3 (upd H2 p (.tup [.int (i : Nat), x])) ∧ (enumD ds)[i]? = some d ∧ Dr K B3 (.ref p) d := fun {B2 H2 p x i} s2 s3 hp hx => by
      obtain ⟨d1, g1, g2⟩ := h2.get' hx
      have al := Al.new (K := K) (o := .tup [.int (i : Nat), x]) s3 hp
      exact ⟨_, _, al, Same.up2 s3, enumD_get g1, .tup (SqT.of upd_same) (.cons (.int _) (.cons ((g2.mono s2).mono al.b) .nil))⟩
    refine ⟨a, xs, rfl, ?_⟩
    rcases h1 with h1 | h1
    · refine .inl ⟨r1.bh.seq h1, k B1 H1 ρ1 (enumD ds) (Ite K a) r1 s1 hq (fun i B2 H2 s2 s3 hi => ?_) fun B2 H2 s2 s3 => ⟨xs, (s2.trans s3).seq h1, by rw [hn]; exact Nat.le_refl _⟩⟩
      have sq : SqL K H2 a xs := (s2.trans s3).seq h1
      have hx : i < xs.length := by rw [← hn]; exact hi
      refine ⟨⟨xs, xs[i], sq, List.getElem?_eq_getElem hx⟩, fun x H3 y => ?_⟩
      obtain ⟨p, u, rfl, hp, rfl, y⟩ := y
      exact pair s2 s3 hp (y xs sq)
    · refine .inr ⟨Same.sqT r1.bh h1, k B1 H1 ρ1 (enumD ds) (IteT K a) r1 s1 hq (fun i B2 H2 s2 s3 hi => ?_) fun B2 H2 s2 s3 => ⟨xs, Same.sqT (s2.trans s3) h1, by rw [hn]; exact Nat.le_refl _⟩⟩
      have sq : SqT K H2 a xs := Same.sqT (s2.trans s3) h1
      have hx : i < xs.length := by rw [← hn]; exact hi
      refine ⟨⟨xs, xs[i], sq, List.getElem?_eq_getElem hx⟩, fun x H3 y => ?_⟩
      obtain ⟨p, u, rfl, hp, rfl, y⟩ := y
      exact pair s2 s3 hp (y xs sq)
end
end Dx
set_option Elab.async false
set_option linter.all false
set_option maxRecDepth 100000
set_option maxHeartbeats 4000000
set_option autoImplicit false
/-! Ey3: dict comprehensions over data. -/
namespace Dx
open PySem PySem.Spec PyProof.Rows L2
section
variable {K : PySem.W.Frag} {W : WX} {Γ : Ga} {B B' : Hp} {ρ : Ab} {σ : L2.St} {H H' : Hp}
theorem Rl.rehideK {p : Addr} {o o' : HO} (r : Rl K (Γ.hide p o) B ρ σ H) (hg : Γ.H p = none) (hpl : ∃ kvs, o = .dK kvs) : Rl K (Γ.hide p o') B ρ σ (upd H p o') := by
  have hp := r.hd p o upd_same
  have nB : ∀ b u, B b = some u → b ≠ p := fun b u e z => by subst z; rw [hp.2] at e; cases e
  refine ⟨fun b u e => by rw [upd_ne (nB b u e)]; exact r.bh b u e, r.bb, fun b u e n nm => ?_, r.nb, fun b e => ?_, fun b u e => ?_, r.len, r.pu, fun i q c z => ?_, r.ne, r.st, ?_, (r.mm.write r.mm.noHid).unhide.hide r.mm.noHid⟩
  · have : b ≠ p := fun z => by subst z; rw [show Γ.H b = none from hg] at e; cases e
    rw [upd_ne this]
    exact r.fr b u e n nm
  · by_cases hb : b = p
    · subst hb; exact hg
    · rw [upd_ne hb] at e; exact r.dm b e
  · have e : upd Γ.hid p o' b = some u := e
    by_cases hb : b = p
    · subst hb
      rw [upd_same] at e
      exact ⟨by rw [upd_same]; exact e, hp.2⟩
    · rw [upd_ne hb] at e ⊢
      exact r.hd b u (by show upd Γ.hid p o b = some u; rw [upd_ne hb]; exact e)
  · obtain ⟨a, u, h1, h2, h3, h4, h5, h6⟩ := r.ow i q c z
    have : a ≠ p := fun w => by
      subst w
      have h5 : upd Γ.hid a o a = none := h5
      rw [upd_same] at h5
      cases h5
    refine ⟨a, u, h1, by rw [upd_ne this]; exact h2, h3, h4, ?_, h6⟩
    have h5 : upd Γ.hid p o a = none := h5
    rw [upd_ne this] at h5
    show upd Γ.hid p o' a = none
    rw [upd_ne this]
    exact h5
  · refine r.st _ _ (fun b u e n1 n2 n3 n4 => ?_) r.jj
    have : b ≠ p := fun z => by
      subst z
      obtain ⟨kvs, rfl⟩ := hpl
      rw [hp.1] at e
      exact n2 _ (Option.some.inj e).symm
    rw [upd_ne this]
    exact e
def pDc (pi : Ab → XD → (List D → Ab → Prop) → Prop) (pg : PGx) (pt : PTx) (pk pv : PEx) (vs : List Nat) : PFx := fun ρ Ξ Φ => pi ρ Ξ fun ds ρ1 => ∃ Iv : Nat → List (Key × D) → Ab → Prop, Iv 0 [] (pwipe ρ1 vs) ∧
  (∀ i d acc ρ, ds[i]? = some d → Iv i acc ρ → pg d ρ fun ρ2 => pt ρ2 X0 fun b ρ3 => if b = true then pk ρ3 X0 fun y ρ4 => pv ρ4 X0 fun z ρ5 => ∃ k, y.key = some k ∧ acc.length < 100000 ∧ Iv (i + 1) (putKD acc k z) (pwipe ρ5 vs) else Iv (i + 1) acc (pwipe ρ3 vs)) ∧
  ∀ acc ρ, Iv ds.length acc ρ → Φ (.dK acc) (pwipe ρ vs)
theorem DrK.length {kvs : List (Key × V)} {es : List (Key × D)} (h : DrK K B kvs es) : kvs.length = es.length := by
  induction es generalizing kvs with
  | nil => cases h; rfl
  | cons e es ih => cases h with | cons h1 h2 => rw [List.length_cons, List.length_cons, ih h2]
instance rff_dc {wi : TI} {g : TG} {tt : TT} {tk tv : TE} {vs : List Nat} {pi : Ab → XD → (List D → Ab → Prop) → Prop} {pg : PGx} {js : List Nat} {pt : PTx} {pk pv : PEx} [hi : RfI K W wi pi] [hg : RfG K g pg js] [ht : RfT K W0 tt pt] [hk : RfE K W0 tk pk] [hv : RfE K W0 tv pv] [hs : SubN js vs] :
    RfF K W (tDc wi g tt tk tv vs) (pDc pi pg pt pk pv vs) where
  run := fun Γ B ρ σ H Q Ξ Φ r xo h po => hi.run Γ B ρ σ H Ξ _ _ r xo h fun B1 H1 ρ1 ds J r1 s1 hq hgo hst => fun D hD => by
    obtain ⟨Iv, i0, turn, fin⟩ := hq
    have fD := r1.fre hD
    refine ⟨fun i m H' => m = ds.length - i ∧ i ≤ ds.length ∧ ∃ B' ρ' acc av, Rl K (Γ.hide D (.dK av)) B' ρ' (wipe σ vs) H' ∧ Same B1 B' ∧ DrK K B' av acc ∧ Iv i acc ρ', ⟨_, rfl, Nat.zero_le _, B1, pwipe ρ1 vs, [], [], (r1.hide (o := .dK []) hD).wipes _ vs (wipe_length σ vs) (fun i hi => wipe_ne hi), Same.refl _, .nil, i0⟩, ?_⟩
    rintro i m H2 ⟨rfl, hl, B2, ρ2, acc, av, r2, s2, da, iv⟩
    by_cases hlt : i < ds.length
    · obtain ⟨g1, g2⟩ := hgo i B2 H2 s2 r2.bh hlt
      refine .inr ⟨g1, fun H' => ∃ B' ρ' acc av, Rl K (Γ.hide D (.dK av)) B' ρ' (wipe σ vs) H' ∧ Same B1 B' ∧ DrK K B' av acc ∧ Iv (i + 1) acc ρ', fun H' ⟨B', ρ', a', v', q1, q2, q3, q4⟩ => ⟨ds.length - (i + 1), by omega, rfl, hlt, B', ρ', a', v', q1, q2, q3, q4⟩, fun x H3 y => ?_⟩
      obtain ⟨B3, d, al, s3, hd, dr⟩ := g2 x H3 y
      have r3 := r2.al al s3
      refine hg.run _ B3 ρ2 (wipe σ vs) H3 x d _ _ r3 dr (turn i d acc ρ2 hd iv) fun B4 ρ4 σ4 H4 r4 s4 w4 q4 => ?_
      have ew : wipe σ4 vs = wipe σ vs := by
        rw [w4 vs hs.sub]
        apply List.ext_getElem?
        intro j
        rw [wipe_get]
        by_cases hj : j ∈ vs
        · rw [if_pos hj, wipe_get, if_pos hj, wipe_length]
        · rw [if_neg hj]
      have el : (wipe σ vs).length = σ4.length := by rw [← ew, wipe_length]
      refine ⟨ew.trans (by rfl), ?_⟩
      refine ht.run _ B4 ρ4 σ4 H4 _ X0 _ r4 xat0 q4 fun b B5 H5 ρ5 r5 s5 q5 => ?_
      have fin5 : ∀ {o : HO} {B6 H6 ρ6}, Rl K (Γ.hide D o) B6 ρ6 σ4 H6 → Rl K (Γ.hide D o) B6 (pwipe ρ6 vs) (wipe σ vs) H6 := fun r => r.wipes _ vs el (fun j hj => by rw [← ew, wipe_ne hj])
      cases b with
      | true =>
        refine hk.run _ B5 ρ5 σ4 H5 _ X0 _ r5 xat0 q5 fun y dy B6 H6 ρ6 r6 s6 dry q6 => ?_
        refine hv.run _ B6 ρ6 σ4 H6 _ X0 _ r6 xat0 q6 fun z dz B7 H7 ρ7 r7 s7 drz q7 => ?_
        obtain ⟨k, ek, hz, q7⟩ := q7
        have s27 : Same B2 B7 := (((al.b.trans s4).trans s5).trans s6).trans s7
        refine ⟨av, k, dry.key_inv ek, (r7.hd D _ upd_same).1, by rw [da.length]; exact szlt hz, B7, _, putKD acc k dz, putK av k z, ?_, s2.trans s27, (da.mono s27).put drz, q7⟩
        exact (fin5 r7).rehideK fD.g ⟨_, rfl⟩
      | false =>
        have s25 : Same B2 B5 := (al.b.trans s4).trans s5
        exact ⟨B5, _, acc, av, fin5 r5, s2.trans s25, da.mono s25, q5⟩
    · have e : i = ds.length := by omega
      subst e
      refine .inl ⟨hst B2 H2 s2 r2.bh, ?_⟩
      have hp := r2.hd D (.dK av) upd_same
      have r2' : Rl K (Γ.hide D (.dK av)) B2 (pwipe ρ2 vs) σ H2 := r2.wipes σ vs (wipe_length σ vs).symm (fun j hj => (wipe_ne hj).symm)
      exact po D (.dK av) (.dK acc) B2 H2 _ (r2'.unhide fD.h) (s1.trans s2) ⟨hp.2, fD.g, fD.h, fun j p e q z => by
        obtain ⟨x, u, h1, h2, h3, h4, h5, h6⟩ := r2'.ow j p e q
        rw [h1] at z
        cases z
        have h5 : upd Γ.hid D (.dK av) D = none := h5
        rw [upd_same] at h5
        cases h5⟩ hp.1 (.dK da) (fin acc ρ2 iv)
end
end Dx
set_option Elab.async false
set_option linter.all false
set_option maxRecDepth 100000
set_option maxHeartbeats 4000000
set_option autoImplicit false
/-! Ey4: calls with keywords and with defaults, over data, of defs that return a new thing. -/
namespace Dx
open PySem PySem.Spec PyProof.Rows L2
section
variable {K : PySem.W.Frag} {W : WX} {Γ : Ga} {B B' : Hp} {ρ : Ab} {σ : L2.St} {H H' : Hp}
theorem slots_pus (ds : List D) : slots (ds.map Ar.pu) = [] := by
  induction ds with
  | nil => rfl
  | cons d ds ih => exact ih
theorem back_pus : ∀ (ds : List D) (ρ cs : Ab), back ρ (ds.map Ar.pu) cs = ρ
  | [], ρ, cs => rfl
  | d :: ds, ρ, cs => back_pus ds ρ cs.tail
theorem map_slOf (ds : List D) : (ds.map Ar.pu).map (slOf ρ) = pus ds := by
  unfold pus
  rw [List.map_map]
  rfl
theorem callF_pus {n : Nat} {P : PmF} {Q : VK} {E : XK} {Φ : OC → Ab → Prop} {vs : List V} {ds : List D} (r : Rl K Γ B ρ σ H) (h : ArsOk K B ρ σ vs (ds.map .pu)) (hn : ds.length = n) (hp : P (pus ds) fun c _ => Φ c ρ) (po : PoF K Γ B σ Q Φ) : spF K n P vs H Q E :=
  callF_sp r h (by rw [List.length_map]; exact hn) (by rw [slots_pus]; exact List.nodup_nil) (by rw [map_slOf]; simpa only [back_pus] using hp) po
def pCallNF (n m : Nat) (P : PmF) (pa pk : PAx) : PFx := fun ρ Ξ Φ => pa ρ Ξ fun as ρ1 => pk ρ1 Ξ fun bs ρ2 => ∃ ds es, as = ds.map .pu ∧ bs = es.map .pu ∧ ds.length = n ∧ es.length = m ∧ P (pus (ds ++ es)) fun c _ => Φ c ρ2
instance rff_callN {n m k : Nat} {P : PmF} {ta tk : TA} {pa pk : PAx} [ha : RfA K W ta pa] [hk : RfA K W tk pk] : RfF K W (tCallN n m (spF K k P) (fun vs zs => vs ++ zs) (fun _ _ _ => False) ta tk) (fun ρ Ξ Φ => k = n + m ∧ pCallNF n m P pa pk ρ Ξ Φ) where
  run := fun Γ B ρ σ H Q Ξ Φ r xo h po => ha.run Γ B ρ σ H _ Ξ _ r xo h.2 fun vs as B1 H1 ρ1 r1 s1 aso hq => hk.run Γ B1 ρ1 σ H1 _ Ξ _ r1 (xo.mono s1) hq fun zs bs B2 H2 ρ2 r2 s2 bso hq2 => by
    obtain ⟨ds, es, rfl, rfl, h1, h2, hq2⟩ := hq2
    have d1 : DrA K B1 vs ds := aso.pure
    have d2 : DrA K B2 zs es := bso.pure
    refine ⟨by rw [d1.length]; exact h1, by rw [d2.length]; exact h2, ?_⟩
    exact callF_pus r2 (ArsOk.ofPure ((d1.mono s2).append d2)) (by rw [List.length_append, h1, h2]; exact h.1.symm) hq2 (po.mono (s1.trans s2))
/-- the last parameter's default is None -/
instance rff_callD {n : Nat} {P : PmF} {ta : TA} {pa : PAx} [ha : RfA K W ta pa] : RfF K W (tCall (spF K n P) [.non] (fun _ _ _ => False) ta) (fun ρ Ξ Φ => pa ρ Ξ fun as ρ1 => ∃ ds, as = ds.map .pu ∧ ds.length + 1 = n ∧ P (pus (ds ++ [.non])) fun c _ => Φ c ρ1) where
  run := fun Γ B ρ σ H Q Ξ Φ r xo h po => ha.run Γ B ρ σ H _ Ξ _ r xo h fun vs as B1 H1 ρ1 r1 s1 aso hq => by
    obtain ⟨ds, rfl, h1, hq⟩ := hq
    have d1 : DrA K B1 vs ds := aso.pure
    exact callF_pus r1 (ArsOk.ofPure (d1.append (.cons .non .nil))) (by rw [List.length_append]; exact h1) hq (po.mono s1)
end
end Dx
set_option synthInstance.maxSize 100000
set_option synthInstance.maxHeartbeats 4000000
set_option Elab.async false
set_option linter.all false
set_option maxRecDepth 100000
set_option maxHeartbeats 4000000
set_option autoImplicit false
/-! Ez0: tuples that may be keys. -/
namespace Dx
open PySem PySem.Spec PyProof.Rows L2
section
variable {X : Cx}
/-- a tuple that may be a key -/
def tTupK (ta : TA) : TE := tTup ta
end
theorem PE.tupK {X : Cx} {e : Expr} {ta : TA} (h : PE X e (tTup ta)) : PE X e (tTupK ta) := h
section
variable {K : PySem.W.Frag} {W : WX}
instance (priority := high) rf_tupK {ta : TA} {pa : PAx} [ha : RfA K W ta pa] : RfE K W (tTupK ta) (fun ρ Ξ Φ => pa ρ Ξ fun as ρ1 => ∃ ds, as = ds.map .pu ∧ ds.length ≤ 100000 ∧ Φ (.trk ds) ρ1) where
  run := fun Γ B ρ σ H Q Ξ Φ r xo h po => ha.run Γ B ρ σ H _ Ξ _ r xo h fun vs as B1 H1 ρ1 r1 s1 aso hq => by
    obtain ⟨ds, rfl, hl, hq⟩ := hq
    have da := aso.pure
    refine ⟨by rw [da.length]; exact szl hl, fun p hp => ?_⟩
    have al := Al.new (K := K) (o := .tup vs) r1.bh hp
    exact po _ _ _ _ _ (r1.al al (Same.up2 r1.bh)) (s1.trans al.b) (.trk upd_same (da.mono al.b)) hq
end
end Dx
set_option synthInstance.maxSize 100000
set_option synthInstance.maxHeartbeats 4000000
set_option Elab.async false
set_option linter.all false
set_option maxRecDepth 100000
set_option maxHeartbeats 4000000
set_option autoImplicit false
namespace Kd
open PySem L2 Dx
theorem _root_.Dx.Pl.ty {d : D} (h : Pl d) : ∃ n, d.ty = some n := by cases h <;> exact ⟨_, rfl⟩
def fnP (pre : List D → Prop) (post : List D → D → Prop) : Pm := fun ρ _ Φ => ∃ ds, ρ = pus ds ∧ pre ds ∧ ∀ r ρ', post ds r → Φ r ρ'
def fnF (pre : List D → Prop) (post : List D → OC → Prop) : PmF := fun ρ Φ => ∃ ds, ρ = pus ds ∧ pre ds ∧ ∀ c ρ', post ds c → Φ c ρ'
def isWhole : D → Bool
  | .int _ => true
  | _ => false
def isPair : D → Bool
  | .tup ds => decide (ds.length = 2)
  | _ => false
def _root_.Dx.D.nth (d : D) (i : Nat) : D := match d with
  | .tup ds => ds.getD i .non
  | _ => .non
def _root_.Dx.D.toInt : D → Int
  | .int i => i
  | _ => 0
def frac2 (x y : D) : Bool := isWhole x && (isWhole y && (decide (1 ≤ y.toInt) && decide (Nat.gcd x.toInt.natAbs y.toInt.natAbs = 1)))
def isFrac (d : D) : Bool := isPair d && frac2 (d.nth 0) (d.nth 1)
def isFromN (d : D) : Bool := isFrac d && decide (0 ≤ (d.nth 0).toInt)
theorem isWhole_inv {d : D} (h : isWhole d = true) : ∃ i, d = .int i := by cases d <;> first | exact ⟨_, rfl⟩ | cases h
def isTup : D → Bool
  | .tup _ => true
  | _ => false
theorem isPair_inv {d : D} (h : isPair d = true) : ∃ x y, d = .tup [x, y] := by
  cases d with
  | tup ds =>
    have h : decide (ds.length = 2) = true := h
    match ds, of_decide_eq_true h with
    | [x, y], _ => exact ⟨x, y, rfl⟩
  | _ => cases h
theorem isFrac_inv {d : D} (h : isFrac d = true) : ∃ i j, d = .tup [.int i, .int j] := by
  unfold isFrac at h
  obtain ⟨h1, h2⟩ := Bool.and_eq_true_iff.mp h
  obtain ⟨x, y, rfl⟩ := isPair_inv h1
  have h2 : frac2 x y = true := h2
  unfold frac2 at h2
  obtain ⟨h3, h4⟩ := Bool.and_eq_true_iff.mp h2
  obtain ⟨h5, _⟩ := Bool.and_eq_true_iff.mp h4
  obtain ⟨i, rfl⟩ := isWhole_inv h3
  obtain ⟨j, rfl⟩ := isWhole_inv h5
  exact ⟨i, j, rfl⟩
def isLen (d : D) : Bool := isWhole d && (decide (2 ≤ d.toInt) && decide (d.toInt ≤ 1000))
def isProp (n z : Int) (x y : D) : Bool := isWhole x && (decide (z < x.toInt) && (decide (x.toInt < n) && isFromN y))
def propsFrom (n : Int) : Int → List D → Bool
  | _, [] => true
  | z, x :: xs => isPair x && (isProp n z (x.nth 0) (x.nth 1) && propsFrom n (x.nth 0).toInt xs)
def areProps (d : D) (n : Int) : Bool := match d.seq with
  | some xs => decide (xs.length ≤ 12) && propsFrom n 0 xs
  | none => false
theorem ty_list {d : D} {m : String} (e : d.ty = some m) : decide (m = "list") = d.seq.isSome := by cases d <;> first | (cases e; rfl) | cases e
theorem seq_items {d : D} {xs : List D} (q : d.seq = some xs) : d.items = some xs := by cases d <;> first | exact q | cases q
theorem _root_.Dx.Pl.seq {d : D} {xs : List D} (h : Pl d) (q : d.seq = some xs) : ∀ x ∈ xs, Pl x := by
  cases h <;> first | (cases q; assumption) | cases q
def bendOk (d : D) : Bool := d.isNon || isFromN d
def flds (l : D) (xs : List D) (b : D) : List (Str × D) := [("_length", l), ("_props", .tup xs), ("_bend", b)]
def wInit (C CN : Addr) : Pm := fun ρ Ξ Φ => ∃ l p b sp, ρ = [some (.ow true (.ins C [])), some (.pu l), some sp, some (.pu b)] ∧ (sp = .pu p ∨ ∃ xs, sp = .ow true (.lst xs) ∧ p = .lst xs) ∧ Pl l ∧ Pl p ∧ Pl b ∧
  (isLen l = false → ∀ ρ', Ξ CN [("part", .str "length")] ρ') ∧ (isLen l = true → areProps p l.toInt = false → ∀ ρ', Ξ CN [("part", .str "props")] ρ') ∧
  (isLen l = true → areProps p l.toInt = true → bendOk b = false → ∀ ρ', Ξ CN [("part", .str "bend")] ρ') ∧
  (isLen l = true → areProps p l.toInt = true → bendOk b = true → ∀ xs, p.seq = some xs → Φ .non [some (.ow true (.ins C (flds l xs b))), some (.pu l), some sp, some (.pu b)])
theorem areProps_seq {p : D} {n : Int} (h : areProps p n = true) : ∃ xs, p.seq = some xs := by
  unfold areProps at h
  cases q : p.seq with
  | some xs => exact ⟨xs, rfl⟩
  | none => rw [q] at h; cases h
def plk (C : Addr) (l : D) (xs : List D) (b : D) : D := .obj C (flds l xs b)
def selfP (C : Addr) (post : D → List D → D → D → Prop) : Pm := fnP (fun ds => ∃ l xs b, ds = [plk C l xs b]) fun ds r => ∀ l xs b, ds = [plk C l xs b] → post l xs b r
def selfF (C : Addr) (post : D → List D → D → OC → Prop) : PmF := fnF (fun ds => ∃ l xs b, ds = [plk C l xs b]) fun ds c => ∀ l xs b, ds = [plk C l xs b] → post l xs b c
theorem look1 {l : D} {xs : List D} {b : D} : (flds l xs b).lookup ("_length" : Str) = some l := by unfold flds; rw [List.lookup_cons]; rw [show (("_length" : Str) == ("_length" : Str)) = true from by decide +kernel]
theorem look2 {l : D} {xs : List D} {b : D} : (flds l xs b).lookup ("_props" : Str) = some (.tup xs) := by unfold flds; rw [List.lookup_cons, show (("_props" : Str) == ("_length" : Str)) = false from by decide +kernel]; simp only []; rw [List.lookup_cons, show (("_props" : Str) == ("_props" : Str)) = true from by decide +kernel]
theorem look3 {l : D} {xs : List D} {b : D} : (flds l xs b).lookup ("_bend" : Str) = some b := by unfold flds; rw [List.lookup_cons, show (("_bend" : Str) == ("_length" : Str)) = false from by decide +kernel]; simp only []; rw [List.lookup_cons, show (("_bend" : Str) == ("_props" : Str)) = false from by decide +kernel]; simp only []; rw [List.lookup_cons, show (("_bend" : Str) == ("_bend" : Str)) = true from by decide +kernel]
theorem lookN {l : D} {xs : List D} {b : D} {f : Str} (h1 : (f == ("_length" : Str)) = false) (h2 : (f == ("_props" : Str)) = false) (h3 : (f == ("_bend" : Str)) = false) : (flds l xs b).lookup f = none := by
  unfold flds
  rw [List.lookup_cons, h1]
  simp only []
  rw [List.lookup_cons, h2]
  simp only []
  rw [List.lookup_cons, h3]
  rfl
/-- rest's place -/
def plcOf (l : D) (xs : List D) (i : Int) : D := if i = -1 then .int 0 else if i = xs.length then l else (xs.getD i.toNat .non).nth 0
def isRest (xs : List D) (r : D) : Bool := isWhole r && (decide (-1 ≤ r.toInt) && decide (r.toInt ≤ xs.length))
def wPlace (C CN : Addr) : Pm := fun ρ Ξ Φ => ∃ l xs b r, ρ = pus [plk C l xs b, r] ∧ Pl r ∧ (∀ x ∈ xs, ∃ u v, x = .tup [u, v]) ∧ (isRest xs r = false → ∀ ρ', Ξ CN [("rest", r)] ρ') ∧ (isRest xs r = true → ∀ ρ', Φ (plcOf l xs r.toInt) ρ')
def areStr (d : D) (n : Int) : Bool := match d.seq with
  | some xs => decide ((xs.length : Int) = n) && xs.all isFromN
  | none => false
theorem map_next {ds acc : List D} {f : D → D} {i : Nat} {d : D} (h : ds[i]? = some d) (e : acc = (ds.take i).map f) : acc ++ [f d] = (ds.take (i + 1)).map f := by
  rw [e, List.take_add_one, h, List.map_append]
  rfl
theorem map_small {ds acc : List D} {f : D → D} {i n : Nat} {d : D} (h : ds[i]? = some d) (e : acc = (ds.take i).map f) (hl : ds.length ≤ n) : acc.length < n := by
  have := lt_of_some h
  rw [e, List.length_map, List.length_take]
  omega
theorem map_all {ds : List D} {f : D → D} : (ds.take ds.length).map f = ds.map f := by rw [List.take_length]
theorem bls_map {xs : List D} {f : D → Bool} : xs.map (fun x => D.bl (f x)) = bls (xs.map f) := by
  unfold bls
  rw [List.map_map]
  rfl
theorem all_id {xs : List D} {f : D → Bool} : (xs.map f).all id = xs.all f := by
  rw [List.all_map]
  rfl
/-- other strengths, one by one -/
def withStr (xs ss : List D) : List D := (zipD xs ss).map fun p => .tup [(p.nth 0).nth 0, p.nth 1]
def wStr (C CN : Addr) : Pm := fun ρ Ξ Φ => ∃ l xs b s, ρ = pus [plk C l xs b, s] ∧ Pl s ∧ (∀ ss, s.seq = some ss → ss.length ≤ 1000) ∧ (∃ n, l = .int n) ∧ isLen l = true ∧ (∀ n, l = .int n → propsFrom n 0 xs = true) ∧ xs.length ≤ 12 ∧ bendOk b = true ∧ Pl b ∧
  (areStr s xs.length = false → ∀ ρ', Ξ CN [] ρ') ∧ (areStr s xs.length = true → ∀ ss, s.seq = some ss → ∀ ρ', Φ (plk C l (withStr xs ss) b) ρ')
theorem props_get {n : Int} : ∀ {z : Int} {xs : List D}, propsFrom n z xs = true → ∀ x ∈ xs, ∃ j y, x = .tup [.int j, y]
  | z, [], _, x, hx => by cases hx
  | z, y :: ys, h, x, hx => by
    unfold propsFrom at h
    obtain ⟨h1, h2⟩ := Bool.and_eq_true_iff.mp h
    obtain ⟨h2, h3⟩ := Bool.and_eq_true_iff.mp h2
    cases hx with
    | head =>
      obtain ⟨u, v, rfl⟩ := isPair_inv h1
      have h2 : isProp n z u v = true := h2
      obtain ⟨i, rfl⟩ := isWhole_inv (Bool.and_eq_true_iff.mp h2).1
      exact ⟨i, v, rfl⟩
    | tail _ hx => exact props_get h3 x hx
theorem withStr_props {n : Int} : ∀ {z : Int} {xs ss : List D}, propsFrom n z xs = true → ss.all isFromN = true → propsFrom n z (withStr xs ss) = true
  | z, [], ss, _, _ => by cases ss <;> rfl
  | z, x :: xs, [], _, _ => rfl
  | z, x :: xs, s :: ss, h, hs => by
    unfold propsFrom at h
    obtain ⟨h1, h2⟩ := Bool.and_eq_true_iff.mp h
    obtain ⟨h2, h3⟩ := Bool.and_eq_true_iff.mp h2
    obtain ⟨u, v, rfl⟩ := isPair_inv h1
    have h2 : isProp n z u v = true := h2
    obtain ⟨h4, h5⟩ := Bool.and_eq_true_iff.mp h2
    obtain ⟨h5, h6⟩ := Bool.and_eq_true_iff.mp h5
    obtain ⟨h6, _⟩ := Bool.and_eq_true_iff.mp h6
    rw [List.all_cons] at hs
    obtain ⟨s1, s2⟩ := Bool.and_eq_true_iff.mp hs
    have ih := withStr_props (ss := ss) h3 s2
    show (true && ((isWhole u && (decide (z < u.toInt) && (decide (u.toInt < n) && isFromN s))) && propsFrom n u.toInt (withStr xs ss))) = true
    rw [h4, h5, h6, s1]
    exact ih
theorem withStr_length {xs ss : List D} : (withStr xs ss).length = min xs.length ss.length := by
  unfold withStr
  rw [List.length_map, zipD_length]
theorem zipD_mem : ∀ {xs ss : List D} {x : D}, x ∈ zipD xs ss → ∃ a b, a ∈ xs ∧ b ∈ ss ∧ x = .tup [a, b]
  | [], _, x, h => by simp [zipD] at h
  | _ :: _, [], x, h => by simp [zipD] at h
  | a :: xs, b :: ss, x, h => by
    cases h with
    | head => exact ⟨a, b, List.mem_cons_self .., List.mem_cons_self .., rfl⟩
    | tail _ h =>
      obtain ⟨c, d, h1, h2, e⟩ := zipD_mem h
      exact ⟨c, d, List.mem_cons_of_mem _ h1, List.mem_cons_of_mem _ h2, e⟩
theorem _root_.Dx.Pl.pair {x y : D} (hx : Pl x) (hy : Pl y) : Pl (.tup [x, y]) := .tup fun d hd => by
  rcases List.mem_cons.mp hd with rfl | hd
  · exact hx
  · rcases List.mem_cons.mp hd with rfl | hd
    · exact hy
    · cases hd
theorem withStr_pl {n z : Int} {xs ss : List D} (h : propsFrom n z xs = true) (hs : ∀ s ∈ ss, Pl s) : ∀ x ∈ withStr xs ss, Pl x := fun x hx => by
  obtain ⟨p, hp, rfl⟩ := List.mem_map.mp hx
  obtain ⟨a, b, ha, hb, rfl⟩ := zipD_mem hp
  obtain ⟨j, y, rfl⟩ := props_get h a ha
  exact Pl.pair (.int j) (hs b hb)
theorem st_pu2 {x y : D} {ρ : Ab} : ∀ a ∈ [Ar.pu x, Ar.pu y], a.still ρ := fun a ha => by
  simp only [List.mem_cons, List.not_mem_nil, or_false] at ha
  rcases ha with rfl | rfl <;> trivial
/-- a plank's data are such as == reads -/
def POk (l : D) (xs : List D) (b : D) : Prop := (∃ i, l = .int i) ∧ Shp 8 (.tup xs) ∧ Shp 8 b
def peq (l : D) (xs : List D) (b l' : D) (xs' : List D) (b' : D) : Bool := eqD l l' && (eqD (.tup xs) (.tup xs') && eqD b b')
def wEq (K : PySem.W.Frag) (C : Addr) : Pm := fnP (fun ds => ∃ l xs b o, ds = [plk C l xs b, o] ∧ POk l xs b ∧ (Isi K C o false ∨ ∃ l' xs' b', o = plk C l' xs' b' ∧ POk l' xs' b'))
  fun ds r => ∀ l xs b o, ds = [plk C l xs b, o] → (Isi K C o false → r = .bl false) ∧ ∀ l' xs' b', o = plk C l' xs' b' → r = .bl (peq l xs b l' xs' b')
theorem isi_self {K : PySem.W.Frag} {C : Addr} {gs : List (Str × D)} (h : InsK K C) : Isi K C (.obj C gs) true := .inr ⟨C, gs, rfl, h, by
  unfold PySem.W.kitOne
  rw [if_pos (by simp)]⟩
theorem isi_not {K : PySem.W.Frag} {C : Addr} {gs : List (Str × D)} (h : Isi K C (.obj C gs) false) : False := by
  rcases h with ⟨n, e, _⟩ | ⟨C', gs', e, _, k⟩
  · cases e
  · cases e
    unfold PySem.W.kitOne at k
    rw [if_pos (by simp)] at k
    cases k
/-- a source of draws -/
def SrcOk (t : List D) : Prop := ∃ a b c, t = [.int a, .int b, .int c]
def wTake : Pm := fun ρ Ξ Φ => ∃ t m, ρ = [some (.ow true (.lst t)), some (.pu (.int m))] ∧ SrcOk t ∧ 1 ≤ m ∧ m < 2 ^ 60 ∧
  ∀ r t' ρ', SrcOk t' → 0 ≤ r → r < m → ρ'.head? = some (some (.ow true (.lst t'))) → Φ (.int r) ρ'
def wOne : Pm := fun ρ Ξ Φ => ∃ t d xs, ρ = [some (.ow true (.lst t)), some (.pu d)] ∧ SrcOk t ∧ d.seq = some xs ∧ xs ≠ [] ∧ xs.length ≤ 100 ∧
  ∀ x t' ρ', SrcOk t' → x ∈ xs → ρ'.head? = some (some (.ow true (.lst t'))) → Φ x ρ'
def intsD (ns : List Int) : List D := ns.map .int
theorem intsD_at {ns : List Int} {k : Int} (h0 : 0 ≤ k) (h1 : k < ns.length) : ∃ i, atI (intsD ns) k = some (.int i) := by
  obtain ⟨j, rfl⟩ : ∃ j : Nat, k = j := ⟨k.toNat, by omega⟩
  have hj : j < ns.length := by omega
  exact ⟨ns[j], atI_nat (by unfold intsD; rw [List.getElem?_map, List.getElem?_eq_getElem hj]; rfl)⟩
theorem nd2 (d : D) : (slots [Ar.sl 0, Ar.pu d]).Nodup := by show [0].Nodup; decide
theorem back_sl0 {ρ tl : Ab} {p : Bool} {c e : OC} {d : D} (h0 : ρ[0]? = some (some (.ow p c))) : back ρ [Ar.sl 0, Ar.pu d] (some (.ow true e) :: tl) = ρ.set 0 (some (.ow p e)) := by
  unfold back
  rw [h0]
  rfl
theorem one_at {ρ : Ab} {p : Bool} {t xs : List D} {d : D} {Ψ : D → Ab → Prop} (h0 : ρ[0]? = some (some (.ow p (.lst t)))) (ht : SrcOk t) (hd : d.seq = some xs) (ne : xs ≠ []) (hl : xs.length ≤ 100) (k : ∀ x t' tl, SrcOk t' → x ∈ xs → Ψ x (some (.ow true (.lst t')) :: tl)) :
    (∃ p c, ρ[0]? = some (some (.ow p c))) ∧ 2 = 2 ∧ (slots [Ar.sl 0, Ar.pu d]).Nodup ∧ wOne (List.map (slOf ρ) [Ar.sl 0, Ar.pu d]) X0 Ψ := by
  refine ⟨⟨p, _, h0⟩, rfl, nd2 d, t, d, xs, by rw [List.map_cons, slOf_sl h0]; rfl, ht, hd, ne, hl, fun x t' ρ' ht' hx hh => ?_⟩
  match ρ', hh with
  | y :: tl, hh =>
    cases hh
    exact k x t' tl ht' hx
theorem take_at {ρ : Ab} {p : Bool} {t : List D} {m : Int} {Ψ : D → Ab → Prop} (h0 : ρ[0]? = some (some (.ow p (.lst t)))) (ht : SrcOk t) (m1 : 1 ≤ m) (m2 : m < 2 ^ 60) (k : ∀ r t' tl, SrcOk t' → 0 ≤ r → r < m → Ψ (.int r) (some (.ow true (.lst t')) :: tl)) :
    (∃ p c, ρ[0]? = some (some (.ow p c))) ∧ 2 = 2 ∧ (slots [Ar.sl 0, Ar.pu (.int m)]).Nodup ∧ wTake (List.map (slOf ρ) [Ar.sl 0, Ar.pu (.int m)]) X0 Ψ := by
  refine ⟨⟨p, _, h0⟩, rfl, nd2 _, t, m, by rw [List.map_cons, slOf_sl h0]; rfl, ht, m1, m2, fun r t' ρ' ht' r0 r1 hh => ?_⟩
  match ρ', hh with
  | y :: tl, hh =>
    cases hh
    exact k r t' tl ht' r0 r1
theorem rngD_len {j : Nat} : (rngD 0 j).length = j := by unfold rngD; simp
def wMeas : Pm := fun ρ Ξ Φ => ∃ t m, ρ = [some (.ow true (.lst t)), some (.pu (.int m))] ∧ SrcOk t ∧ 0 ≤ m ∧ m ≤ 1000000 ∧
  ∀ r t' ρ', SrcOk t' → isFromN r = true → ρ'.head? = some (some (.ow true (.lst t'))) → Φ r ρ'
theorem frac_of {t b : Int} {g : Nat} (ht : 0 ≤ t) (hb : 1 ≤ b) (hg : g = Nat.gcd t.natAbs b.natAbs) : isFromN (.tup [.int (t / g), .int (b / g)]) = true := by
  obtain ⟨t, rfl⟩ : ∃ n : Nat, t = n := ⟨t.toNat, by omega⟩
  obtain ⟨b, rfl⟩ : ∃ n : Nat, b = n := ⟨b.toNat, by omega⟩
  have hg : g = Nat.gcd t b := hg
  have bp : 0 < b := by omega
  have gp : 0 < g := by rw [hg]; exact Nat.gcd_pos_of_pos_right _ bp
  have g2 : g ∣ b := by rw [hg]; exact Nat.gcd_dvd_right _ _
  have g1 : g ∣ t := by rw [hg]; exact Nat.gcd_dvd_left _ _
  have cop : Nat.gcd (t / g) (b / g) = 1 := by
    rw [Nat.gcd_div g1 g2, ← hg]
    exact Nat.div_self gp
  have b1 : 1 ≤ b / g := Nat.div_pos (Nat.le_of_dvd bp g2) gp
  show ((true && (true && (true && (decide ((1 : Int) ≤ ((b / g : Nat) : Int)) && decide (Nat.gcd (t / g) (b / g) = 1))))) && decide ((0 : Int) ≤ ((t / g : Nat) : Int))) = true
  rw [decide_eq_true (show (1 : Int) ≤ ((b / g : Nat) : Int) by omega), decide_eq_true (Int.natCast_nonneg (t / g)), decide_eq_true cop]
  rfl
theorem gcd_turn {x y : Int} (hx : 0 ≤ x) (hy : 0 < y) : Nat.gcd y.natAbs (x % y).natAbs = Nat.gcd x.natAbs y.natAbs := by
  obtain ⟨x, rfl⟩ : ∃ n : Nat, x = n := ⟨x.toNat, by omega⟩
  obtain ⟨y, rfl⟩ : ∃ n : Nat, y = n := ⟨y.toNat, by omega⟩
  show Nat.gcd y (((x % y : Nat) : Int)).natAbs = Nat.gcd x y
  show Nat.gcd y (x % y) = Nat.gcd x y
  rw [Nat.gcd_comm y (x % y), ← Nat.gcd_rec, Nat.gcd_comm]
def kLen : Key := .inr "length"
def kPro : Key := .inr "props"
def kBen : Key := .inr "bend"
/-- a plank told as a dict -/
def mD (l : D) (xs : List D) (b : D) : D := .dic [(kLen, l), (kPro, .lst xs), (kBen, b)]
def MOk (l : D) (xs : List D) (b : D) : Prop := isLen l = true ∧ propsFrom l.toInt 0 xs = true ∧ xs.length ≤ 12 ∧ bendOk b = true
def placesD (l : D) (xs : List D) : List D := .int 0 :: (xs.map fun x => x.nth 0) ++ [l]
def wPlank : Pm := fun ρ Ξ Φ => ∃ t, ρ = [some (.ow true (.lst t))] ∧ SrcOk t ∧ ∀ l xs b t' ρ', SrcOk t' → MOk l xs b → ρ'.head? = some (some (.ow true (.lst t'))) → Φ (mD l xs b) ρ'
theorem meas_at {ρ : Ab} {p : Bool} {t : List D} {m : Int} {Ψ : D → Ab → Prop} (h0 : ρ[0]? = some (some (.ow p (.lst t)))) (ht : SrcOk t) (m1 : 0 ≤ m) (m2 : m ≤ 1000000) (k : ∀ r t' tl, SrcOk t' → isFromN r = true → Ψ r (some (.ow true (.lst t')) :: tl)) :
    (∃ p c, ρ[0]? = some (some (.ow p c))) ∧ 2 = 2 ∧ (slots [Ar.sl 0, Ar.pu (.int m)]).Nodup ∧ wMeas (List.map (slOf ρ) [Ar.sl 0, Ar.pu (.int m)]) X0 Ψ := by
  refine ⟨⟨p, _, h0⟩, rfl, nd2 _, t, m, by rw [List.map_cons, slOf_sl h0]; rfl, ht, m1, m2, fun r t' ρ' ht' hr hh => ?_⟩
  match ρ', hh with
  | y :: tl, hh =>
    cases hh
    exact k r t' tl ht' hr
def zipP (ms : List Int) (fs : List D) : List D := List.zipWith (fun m f => .tup [.int m, f]) ms fs
theorem zipP_next {ms : List Int} {fs : List D} {i : Nat} {m : Int} {f : D} (h : ms[i]? = some m) (hf : fs.length = i) : zipP (ms.take i) fs ++ [.tup [.int m, f]] = zipP (ms.take (i + 1)) (fs ++ [f]) := by
  have hi : i < ms.length := (List.getElem?_eq_some_iff.mp h).1
  unfold zipP
  rw [List.take_add_one, h]
  show _ = List.zipWith _ (ms.take i ++ [m]) (fs ++ [f])
  rw [List.zipWith_append (by rw [List.length_take, hf]; omega)]
  rfl
theorem zipP_props {n : Int} : ∀ {z : Int} {ms : List Int} {fs : List D}, ms.Pairwise (· < ·) → (∀ m ∈ ms, z < m ∧ m < n) → (∀ f ∈ fs, isFromN f = true) → propsFrom n z (zipP ms fs) = true
  | z, [], fs, _, _, _ => by unfold zipP; rw [List.zipWith_nil_left]; rfl
  | z, m :: ms, [], _, _, _ => by unfold zipP; rw [List.zipWith_nil_right]; rfl
  | z, m :: ms, f :: fs, hp, hb, hf => by
    have h1 := hb m (List.mem_cons_self ..)
    have h2 := hf f (List.mem_cons_self ..)
    cases hp with
    | cons hp1 hp2 =>
      have ih := zipP_props (n := n) (z := m) (fs := fs) hp2 (fun m' hm' => ⟨hp1 m' hm', (hb m' (List.mem_cons_of_mem _ hm')).2⟩) fun f' hf' => hf f' (List.mem_cons_of_mem _ hf')
      show (true && ((true && (decide (z < m) && (decide (m < n) && isFromN f))) && propsFrom n m (zipP ms fs))) = true
      rw [decide_eq_true h1.1, decide_eq_true h1.2, h2, ih]
      rfl
theorem len_le : ∀ {ms ns : List Int}, ms.Pairwise (· < ·) → (∀ k ∈ ms, k ∈ ns) → ms.length ≤ ns.length
  | [], ns, _, _ => Nat.zero_le _
  | m :: ms, ns, hp, h => by
    cases hp with
    | cons h1 h2 =>
      have hm := h m (List.mem_cons_self ..)
      have ih := len_le (ns := ns.erase m) h2 fun k hk => (List.mem_erase_of_ne (by have := h1 k hk; omega)).mpr (h k (List.mem_cons_of_mem _ hk))
      have e := List.length_erase_of_mem hm
      have pos : 0 < ns.length := List.length_pos_of_mem hm
      rw [List.length_cons]
      omega
theorem ne12 : (kPro = kLen) = False := by simp [kLen, kPro]; decide +kernel
theorem ne13 : (kBen = kLen) = False := by simp [kLen, kBen]; decide +kernel
theorem ne23 : (kBen = kPro) = False := by simp [kPro, kBen]; decide +kernel
theorem ne21 : (kLen = kPro) = False := by simp [kLen, kPro]; decide +kernel
theorem ne31 : (kLen = kBen) = False := by simp [kLen, kBen]; decide +kernel
theorem ne32 : (kPro = kBen) = False := by simp [kPro, kBen]; decide +kernel
theorem merge3 (x y z : D) : mergeKD [] [(kLen, x), (kPro, y), (kBen, z)] = [(kLen, x), (kPro, y), (kBen, z)] := by
  unfold mergeKD putKD
  simp [ne12, ne13, ne23, ne21, ne31, ne32]
theorem val1 (x y z : D) : valD [(kLen, x), (kPro, y), (kBen, z)] kLen = some x := by
  unfold valD
  simp
theorem val2 (x y z : D) : valD [(kLen, x), (kPro, y), (kBen, z)] kPro = some y := by
  unfold valD
  simp [ne21]
theorem val3 (x y z : D) : valD [(kLen, x), (kPro, y), (kBen, z)] kBen = some z := by
  unfold valD
  simp [ne31, ne32]
theorem isFromN_pl {d : D} (h : isFromN d = true) : Pl d := by
  obtain ⟨i, j, rfl⟩ := isFrac_inv (Bool.and_eq_true_iff.mp h).1
  exact Pl.pair (.int i) (.int j)
theorem bendOk_pl {d : D} (h : bendOk d = true) : Pl d := by
  unfold bendOk at h
  rcases Bool.or_eq_true_iff.mp h with h | h
  · cases d <;> first | exact .non | cases h
  · exact isFromN_pl h
theorem props_frac {n : Int} : ∀ {z : Int} {xs : List D}, propsFrom n z xs = true → ∀ x ∈ xs, ∃ j y, x = .tup [.int j, y] ∧ isFromN y = true
  | z, [], _, x, hx => by cases hx
  | z, y :: ys, h, x, hx => by
    unfold propsFrom at h
    obtain ⟨h1, h2⟩ := Bool.and_eq_true_iff.mp h
    obtain ⟨h2, h3⟩ := Bool.and_eq_true_iff.mp h2
    cases hx with
    | head =>
      obtain ⟨u, v, rfl⟩ := isPair_inv h1
      have h2 : isProp n z u v = true := h2
      obtain ⟨h4, h5⟩ := Bool.and_eq_true_iff.mp h2
      obtain ⟨i, rfl⟩ := isWhole_inv h4
      exact ⟨i, v, rfl, (Bool.and_eq_true_iff.mp (Bool.and_eq_true_iff.mp h5).2).2⟩
    | tail _ hx => exact props_frac h3 x hx
theorem props_pl {n z : Int} {xs : List D} (h : propsFrom n z xs = true) : ∀ x ∈ xs, Pl x := fun x hx => by
  obtain ⟨j, y, rfl, hy⟩ := props_frac h x hx
  exact Pl.pair (.int j) (isFromN_pl hy)
theorem MOk.len {l : D} {xs : List D} {b : D} (h : MOk l xs b) : ∃ n, l = .int n ∧ 2 ≤ n ∧ n ≤ 1000 := by
  obtain ⟨h1, h2⟩ := Bool.and_eq_true_iff.mp h.1
  obtain ⟨n, rfl⟩ := isWhole_inv h1
  obtain ⟨h2, h3⟩ := Bool.and_eq_true_iff.mp h2
  exact ⟨n, rfl, of_decide_eq_true h2, of_decide_eq_true h3⟩
theorem pus_inj : ∀ {ds es : List D}, pus ds = pus es → ds = es
  | [], [], _ => rfl
  | [], _ :: _, h => by cases h
  | _ :: _, [], h => by cases h
  | d :: ds, e :: es, h => by
    have h : some (Sl.pu d) :: pus ds = some (Sl.pu e) :: pus es := h
    injection h with h1 h2
    injection h1 with h1
    injection h1 with h1
    rw [h1, pus_inj h2]
instance lendok_props {R : List D → D → Prop} : LendOk (fnP (fun ds => ∃ d n, ds = [d, .int n] ∧ Pl d) R) where
  ok := fun ds Ξ Φ ⟨es, e, ⟨d, n, e2, h⟩, _⟩ x hx => by
    subst e2
    rw [pus_inj e] at hx
    rcases List.mem_cons.mp hx with hx | hx
    · rw [hx]; exact h
    · rw [List.mem_singleton.mp hx]; exact .int n
end Kd
set_option Elab.async false
set_option linter.all false
set_option maxRecDepth 100000
set_option maxHeartbeats 4000000
set_option autoImplicit false
namespace K06
open PySem L2 Dx Kd
def top (i : Nat) : Stmt := PySem.Challenge.pw_propfall_k06_whole_less_standing_more_li.main.body.getD i (.Pass ⟨0, 0, 0, 0⟩)
abbrev s_NoPlank___init : Stmt := inClass (top 4) 0
abbrev N_NoPlank___init : List Str := ["self", "part"]
theorem sc_NoPlank___init : FnScope N_NoPlank___init ["self", "part"] (defScope s_NoPlank___init) := ⟨rfl, rfl, rfl, by decide +kernel, rfl, by decide +kernel, by decide +kernel⟩

abbrev s_NoRest___init : Stmt := inClass (top 5) 0
abbrev N_NoRest___init : List Str := ["self", "rest"]
theorem sc_NoRest___init : FnScope N_NoRest___init ["self", "rest"] (defScope s_NoRest___init) := ⟨rfl, rfl, rfl, by decide +kernel, rfl, by decide +kernel, by decide +kernel⟩

abbrev s_NoWeights___init : Stmt := inClass (top 6) 0
abbrev N_NoWeights___init : List Str := ["self", "at"]
theorem sc_NoWeights___init : FnScope N_NoWeights___init ["self", "at"] (defScope s_NoWeights___init) := ⟨rfl, rfl, rfl, by decide +kernel, rfl, by decide +kernel, by decide +kernel⟩

abbrev s_NoPlace___init : Stmt := inClass (top 7) 0
abbrev N_NoPlace___init : List Str := ["self", "place"]
theorem sc_NoPlace___init : FnScope N_NoPlace___init ["self", "place"] (defScope s_NoPlace___init) := ⟨rfl, rfl, rfl, by decide +kernel, rfl, by decide +kernel, by decide +kernel⟩

abbrev s_is_whole : Stmt := top 11
abbrev N_is_whole : List Str := ["thing"]
theorem sc_is_whole : FnScope N_is_whole ["thing"] (defScope s_is_whole) := ⟨rfl, rfl, rfl, by decide +kernel, rfl, by decide +kernel, by decide +kernel⟩

abbrev s_is_pair : Stmt := top 12
abbrev N_is_pair : List Str := ["thing"]
theorem sc_is_pair : FnScope N_is_pair ["thing"] (defScope s_is_pair) := ⟨rfl, rfl, rfl, by decide +kernel, rfl, by decide +kernel, by decide +kernel⟩

abbrev s_is_fraction : Stmt := top 13
abbrev N_is_fraction : List Str := ["thing", "top", "bottom"]
theorem sc_is_fraction : FnScope N_is_fraction ["thing"] (defScope s_is_fraction) := ⟨rfl, rfl, rfl, by decide +kernel, rfl, by decide +kernel, by decide +kernel⟩

abbrev s_is_from_nought : Stmt := top 14
abbrev N_is_from_nought : List Str := ["thing"]
theorem sc_is_from_nought : FnScope N_is_from_nought ["thing"] (defScope s_is_from_nought) := ⟨rfl, rfl, rfl, by decide +kernel, rfl, by decide +kernel, by decide +kernel⟩

abbrev s_reduced : Stmt := top 15
abbrev N_reduced : List Str := ["top", "bottom", "common"]
theorem sc_reduced : FnScope N_reduced ["top", "bottom"] (defScope s_reduced) := ⟨rfl, rfl, rfl, by decide +kernel, rfl, by decide +kernel, by decide +kernel⟩

abbrev s_of_whole : Stmt := top 16
abbrev N_of_whole : List Str := ["number"]
theorem sc_of_whole : FnScope N_of_whole ["number"] (defScope s_of_whole) := ⟨rfl, rfl, rfl, by decide +kernel, rfl, by decide +kernel, by decide +kernel⟩

abbrev s_is_below : Stmt := top 17
abbrev N_is_below : List Str := ["one", "other"]
theorem sc_is_below : FnScope N_is_below ["one", "other"] (defScope s_is_below) := ⟨rfl, rfl, rfl, by decide +kernel, rfl, by decide +kernel, by decide +kernel⟩

abbrev s_is_place : Stmt := top 19
abbrev N_is_place : List Str := ["plank", "thing"]
theorem sc_is_place : FnScope N_is_place ["plank", "thing"] (defScope s_is_place) := ⟨rfl, rfl, rfl, by decide +kernel, rfl, by decide +kernel, by decide +kernel⟩

abbrev s_is_above_nought : Stmt := top 20
abbrev N_is_above_nought : List Str := ["thing"]
theorem sc_is_above_nought : FnScope N_is_above_nought ["thing"] (defScope s_is_above_nought) := ⟨rfl, rfl, rfl, by decide +kernel, rfl, by decide +kernel, by decide +kernel⟩

abbrev s_is_weight : Stmt := top 21
abbrev N_is_weight : List Str := ["plank", "thing", "place", "weight"]
theorem sc_is_weight : FnScope N_is_weight ["plank", "thing"] (defScope s_is_weight) := ⟨rfl, rfl, rfl, by decide +kernel, rfl, by decide +kernel, by decide +kernel⟩

abbrev s_fault_in_weights : Stmt := top 22
abbrev N_fault_in_weights : List Str := ["plank", "thing", "at", "weight"]
theorem sc_fault_in_weights : FnScope N_fault_in_weights ["plank", "thing"] (defScope s_fault_in_weights) := ⟨rfl, rfl, rfl, by decide +kernel, rfl, by decide +kernel, by decide +kernel⟩

abbrev s_check_weights : Stmt := top 23
abbrev N_check_weights : List Str := ["plank", "weights", "fault"]
theorem sc_check_weights : FnScope N_check_weights ["plank", "weights"] (defScope s_check_weights) := ⟨rfl, rfl, rfl, by decide +kernel, rfl, by decide +kernel, by decide +kernel⟩

abbrev s_check_place : Stmt := top 24
abbrev N_check_place : List Str := ["plank", "place"]
theorem sc_check_place : FnScope N_check_place ["plank", "place"] (defScope s_check_place) := ⟨rfl, rfl, rfl, by decide +kernel, rfl, by decide +kernel, by decide +kernel⟩

abbrev s_is_prop_of : Stmt := top 25
abbrev N_is_prop_of : List Str := ["lot", "thing"]
theorem sc_is_prop_of : FnScope N_is_prop_of ["lot", "thing"] (defScope s_is_prop_of) := ⟨rfl, rfl, rfl, by decide +kernel, rfl, by decide +kernel, by decide +kernel⟩

abbrev s_is_lot_of : Stmt := top 26
abbrev N_is_lot_of : List Str := ["lot", "thing", "at", "prop"]
theorem sc_is_lot_of : FnScope N_is_lot_of ["lot", "thing"] (defScope s_is_lot_of) := ⟨rfl, rfl, rfl, by decide +kernel, rfl, by decide +kernel, by decide +kernel⟩

abbrev s_all_props : Stmt := top 27
abbrev N_all_props : List Str := ["plank"]
theorem sc_all_props : FnScope N_all_props ["plank"] (defScope s_all_props) := ⟨rfl, rfl, rfl, by decide +kernel, rfl, by decide +kernel, by decide +kernel⟩

abbrev s_lot_of : Stmt := top 28
abbrev N_lot_of : List Str := ["plank", "lot"]
theorem sc_lot_of : FnScope N_lot_of ["plank", "lot"] (defScope s_lot_of) := ⟨rfl, rfl, rfl, by decide +kernel, rfl, by decide +kernel, by decide +kernel⟩

abbrev s_Moments___init : Stmt := inClass (top 30) 0
abbrev N_Moments___init : List Str := ["self", "weights", "place", "weight"]
theorem sc_Moments___init : FnScope N_Moments___init ["self", "weights"] (defScope s_Moments___init) := ⟨rfl, rfl, rfl, by decide +kernel, rfl, by decide +kernel, by decide +kernel⟩

abbrev s_Moments__over_bottom : Stmt := inClass (top 30) 1
abbrev N_Moments__over_bottom : List Str := ["self", "place", "weight", "times"]
theorem sc_Moments__over_bottom : FnScope N_Moments__over_bottom ["self", "place", "weight"] (defScope s_Moments__over_bottom) := ⟨rfl, rfl, rfl, by decide +kernel, rfl, by decide +kernel, by decide +kernel⟩

abbrev s_Moments__moment : Stmt := inClass (top 30) 2
abbrev N_Moments__moment : List Str := ["self", "place", "moment", "top", "bottom", "at", "weight", "turn"]
theorem sc_Moments__moment : FnScope N_Moments__moment ["self", "place"] (defScope s_Moments__moment) := ⟨rfl, rfl, rfl, by decide +kernel, rfl, by decide +kernel, by decide +kernel⟩

abbrev s_Moments_laid : Stmt := inClass (top 30) 3
abbrev N_Moments_laid : List Str := ["self", "left", "at", "right", "moment", "climb_ahead", "climb_behind"]
theorem sc_Moments_laid : FnScope N_Moments_laid ["self", "left", "at", "right"] (defScope s_Moments_laid) := ⟨rfl, rfl, rfl, by decide +kernel, rfl, by decide +kernel, by decide +kernel⟩

abbrev s_Moments__above : Stmt := inClass (top 30) 4
abbrev N_Moments__above : List Str := ["self", "left", "right", "place", "top", "bottom", "straight"]
theorem sc_Moments__above : FnScope N_Moments__above ["self", "left", "right", "place"] (defScope s_Moments__above) := ⟨rfl, rfl, rfl, by decide +kernel, rfl, by decide +kernel, by decide +kernel⟩

abbrev s_Moments_bend : Stmt := inClass (top 30) 5
abbrev N_Moments_bend : List Str := ["self", "left", "right", "place", "top", "bottom"]
theorem sc_Moments_bend : FnScope N_Moments_bend ["self", "left", "right", "place"] (defScope s_Moments_bend) := ⟨rfl, rfl, rfl, by decide +kernel, rfl, by decide +kernel, by decide +kernel⟩

abbrev s_Moments_greatest_bend : Stmt := inClass (top 30) 6
abbrev N_Moments_greatest_bend : List Str := ["self", "left", "right", "start", "end", "most", "where", "place", "_", "above"]
theorem sc_Moments_greatest_bend : FnScope N_Moments_greatest_bend ["self", "left", "right"] (defScope s_Moments_greatest_bend) := ⟨rfl, rfl, rfl, by decide +kernel, rfl, by decide +kernel, by decide +kernel⟩

abbrev s_is_length : Stmt := top 36
abbrev N_is_length : List Str := ["thing"]
theorem sc_is_length : FnScope N_is_length ["thing"] (defScope s_is_length) := ⟨rfl, rfl, rfl, by decide +kernel, rfl, by decide +kernel, by decide +kernel⟩

abbrev s_are_props : Stmt := top 37
abbrev N_are_props : List Str := ["thing", "length", "ahead", "prop", "place", "strength"]
theorem sc_are_props : FnScope N_are_props ["thing", "length"] (defScope s_are_props) := ⟨rfl, rfl, rfl, by decide +kernel, rfl, by decide +kernel, by decide +kernel⟩

abbrev s_is_bend : Stmt := top 38
abbrev N_is_bend : List Str := ["thing"]
theorem sc_is_bend : FnScope N_is_bend ["thing"] (defScope s_is_bend) := ⟨rfl, rfl, rfl, by decide +kernel, rfl, by decide +kernel, by decide +kernel⟩

abbrev s_Plank___init : Stmt := inClass (top 39) 0
abbrev N_Plank___init : List Str := ["self", "length", "props", "bend"]
theorem sc_Plank___init : FnScope N_Plank___init ["self", "length", "props", "bend"] (defScope s_Plank___init) := ⟨rfl, rfl, rfl, by decide +kernel, rfl, by decide +kernel, by decide +kernel⟩

abbrev s_Plank_length : Stmt := inClass (top 39) 1
abbrev N_Plank_length : List Str := ["self"]
theorem sc_Plank_length : FnScope N_Plank_length ["self"] (defScope s_Plank_length) := ⟨rfl, rfl, rfl, by decide +kernel, rfl, by decide +kernel, by decide +kernel⟩

abbrev s_Plank_props : Stmt := inClass (top 39) 2
abbrev N_Plank_props : List Str := ["self"]
theorem sc_Plank_props : FnScope N_Plank_props ["self"] (defScope s_Plank_props) := ⟨rfl, rfl, rfl, by decide +kernel, rfl, by decide +kernel, by decide +kernel⟩

abbrev s_Plank_bend : Stmt := inClass (top 39) 3
abbrev N_Plank_bend : List Str := ["self"]
theorem sc_Plank_bend : FnScope N_Plank_bend ["self"] (defScope s_Plank_bend) := ⟨rfl, rfl, rfl, by decide +kernel, rfl, by decide +kernel, by decide +kernel⟩

abbrev s_Plank_count : Stmt := inClass (top 39) 4
abbrev N_Plank_count : List Str := ["self"]
theorem sc_Plank_count : FnScope N_Plank_count ["self"] (defScope s_Plank_count) := ⟨rfl, rfl, rfl, by decide +kernel, rfl, by decide +kernel, by decide +kernel⟩

abbrev s_Plank_place_of : Stmt := inClass (top 39) 5
abbrev N_Plank_place_of : List Str := ["self", "rest"]
theorem sc_Plank_place_of : FnScope N_Plank_place_of ["self", "rest"] (defScope s_Plank_place_of) := ⟨rfl, rfl, rfl, by decide +kernel, rfl, by decide +kernel, by decide +kernel⟩

abbrev s_Plank___eq : Stmt := inClass (top 39) 7
abbrev N_Plank___eq : List Str := ["self", "other"]
theorem sc_Plank___eq : FnScope N_Plank___eq ["self", "other"] (defScope s_Plank___eq) := ⟨rfl, rfl, rfl, by decide +kernel, rfl, by decide +kernel, by decide +kernel⟩

abbrev s_Bearing___init : Stmt := inClass (top 41) 0
abbrev N_Bearing___init : List Str := ["self", "plank", "weights", "prop", "rest"]
theorem sc_Bearing___init : FnScope N_Bearing___init ["self", "plank", "weights"] (defScope s_Bearing___init) := ⟨rfl, rfl, rfl, by decide +kernel, rfl, by decide +kernel, by decide +kernel⟩

abbrev s_Bearing__laid : Stmt := inClass (top 41) 1
abbrev N_Bearing__laid : List Str := ["self", "left", "rest", "right"]
theorem sc_Bearing__laid : FnScope N_Bearing__laid ["self", "left", "rest", "right"] (defScope s_Bearing__laid) := ⟨rfl, rfl, rfl, by decide +kernel, rfl, by decide +kernel, by decide +kernel⟩

abbrev s_Bearing_rests : Stmt := inClass (top 41) 2
abbrev N_Bearing_rests : List Str := ["self", "lot"]
theorem sc_Bearing_rests : FnScope N_Bearing_rests ["self", "lot"] (defScope s_Bearing_rests) := ⟨rfl, rfl, rfl, by decide +kernel, rfl, by decide +kernel, by decide +kernel⟩

abbrev s_Bearing_ends_of_boards : Stmt := inClass (top 41) 3
abbrev N_Bearing_ends_of_boards : List Str := ["self", "lot", "rests"]
theorem sc_Bearing_ends_of_boards : FnScope N_Bearing_ends_of_boards ["self", "lot"] (defScope s_Bearing_ends_of_boards) := ⟨rfl, rfl, rfl, by decide +kernel, rfl, by decide +kernel, by decide +kernel⟩

abbrev s_Bearing_borne : Stmt := inClass (top 41) 5
abbrev N_Bearing_borne : List Str := ["self", "lot", "found", "left", "rest", "right", "top", "bottom"]
theorem sc_Bearing_borne : FnScope N_Bearing_borne ["self", "lot"] (defScope s_Bearing_borne) := ⟨rfl, rfl, rfl, by decide +kernel, rfl, by decide +kernel, by decide +kernel⟩

abbrev s_Bearing_bend : Stmt := inClass (top 41) 6
abbrev N_Bearing_bend : List Str := ["self", "left", "right", "place"]
theorem sc_Bearing_bend : FnScope N_Bearing_bend ["self", "left", "right", "place"] (defScope s_Bearing_bend) := ⟨rfl, rfl, rfl, by decide +kernel, rfl, by decide +kernel, by decide +kernel⟩

abbrev s_Bearing_board : Stmt := inClass (top 41) 7
abbrev N_Bearing_board : List Str := ["self", "left", "right", "bend", "place"]
theorem sc_Bearing_board : FnScope N_Bearing_board ["self", "left", "right"] (defScope s_Bearing_board) := ⟨rfl, rfl, rfl, by decide +kernel, rfl, by decide +kernel, by decide +kernel⟩

abbrev s_around : Stmt := top 42
abbrev N_around : List Str := ["left", "rests", "right", "line"]
theorem sc_around : FnScope N_around ["left", "rests", "right"] (defScope s_around) := ⟨rfl, rfl, rfl, by decide +kernel, rfl, by decide +kernel, by decide +kernel⟩

abbrev s_asked : Stmt := top 44
abbrev N_asked : List Str := ["plank", "weights", "lot"]
theorem sc_asked : FnScope N_asked ["plank", "weights", "lot"] (defScope s_asked) := ⟨rfl, rfl, rfl, by decide +kernel, rfl, by decide +kernel, by decide +kernel⟩

abbrev s_borne : Stmt := top 46
abbrev N_borne : List Str := ["plank", "weights", "lot", "bearing"]
theorem sc_borne : FnScope N_borne ["plank", "weights", "lot"] (defScope s_borne) := ⟨rfl, rfl, rfl, by decide +kernel, rfl, by decide +kernel, by decide +kernel⟩

abbrev s_bend_at : Stmt := top 47
abbrev N_bend_at : List Str := ["plank", "weights", "place", "lot", "bearing", "not_ahead", "ends", "left", "right"]
theorem sc_bend_at : FnScope N_bend_at ["plank", "weights", "place", "lot"] (defScope s_bend_at) := ⟨rfl, rfl, rfl, by decide +kernel, rfl, by decide +kernel, by decide +kernel⟩

abbrev s_boards : Stmt := top 48
abbrev N_boards : List Str := ["plank", "weights", "lot", "bearing", "left", "right"]
theorem sc_boards : FnScope N_boards ["plank", "weights", "lot"] (defScope s_boards) := ⟨rfl, rfl, rfl, by decide +kernel, rfl, by decide +kernel, by decide +kernel⟩

abbrev s_law_cell_at : Stmt := top 50
abbrev N_law_cell_at : List Str := ["_law_script", "_law_k"]
theorem sc_law_cell_at : FnScope N_law_cell_at ["_law_script", "_law_k"] (defScope s_law_cell_at) := ⟨rfl, rfl, rfl, by decide +kernel, rfl, by decide +kernel, by decide +kernel⟩

abbrev s_law_source : Stmt := top 51
abbrev N_law_source : List Str := ["_law_cell"]
theorem sc_law_source : FnScope N_law_source ["_law_cell"] (defScope s_law_source) := ⟨rfl, rfl, rfl, by decide +kernel, rfl, by decide +kernel, by decide +kernel⟩

abbrev s_law_take : Stmt := top 52
abbrev N_law_take : List Str := ["_law_source_here", "_law_many", "_law_found", "_law_number"]
theorem sc_law_take : FnScope N_law_take ["_law_source_here", "_law_many"] (defScope s_law_take) := ⟨rfl, rfl, rfl, by decide +kernel, rfl, by decide +kernel, by decide +kernel⟩

abbrev s_law_one : Stmt := top 53
abbrev N_law_one : List Str := ["_law_source_here", "_law_some"]
theorem sc_law_one : FnScope N_law_one ["_law_source_here", "_law_some"] (defScope s_law_one) := ⟨rfl, rfl, rfl, by decide +kernel, rfl, by decide +kernel, by decide +kernel⟩

abbrev s_law_cut : Stmt := top 54
abbrev N_law_cut : List Str := ["_law_top", "_law_bottom", "_law_one_here", "_law_other"]
theorem sc_law_cut : FnScope N_law_cut ["_law_top", "_law_bottom"] (defScope s_law_cut) := ⟨rfl, rfl, rfl, by decide +kernel, rfl, by decide +kernel, by decide +kernel⟩

abbrev s_law_plus : Stmt := top 55
abbrev N_law_plus : List Str := ["_law_one_here", "_law_other"]
theorem sc_law_plus : FnScope N_law_plus ["_law_one_here", "_law_other"] (defScope s_law_plus) := ⟨rfl, rfl, rfl, by decide +kernel, rfl, by decide +kernel, by decide +kernel⟩

abbrev s_law_below : Stmt := top 58
abbrev N_law_below : List Str := ["_law_one_here", "_law_other"]
theorem sc_law_below : FnScope N_law_below ["_law_one_here", "_law_other"] (defScope s_law_below) := ⟨rfl, rfl, rfl, by decide +kernel, rfl, by decide +kernel, by decide +kernel⟩

abbrev s_law_measure : Stmt := top 60
abbrev N_law_measure : List Str := ["_law_source_here", "_law_most", "_law_bottom"]
theorem sc_law_measure : FnScope N_law_measure ["_law_source_here", "_law_most"] (defScope s_law_measure) := ⟨rfl, rfl, rfl, by decide +kernel, rfl, by decide +kernel, by decide +kernel⟩

abbrev s_law_plank : Stmt := top 61
abbrev N_law_plank : List Str := ["_law_source_here", "_law_length", "_law_places", "_law_k", "_law_most", "_law_props", "_law_place_here"]
theorem sc_law_plank : FnScope N_law_plank ["_law_source_here"] (defScope s_law_plank) := ⟨rfl, rfl, rfl, by decide +kernel, rfl, by decide +kernel, by decide +kernel⟩

abbrev s_law_weights : Stmt := top 62
abbrev N_law_weights : List Str := ["_law_source_here", "_law_m", "_law_most", "_law_found", "_law_k", "_law_rests", "_law_spots", "_law_much", "_law_prop"]
theorem sc_law_weights : FnScope N_law_weights ["_law_source_here", "_law_m", "_law_most"] (defScope s_law_weights) := ⟨rfl, rfl, rfl, by decide +kernel, rfl, by decide +kernel, by decide +kernel⟩

abbrev s_law_made : Stmt := top 63
abbrev N_law_made : List Str := ["_law_m"]
theorem sc_law_made : FnScope N_law_made ["_law_m"] (defScope s_law_made) := ⟨rfl, rfl, rfl, by decide +kernel, rfl, by decide +kernel, by decide +kernel⟩

abbrev s_law_lot : Stmt := top 64
abbrev N_law_lot : List Str := ["_law_source_here", "_law_m", "_law_way", "_law_some", "_law_k"]
theorem sc_law_lot : FnScope N_law_lot ["_law_source_here", "_law_m"] (defScope s_law_lot) := ⟨rfl, rfl, rfl, by decide +kernel, rfl, by decide +kernel, by decide +kernel⟩

abbrev s_law_no_less : Stmt := top 66
abbrev N_law_no_less : List Str := ["_law_fewer", "_law_more", "_law_known", "_law_rest", "_law_much"]
theorem sc_law_no_less : FnScope N_law_no_less ["_law_fewer", "_law_more"] (defScope s_law_no_less) := ⟨rfl, rfl, rfl, by decide +kernel, rfl, by decide +kernel, by decide +kernel⟩

abbrev s_law_bends_right : Stmt := top 67
abbrev N_law_bends_right : List Str := ["_law_source_here", "_law_m", "_law_plank_here", "_law_weights_here", "_law_lots", "_law_spots", "_law_prop", "_law_spot", "_law_much", "_law_k", "_law_inner", "_law_left", "_law_right", "_law_top_so", "_law_where", "_law_row"]
theorem sc_law_bends_right : FnScope N_law_bends_right ["_law_source_here", "_law_m", "_law_plank_here", "_law_weights_here", "_law_lots"] (defScope s_law_bends_right) := ⟨rfl, rfl, rfl, by decide +kernel, rfl, by decide +kernel, by decide +kernel⟩

structure Txt (K : PySem.W.Frag) (mg : Str → Option Value) (a : Nat → Addr) (fd : Nat → FuncData) (tk : Nat → Tok) : Prop where
  n_any : mg "any" = none
  n_all : mg "all" = none
  n_dict : mg "dict" = none
  n_type : mg "type" = none
  n_int : mg "int" = none
  n_tuple : mg "tuple" = none
  n_len : mg "len" = none
  n_list : mg "list" = none
  n_abs : mg "abs" = none
  n_zip : mg "zip" = none
  n_range : mg "range" = none
  n_sorted : mg "sorted" = none
  n_set : mg "set" = none
  n_isinstance : mg "isinstance" = none
  n_enumerate : mg "enumerate" = none
  F_NoPlank___init : Fun K "__init__" "NoPlank.__init__" s_NoPlank___init (a 1) (fd 1)
  b_NoPlank___init : Binds K (fd 1) ["self", "part"] []
  F_NoRest___init : Fun K "__init__" "NoRest.__init__" s_NoRest___init (a 2) (fd 2)
  b_NoRest___init : Binds K (fd 2) ["self", "rest"] []
  F_NoWeights___init : Fun K "__init__" "NoWeights.__init__" s_NoWeights___init (a 3) (fd 3)
  b_NoWeights___init : Binds K (fd 3) ["self", "at"] []
  F_NoPlace___init : Fun K "__init__" "NoPlace.__init__" s_NoPlace___init (a 4) (fd 4)
  b_NoPlace___init : Binds K (fd 4) ["self", "place"] []
  F_is_whole : Fun K "is_whole" "is_whole" s_is_whole (a 5) (fd 5)
  n_is_whole : mg "is_whole" = some (.ref (a 5))
  b_is_whole : Binds K (fd 5) ["thing"] []
  F_is_pair : Fun K "is_pair" "is_pair" s_is_pair (a 6) (fd 6)
  n_is_pair : mg "is_pair" = some (.ref (a 6))
  b_is_pair : Binds K (fd 6) ["thing"] []
  F_is_fraction : Fun K "is_fraction" "is_fraction" s_is_fraction (a 7) (fd 7)
  n_is_fraction : mg "is_fraction" = some (.ref (a 7))
  b_is_fraction : Binds K (fd 7) ["thing"] []
  F_is_from_nought : Fun K "is_from_nought" "is_from_nought" s_is_from_nought (a 8) (fd 8)
  n_is_from_nought : mg "is_from_nought" = some (.ref (a 8))
  b_is_from_nought : Binds K (fd 8) ["thing"] []
  F_reduced : Fun K "reduced" "reduced" s_reduced (a 9) (fd 9)
  n_reduced : mg "reduced" = some (.ref (a 9))
  b_reduced : Binds K (fd 9) ["top", "bottom"] []
  F_of_whole : Fun K "of_whole" "of_whole" s_of_whole (a 10) (fd 10)
  n_of_whole : mg "of_whole" = some (.ref (a 10))
  b_of_whole : Binds K (fd 10) ["number"] []
  F_is_below : Fun K "is_below" "is_below" s_is_below (a 11) (fd 11)
  n_is_below : mg "is_below" = some (.ref (a 11))
  b_is_below : Binds K (fd 11) ["one", "other"] []
  F_is_place : Fun K "is_place" "is_place" s_is_place (a 12) (fd 12)
  n_is_place : mg "is_place" = some (.ref (a 12))
  b_is_place : Binds K (fd 12) ["plank", "thing"] []
  F_is_above_nought : Fun K "is_above_nought" "is_above_nought" s_is_above_nought (a 13) (fd 13)
  n_is_above_nought : mg "is_above_nought" = some (.ref (a 13))
  b_is_above_nought : Binds K (fd 13) ["thing"] []
  F_is_weight : Fun K "_is_weight" "_is_weight" s_is_weight (a 14) (fd 14)
  n_is_weight : mg "_is_weight" = some (.ref (a 14))
  b_is_weight : Binds K (fd 14) ["plank", "thing"] []
  F_fault_in_weights : Fun K "_fault_in_weights" "_fault_in_weights" s_fault_in_weights (a 15) (fd 15)
  n_fault_in_weights : mg "_fault_in_weights" = some (.ref (a 15))
  b_fault_in_weights : Binds K (fd 15) ["plank", "thing"] []
  F_check_weights : Fun K "check_weights" "check_weights" s_check_weights (a 16) (fd 16)
  n_check_weights : mg "check_weights" = some (.ref (a 16))
  b_check_weights : Binds K (fd 16) ["plank", "weights"] []
  F_check_place : Fun K "check_place" "check_place" s_check_place (a 17) (fd 17)
  n_check_place : mg "check_place" = some (.ref (a 17))
  b_check_place : Binds K (fd 17) ["plank", "place"] []
  F_is_prop_of : Fun K "is_prop_of" "is_prop_of" s_is_prop_of (a 18) (fd 18)
  n_is_prop_of : mg "is_prop_of" = some (.ref (a 18))
  b_is_prop_of : Binds K (fd 18) ["lot", "thing"] []
  F_is_lot_of : Fun K "is_lot_of" "is_lot_of" s_is_lot_of (a 19) (fd 19)
  n_is_lot_of : mg "is_lot_of" = some (.ref (a 19))
  b_is_lot_of : Binds K (fd 19) ["lot", "thing"] []
  F_all_props : Fun K "all_props" "all_props" s_all_props (a 20) (fd 20)
  n_all_props : mg "all_props" = some (.ref (a 20))
  b_all_props : Binds K (fd 20) ["plank"] []
  F_lot_of : Fun K "lot_of" "lot_of" s_lot_of (a 21) (fd 21)
  n_lot_of : mg "lot_of" = some (.ref (a 21))
  b_lot_of : Binds K (fd 21) ["plank", "lot"] []
  F_Moments___init : Fun K "__init__" "Moments.__init__" s_Moments___init (a 22) (fd 22)
  b_Moments___init : Binds K (fd 22) ["self", "weights"] []
  F_Moments__over_bottom : Fun K "_over_bottom" "Moments._over_bottom" s_Moments__over_bottom (a 23) (fd 23)
  m_Moments__over_bottom : Meth K (a 114) "_over_bottom" (a 23)
  b_Moments__over_bottom : Binds K (fd 23) ["self", "place", "weight"] []
  F_Moments__moment : Fun K "_moment" "Moments._moment" s_Moments__moment (a 24) (fd 24)
  m_Moments__moment : Meth K (a 114) "_moment" (a 24)
  b_Moments__moment : Binds K (fd 24) ["self", "place"] []
  F_Moments_laid : Fun K "laid" "Moments.laid" s_Moments_laid (a 25) (fd 25)
  m_Moments_laid : Meth K (a 114) "laid" (a 25)
  b_Moments_laid : Binds K (fd 25) ["self", "left", "at", "right"] []
  F_Moments__above : Fun K "_above" "Moments._above" s_Moments__above (a 26) (fd 26)
  m_Moments__above : Meth K (a 114) "_above" (a 26)
  b_Moments__above : Binds K (fd 26) ["self", "left", "right", "place"] []
  F_Moments_bend : Fun K "bend" "Moments.bend" s_Moments_bend (a 27) (fd 27)
  m_Moments_bend : Meth K (a 114) "bend" (a 27)
  b_Moments_bend : Binds K (fd 27) ["self", "left", "right", "place"] []
  F_Moments_greatest_bend : Fun K "greatest_bend" "Moments.greatest_bend" s_Moments_greatest_bend (a 28) (fd 28)
  m_Moments_greatest_bend : Meth K (a 114) "greatest_bend" (a 28)
  b_Moments_greatest_bend : Binds K (fd 28) ["self", "left", "right"] []
  F_is_length : Fun K "_is_length" "_is_length" s_is_length (a 29) (fd 29)
  n_is_length : mg "_is_length" = some (.ref (a 29))
  b_is_length : Binds K (fd 29) ["thing"] []
  F_are_props : Fun K "_are_props" "_are_props" s_are_props (a 30) (fd 30)
  n_are_props : mg "_are_props" = some (.ref (a 30))
  b_are_props : Binds K (fd 30) ["thing", "length"] []
  F_is_bend : Fun K "_is_bend" "_is_bend" s_is_bend (a 31) (fd 31)
  n_is_bend : mg "_is_bend" = some (.ref (a 31))
  b_is_bend : Binds K (fd 31) ["thing"] []
  F_Plank___init : Fun K "__init__" "Plank.__init__" s_Plank___init (a 32) (fd 32)
  F_Plank_length : Fun K "length" "Plank.length" s_Plank_length (a 33) (fd 33)
  m_Plank_length : Meth K (a 107) "length" (a 33)
  b_Plank_length : Binds K (fd 33) ["self"] []
  F_Plank_props : Fun K "props" "Plank.props" s_Plank_props (a 34) (fd 34)
  m_Plank_props : Meth K (a 107) "props" (a 34)
  b_Plank_props : Binds K (fd 34) ["self"] []
  F_Plank_bend : Fun K "bend" "Plank.bend" s_Plank_bend (a 35) (fd 35)
  m_Plank_bend : Meth K (a 107) "bend" (a 35)
  b_Plank_bend : Binds K (fd 35) ["self"] []
  F_Plank_count : Fun K "count" "Plank.count" s_Plank_count (a 36) (fd 36)
  m_Plank_count : Meth K (a 107) "count" (a 36)
  b_Plank_count : Binds K (fd 36) ["self"] []
  F_Plank_place_of : Fun K "place_of" "Plank.place_of" s_Plank_place_of (a 37) (fd 37)
  m_Plank_place_of : Meth K (a 107) "place_of" (a 37)
  b_Plank_place_of : Binds K (fd 37) ["self", "rest"] []
  F_Plank___eq : Fun K "__eq__" "Plank.__eq__" s_Plank___eq (a 39) (fd 39)
  m_Plank___eq : Meth K (a 107) "__eq__" (a 39)
  b_Plank___eq : Binds K (fd 39) ["self", "other"] []
  F_Bearing___init : Fun K "__init__" "Bearing.__init__" s_Bearing___init (a 40) (fd 40)
  b_Bearing___init : Binds K (fd 40) ["self", "plank", "weights"] []
  F_Bearing__laid : Fun K "_laid" "Bearing._laid" s_Bearing__laid (a 41) (fd 41)
  m_Bearing__laid : Meth K (a 108) "_laid" (a 41)
  b_Bearing__laid : Binds K (fd 41) ["self", "left", "rest", "right"] []
  F_Bearing_rests : Fun K "rests" "Bearing.rests" s_Bearing_rests (a 42) (fd 42)
  m_Bearing_rests : Meth K (a 108) "rests" (a 42)
  b_Bearing_rests : Binds K (fd 42) ["self", "lot"] []
  F_Bearing_ends_of_boards : Fun K "ends_of_boards" "Bearing.ends_of_boards" s_Bearing_ends_of_boards (a 43) (fd 43)
  m_Bearing_ends_of_boards : Meth K (a 108) "ends_of_boards" (a 43)
  b_Bearing_ends_of_boards : Binds K (fd 43) ["self", "lot"] []
  F_Bearing_borne : Fun K "borne" "Bearing.borne" s_Bearing_borne (a 45) (fd 45)
  m_Bearing_borne : Meth K (a 108) "borne" (a 45)
  b_Bearing_borne : Binds K (fd 45) ["self", "lot"] []
  F_Bearing_bend : Fun K "bend" "Bearing.bend" s_Bearing_bend (a 46) (fd 46)
  m_Bearing_bend : Meth K (a 108) "bend" (a 46)
  b_Bearing_bend : Binds K (fd 46) ["self", "left", "right", "place"] []
  F_Bearing_board : Fun K "board" "Bearing.board" s_Bearing_board (a 47) (fd 47)
  m_Bearing_board : Meth K (a 108) "board" (a 47)
  b_Bearing_board : Binds K (fd 47) ["self", "left", "right"] []
  F_around : Fun K "around" "around" s_around (a 54) (fd 54)
  n_around : mg "around" = some (.ref (a 54))
  b_around : Binds K (fd 54) ["left", "rests", "right"] []
  F_asked : Fun K "asked" "asked" s_asked (a 55) (fd 55)
  n_asked : mg "asked" = some (.ref (a 55))
  b_asked : Binds K (fd 55) ["plank", "weights", "lot"] []
  F_borne : Fun K "borne" "borne" s_borne (a 56) (fd 56)
  n_borne : mg "borne" = some (.ref (a 56))
  F_bend_at : Fun K "bend_at" "bend_at" s_bend_at (a 57) (fd 57)
  n_bend_at : mg "bend_at" = some (.ref (a 57))
  F_boards : Fun K "boards" "boards" s_boards (a 58) (fd 58)
  n_boards : mg "boards" = some (.ref (a 58))
  F_law_cell_at : Fun K "_law_cell_at" "_law_cell_at" s_law_cell_at (a 59) (fd 59)
  n_law_cell_at : mg "_law_cell_at" = some (.ref (a 59))
  b_law_cell_at : Binds K (fd 59) ["_law_script", "_law_k"] []
  F_law_source : Fun K "_law_source" "_law_source" s_law_source (a 60) (fd 60)
  n_law_source : mg "_law_source" = some (.ref (a 60))
  b_law_source : Binds K (fd 60) ["_law_cell"] []
  F_law_take : Fun K "_law_take" "_law_take" s_law_take (a 61) (fd 61)
  n_law_take : mg "_law_take" = some (.ref (a 61))
  b_law_take : Binds K (fd 61) ["_law_source_here", "_law_many"] []
  F_law_one : Fun K "_law_one" "_law_one" s_law_one (a 62) (fd 62)
  n_law_one : mg "_law_one" = some (.ref (a 62))
  b_law_one : Binds K (fd 62) ["_law_source_here", "_law_some"] []
  F_law_cut : Fun K "_law_cut" "_law_cut" s_law_cut (a 63) (fd 63)
  n_law_cut : mg "_law_cut" = some (.ref (a 63))
  b_law_cut : Binds K (fd 63) ["_law_top", "_law_bottom"] []
  F_law_plus : Fun K "_law_plus" "_law_plus" s_law_plus (a 64) (fd 64)
  n_law_plus : mg "_law_plus" = some (.ref (a 64))
  b_law_plus : Binds K (fd 64) ["_law_one_here", "_law_other"] []
  F_law_below : Fun K "_law_below" "_law_below" s_law_below (a 67) (fd 67)
  n_law_below : mg "_law_below" = some (.ref (a 67))
  b_law_below : Binds K (fd 67) ["_law_one_here", "_law_other"] []
  F_law_measure : Fun K "_law_measure" "_law_measure" s_law_measure (a 69) (fd 69)
  n_law_measure : mg "_law_measure" = some (.ref (a 69))
  b_law_measure : Binds K (fd 69) ["_law_source_here", "_law_most"] []
  F_law_plank : Fun K "_law_plank" "_law_plank" s_law_plank (a 70) (fd 70)
  n_law_plank : mg "_law_plank" = some (.ref (a 70))
  b_law_plank : Binds K (fd 70) ["_law_source_here"] []
  F_law_weights : Fun K "_law_weights" "_law_weights" s_law_weights (a 71) (fd 71)
  n_law_weights : mg "_law_weights" = some (.ref (a 71))
  b_law_weights : Binds K (fd 71) ["_law_source_here", "_law_m", "_law_most"] []
  F_law_made : Fun K "_law_made" "_law_made" s_law_made (a 72) (fd 72)
  n_law_made : mg "_law_made" = some (.ref (a 72))
  b_law_made : Binds K (fd 72) ["_law_m"] []
  F_law_lot : Fun K "_law_lot" "_law_lot" s_law_lot (a 73) (fd 73)
  n_law_lot : mg "_law_lot" = some (.ref (a 73))
  b_law_lot : Binds K (fd 73) ["_law_source_here", "_law_m"] []
  F_law_no_less : Fun K "_law_no_less" "_law_no_less" s_law_no_less (a 75) (fd 75)
  n_law_no_less : mg "_law_no_less" = some (.ref (a 75))
  b_law_no_less : Binds K (fd 75) ["_law_fewer", "_law_more"] []
  F_law_bends_right : Fun K "_law_bends_right" "_law_bends_right" s_law_bends_right (a 76) (fd 76)
  n_law_bends_right : mg "_law_bends_right" = some (.ref (a 76))
  b_law_bends_right : Binds K (fd 76) ["_law_source_here", "_law_m", "_law_plank_here", "_law_weights_here", "_law_lots"] []
  n_gcd : mg "gcd" = some (.builtin "math.gcd")
  n_lcm : mg "lcm" = some (.builtin "math.lcm")
  n_LEAST_LENGTH : mg "LEAST_LENGTH" = some (.int (2) (tk 0))
  n_MOST_LENGTH : mg "MOST_LENGTH" = some (.int (1000) (tk 1))
  n_MOST_PROPS : mg "MOST_PROPS" = some (.int (12) (tk 2))
  n_LEFT_REST : mg "LEFT_REST" = some (.int (-1) (tk 3))
  c_Plank : Cls K (a 107)
  n_Plank : mg "Plank" = some (.ref (a 107))
  c_Bearing : Cls K (a 108)
  n_Bearing : mg "Bearing" = some (.ref (a 108))
  f_length : NoAttr K (a 107) "_length"
  f_props : NoAttr K (a 107) "_props"
  f_bend : NoAttr K (a 107) "_bend"
  f_count : NoAttr K (a 108) "_count"
  f_strengths : NoAttr K (a 108) "_strengths"
  f_places : NoAttr K (a 108) "_places"
  f_moments : NoAttr K (a 108) "_moments"
  f_overlaid : NoAttr K (a 108) "_overlaid"
  f_spares : NoAttr K (a 108) "_spares"
  f_held : NoAttr K (a 108) "_held"
  fB_bend : NoAttr K (a 108) "_bend"
  f_bottom : NoAttr K (a 114) "_bottom"
  f_weights : NoAttr K (a 114) "_weights"
  f_known : NoAttr K (a 114) "_known"
  c_Moments : Cls K (a 114)
  n_Moments : mg "Moments" = some (.ref (a 114))
  M_Moments : Mk K (a 114) (a 22)
  n_around_bearing : mg "around_bearing" = some (.ref (a 54))
  M_Plank : Mk K (a 107) (a 32)
  bK_Plank : KBn K (fd 32) ["self", "length", "props", "bend"] 3 ["bend"] (fun us ws => us ++ ws) (fun vs zs => vs ++ zs)
  M_Bearing : Mk K (a 108) (a 40)
  bK_borne : KBn K (fd 56) ["plank", "weights", "lot"] 2 ["lot"] (fun us ws => us ++ ws) (fun vs zs => vs ++ zs)
  bD_borne : ∃ ds, Vals [V.non] ds ∧ Binds K (fd 56) ["plank", "weights", "lot"] ds
  bK_boards : KBn K (fd 58) ["plank", "weights", "lot"] 2 ["lot"] (fun us ws => us ++ ws) (fun vs zs => vs ++ zs)
  bD_boards : ∃ ds, Vals [V.non] ds ∧ Binds K (fd 58) ["plank", "weights", "lot"] ds
  bK_bend_at : KBn K (fd 57) ["plank", "weights", "place", "lot"] 3 ["lot"] (fun us ws => us ++ ws) (fun vs zs => vs ++ zs)
  bD_bend_at : ∃ ds, Vals [V.non] ds ∧ Binds K (fd 57) ["plank", "weights", "place", "lot"] ds
  n_NOUGHT : mg "NOUGHT" = some (.ref (a 120))
  t_NOUGHT : ∀ H : Hp, SqT K H (a 120) [.int 0, .int 1]
  e_Plank : OwnEqK K (a 107) (a 39)
  i_Plank : InsK K (a 107)
  j_Plank : ∀ n ∈ (["NoneType", "bool", "int", "str", "tuple", "list", "dict"] : List String), PySem.W.kitOne K (.type n) (.ref (a 107)) = some false
  x_NoPlank : Xc K (a 101) (a 1) "part"
  n_NoPlank : mg "NoPlank" = some (.ref (a 101))
  x_NoRest : Xc K (a 103) (a 2) "rest"
  n_NoRest : mg "NoRest" = some (.ref (a 103))
  x_NoWeights : Xc K (a 104) (a 3) "at"
  n_NoWeights : mg "NoWeights" = some (.ref (a 104))
  x_NoPlace : Xc K (a 105) (a 4) "place"
  n_NoPlace : mg "NoPlace" = some (.ref (a 105))
  x_NoLot : PySem.W.excIn K (a 106) [.type "ValueError", .type "Exception", .type "BaseException", .type "object"] "ValueError.__new__" = true
  n_NoLot : mg "NoLot" = some (.ref (a 106))
  k_NoLot : PySem.W.keepIn K (.ref (a 106)) = true
  xb_NoLot : PySem.W.subIn K (.ref (a 106)) (.type "BaseException") = some true
  xt_NoLot : PySem.W.typeIn K (.ref (a 106)) = some (.type "type")
end K06
set_option synthInstance.maxSize 100000
set_option synthInstance.maxHeartbeats 4000000
set_option Elab.async false
set_option linter.all false
set_option maxRecDepth 100000
set_option maxHeartbeats 4000000
set_option autoImplicit false
namespace K06
open PySem L2 Dx Kd
section
variable {P : Program} {w : World} {K : PySem.W.Frag} {mg : Str → Option Value} {a : Nat → Addr} {fd : Nat → FuncData} {tk : Nat → Tok} {base : Heap}
theorem ok_is_whole (T : Txt K mg a fd tk) : FnOk P w K mg base CX0 1 (a 5) (fd 5) ["thing"] (spD K 1 (fnP (fun ds => ∃ d, ds = [d] ∧ Pl d) fun ds r => r = .bl (isWhole (ds.headD .non)))) := by
  refine ok0 T.F_is_whole sc_is_whole (fun _ _ _ h => h) fun cdv A outer s H E hr => ?_
  refine ⟨_, (pss_one (ps_ret (pe_cmpR op_isTy2 (pe_callTy (call_typeK (K := K)) rfl T.n_type (by decide +kernel) (pa_cons (pv 0) pa_nil)) (pe_bltn (v := .ty "int") rfl T.n_int (by decide +kernel) rfl) (nomark _)))), ?_⟩
  try dsimp only [cxOf, List.map, List.length_cons, List.length_nil]
  refine ⟨_, inferInstance, ?_⟩
  rintro ρ Ξ Φ ⟨ds, rfl, ⟨d, rfl, hd⟩, k⟩
  obtain ⟨n, e⟩ := hd.ty
  refine ⟨_, rfl, n, e, k _ _ ?_⟩
  cases d <;> first | (cases e; rfl) | cases e

theorem ok_is_pair (T : Txt K mg a fd tk) : FnOk P w K mg base CX0 1 (a 6) (fd 6) ["thing"] (spD K 1 (fnP (fun ds => ∃ d, ds = [d] ∧ Pl d) fun ds r => r = .bl (isPair (ds.headD .non)))) := by
  refine ok0 T.F_is_pair sc_is_pair (fun _ _ _ h => h) fun cdv A outer s H E hr => ?_
  refine ⟨_, (pss_one (ps_ret (pe_and (pe_cmpR op_isTy2 (pe_callTy (call_typeK (K := K)) rfl T.n_type (by decide +kernel) (pa_cons (pv 0) pa_nil)) (pe_bltn (v := .ty "tuple") rfl T.n_tuple (by decide +kernel) rfl) (nomark _)) (pe_one (pe_cmpR (op_eqK (K := K) hr.units) (pe_callB (call_lenK (K := K)) rfl T.n_len (by decide +kernel) (pa_cons (pv 0) pa_nil)) pe_int (nomark _)))))), ?_⟩
  try dsimp only [cxOf, List.map, List.length_cons, List.length_nil]
  refine ⟨_, inferInstance, ?_⟩
  rintro ρ Ξ Φ ⟨ds, rfl, ⟨d, rfl, hd⟩, k⟩
  obtain ⟨n, e⟩ := hd.ty
  refine ⟨_, rfl, n, e, _, rfl, ?_⟩
  have key : decide (n = "tuple") = isTup d := by
    cases d <;> first | (cases e; rfl) | cases e
  rw [key]
  cases d with
  | tup ds => exact ⟨_, rfl, trivial, [_], rfl, _, ds, rfl, rfl, .inl ⟨_, _, rfl, rfl, k _ _ (by show _ = D.bl (decide (ds.length = 2)); congr 1; simp; omega)⟩⟩
  | _ => exact k _ _ rfl

theorem ok_is_fraction (T : Txt K mg a fd tk) : FnOk P w K mg base CX0 2 (a 7) (fd 7) ["thing"] (spD K 1 (fnP (fun ds => ∃ d, ds = [d] ∧ Pl d) fun ds r => r = .bl (isFrac (ds.headD .non)))) := by
  refine ok0 T.F_is_fraction sc_is_fraction (fun _ _ _ h => h) fun cdv A outer s H E hr => ?_
  refine ⟨_, (pss_cons (ps_if (pt_not (pt_val (pe_call (ok_is_pair T) (hr.mono (by decide)) rfl T.n_is_pair T.F_is_pair.kp T.b_is_pair .nil pass0 (pa_cons (pv 0) pa_nil)))) (pss_one (ps_ret pe_bl)) pss_nil)
      (pss_cons (ps_asg (pv 0) (pg_tup rfl (pgs_cons (pg_name (i := 1) sc_is_fraction.nd rfl (by first | exact Or.inl rfl | exact Or.inr rfl)) (pgs_cons (pg_name (i := 2) sc_is_fraction.nd rfl (by first | exact Or.inl rfl | exact Or.inr rfl)) pgs_nil))))
      (pss_cons (ps_if (PW.pt (pw_or (pt_not (pt_val (pe_call (ok_is_whole T) (hr.mono (by decide)) rfl T.n_is_whole T.F_is_whole.kp T.b_is_whole .nil pass0 (pa_cons (pv 1) pa_nil)))) (pw_or1 (pt_not (pt_val (pe_call (ok_is_whole T) (hr.mono (by decide)) rfl T.n_is_whole T.F_is_whole.kp T.b_is_whole .nil pass0 (pa_cons (pv 2) pa_nil))))))) (pss_one (ps_ret pe_bl)) pss_nil)
      (pss_one (ps_ret (pe_and (pe_cmpR op_ge (pv 2) pe_int (nomark _)) (pe_one (pe_cmpR (op_eqK (K := K) hr.units) (pe_callBfun cr_gcd rfl T.n_gcd (pa_cons (pv 1) (pa_cons (pv 2) pa_nil))) pe_int (nomark _))))))))), ?_⟩
  try dsimp only [cxOf, List.map, List.length_cons, List.length_nil]
  refine ⟨_, inferInstance, ?_⟩
  rintro ρ Ξ Φ ⟨ds, rfl, ⟨d, rfl, hd⟩, k⟩
  refine ⟨_, rfl, trivial, rfl, List.nodup_nil, [d], rfl, ⟨d, rfl, hd⟩, fun r ρ' hr => ?_⟩
  subst hr
  refine ⟨_, rfl, ?_⟩
  show if (!isPair d) = true then _ else _
  cases d with
  | tup ds =>
    match ds, hd, k with
    | [x, y], hd, k =>
      refine ⟨_, rfl, [x, y], rfl, rfl, x, [y], rfl, y, [], rfl, rfl, ?_⟩
      have hx : Pl x := by cases hd with | tup h => exact h x (by simp)
      have hy : Pl y := by cases hd with | tup h => exact h y (by simp)
      have k : ∀ ρ', Φ (.bl (frac2 x y)) ρ' := fun ρ' => k _ _ rfl
      unfold frac2 at k
      refine ⟨_, rfl, trivial, rfl, List.nodup_nil, [x], rfl, ⟨x, rfl, hx⟩, fun r ρ' hr => ?_⟩
      subst hr
      refine ⟨_, rfl, ?_⟩
      show if (!isWhole x) = true then _ else _
      cases qx : isWhole x with
      | false =>
        rw [qx] at k
        exact k _
      | true =>
        rw [qx] at k
        refine ⟨_, rfl, trivial, rfl, List.nodup_nil, [y], rfl, ⟨y, rfl, hy⟩, fun r ρ' hr => ?_⟩
        subst hr
        refine ⟨_, rfl, ?_⟩
        show if (!isWhole y) = true then _ else _
        cases qy : isWhole y with
        | false =>
          rw [qy] at k
          exact k _
        | true =>
          rw [qy] at k
          obtain ⟨i, rfl⟩ := isWhole_inv qx
          obtain ⟨j, rfl⟩ := isWhole_inv qy
          refine ⟨_, rfl, j, 1, rfl, rfl, _, rfl, ?_⟩
          show if decide (1 ≤ j) = true then _ else _
          cases qj : decide (1 ≤ j) with
          | false =>
            have k : ∀ ρ', Φ (.bl (decide (1 ≤ j) && _)) ρ' := k
            rw [qj] at k
            exact k _
          | true =>
            have k : ∀ ρ', Φ (.bl (decide (1 ≤ j) && _)) ρ' := k
            rw [qj] at k
            refine ⟨_, rfl, _, rfl, trivial, trivial, [.int i, .int j], rfl, i, j, rfl, .inl ⟨_, _, rfl, rfl, ?_⟩⟩
            have e : decide (((Nat.gcd i.natAbs j.natAbs : Nat) : Int) = 1) = decide (Nat.gcd i.natAbs j.natAbs = 1) := by
              by_cases z : Nat.gcd i.natAbs j.natAbs = 1
              · rw [decide_eq_true z, z]
                rfl
              · rw [decide_eq_false z, decide_eq_false (by omega)]
            show Φ (.bl (id (decide (((Nat.gcd i.natAbs j.natAbs : Nat) : Int) = 1)))) _
            rw [id, e]
            exact k _
    | [], hd, k => exact k _ _ rfl
    | [_], hd, k => exact k _ _ rfl
    | _ :: _ :: _ :: l, hd, k => exact k _ _ (by show _ = D.bl (decide (l.length + 3 = 2) && _); rw [decide_eq_false (by omega)]; rfl)
  | _ => exact k _ _ rfl

theorem ok_is_from_nought (T : Txt K mg a fd tk) : FnOk P w K mg base CX0 3 (a 8) (fd 8) ["thing"] (spD K 1 (fnP (fun ds => ∃ d, ds = [d] ∧ Pl d) fun ds r => r = .bl (isFromN (ds.headD .non)))) := by
  refine ok0 T.F_is_from_nought sc_is_from_nought (fun _ _ _ h => h) fun cdv A outer s H E hr => ?_
  refine ⟨_, (pss_one (ps_ret (pe_and (pe_call (ok_is_fraction T) (hr.mono (by decide)) rfl T.n_is_fraction T.F_is_fraction.kp T.b_is_fraction .nil pass0 (pa_cons (pv 0) pa_nil)) (pe_one (pe_cmpR op_ge (pe_ix (ix_ltK (K := K)) (pv 0) pe_int (fun _ _ => rfl)) pe_int (nomark _)))))), ?_⟩
  try dsimp only [cxOf, List.map, List.length_cons, List.length_nil]
  refine ⟨_, inferInstance, ?_⟩
  rintro ρ Ξ Φ ⟨ds, rfl, ⟨d, rfl, hd⟩, k⟩
  have k : ∀ ρ', Φ (.bl (isFrac d && decide (0 ≤ (d.nth 0).toInt))) ρ' := fun ρ' => k _ _ rfl
  refine ⟨_, rfl, trivial, rfl, List.nodup_nil, [d], rfl, ⟨d, rfl, hd⟩, fun r ρ' hr => ?_⟩
  subst hr
  refine ⟨_, rfl, ?_⟩
  show if isFrac d = true then _ else _
  cases q : isFrac d with
  | false =>
    rw [q] at k
    exact k _
  | true =>
    rw [q] at k
    obtain ⟨i, j, rfl⟩ := isFrac_inv q
    exact ⟨_, rfl, _, 0, _, rfl, rfl, rfl, i, 0, rfl, rfl, k _⟩

theorem ok_is_length (T : Txt K mg a fd tk) : FnOk P w K mg base CX0 2 (a 29) (fd 29) ["thing"] (spD K 1 (fnP (fun ds => ∃ d, ds = [d] ∧ Pl d) fun ds r => r = .bl (isLen (ds.headD .non)))) := by
  refine ok0 T.F_is_length sc_is_length (fun _ _ _ h => h) fun cdv A outer s H E hr => ?_
  refine ⟨_, (pss_one (ps_ret (pe_and (pe_call (ok_is_whole T) (hr.mono (by decide)) rfl T.n_is_whole T.F_is_whole.kp T.b_is_whole .nil pass0 (pa_cons (pv 0) pa_nil)) (pe_one (pe_chain op_le op_le (pe_glob (v := .int (2)) rfl T.n_LEAST_LENGTH ⟨_, rfl⟩) (pv 0) (pe_glob (v := .int (1000)) rfl T.n_MOST_LENGTH ⟨_, rfl⟩)))))), ?_⟩
  try dsimp only [cxOf, List.map, List.length_cons, List.length_nil]
  refine ⟨_, inferInstance, ?_⟩
  rintro ρ Ξ Φ ⟨ds, rfl, ⟨d, rfl, hd⟩, k⟩
  have k : ∀ ρ', Φ (.bl (isWhole d && (decide (2 ≤ d.toInt) && decide (d.toInt ≤ 1000)))) ρ' := fun ρ' => k _ _ rfl
  refine ⟨_, rfl, trivial, rfl, List.nodup_nil, [d], rfl, ⟨d, rfl, hd⟩, fun r ρ' hr => ?_⟩
  subst hr
  refine ⟨_, rfl, ?_⟩
  show if isWhole d = true then _ else _
  cases q : isWhole d with
  | false =>
    rw [q] at k
    exact k _
  | true =>
    rw [q] at k
    obtain ⟨i, rfl⟩ := isWhole_inv q
    refine ⟨_, rfl, _, _, rfl, rfl, _, rfl, ?_⟩
    show if decide (2 ≤ i) = true then _ else _
    have k : ∀ ρ', Φ (.bl (decide (2 ≤ i) && decide (i ≤ 1000))) ρ' := k
    cases q2 : decide (2 ≤ i) with
    | false =>
      rw [q2] at k
      exact k _
    | true =>
      rw [q2] at k
      exact ⟨_, _, rfl, rfl, k _⟩

theorem ok_are_props (T : Txt K mg a fd tk) : FnOk P w K mg base CX0 4 (a 30) (fd 30) ["thing", "length"] (spD K 2 (lend (fnP (fun ds => ∃ d n, ds = [d, .int n] ∧ Pl d) fun ds r => r = .bl (areProps (ds.headD .non) (ds.getD 1 .non).toInt)))) := by
  refine ok0 T.F_are_props sc_are_props (fun _ _ _ h => h) fun cdv A outer s H E hr => ?_
  refine ⟨_, (pss_cons (ps_if (PW.pt (pw_or (pt_cmpR op_isNotTy2 (pe_callTy (call_typeK (K := K)) rfl T.n_type (by decide +kernel) (pa_cons (pv 0) pa_nil)) (pe_bltn (v := .ty "list") rfl T.n_list (by decide +kernel) rfl) (nomark _)) (pw_or1 (pt_cmpR op_gt (pe_callB (call_lenK (K := K)) rfl T.n_len (by decide +kernel) (pa_cons (pv 0) pa_nil)) (pe_glob (v := .int (12)) rfl T.n_MOST_PROPS ⟨_, rfl⟩) (nomark _))))) (pss_one (ps_ret pe_bl)) pss_nil)
      (pss_cons (ps_set (i := 2) sc_are_props.nd rfl (by first | exact Or.inl rfl | exact Or.inr rfl) pe_int)
      (pss_cons (ps_for PassesOwn.never rfl (pi_list (pv 0)) (pg_name (i := 3) sc_are_props.nd rfl (by first | exact Or.inl rfl | exact Or.inr rfl)) (pss_cons (ps_if (pt_not (pt_val (pe_call (ok_is_pair T) (hr.mono (by decide)) rfl T.n_is_pair T.F_is_pair.kp T.b_is_pair .nil pass0 (pa_cons (pv 3) pa_nil)))) (pss_one (ps_ret pe_bl)) pss_nil)
      (pss_cons (ps_asg (pv 3) (pg_tup rfl (pgs_cons (pg_name (i := 4) sc_are_props.nd rfl (by first | exact Or.inl rfl | exact Or.inr rfl)) (pgs_cons (pg_name (i := 5) sc_are_props.nd rfl (by first | exact Or.inl rfl | exact Or.inr rfl)) pgs_nil))))
      (pss_cons (ps_if (PW.pt (pw_or (pt_not (pt_val (pe_call (ok_is_whole T) (hr.mono (by decide)) rfl T.n_is_whole T.F_is_whole.kp T.b_is_whole .nil pass0 (pa_cons (pv 4) pa_nil)))) (pw_or1 (pt_not (pt_chain op_lt op_lt (pv 2) (pv 4) (pv 1)))))) (pss_one (ps_ret pe_bl)) pss_nil)
      (pss_cons (ps_if (pt_not (pt_val (pe_call (ok_is_from_nought T) (hr.mono (by decide)) rfl T.n_is_from_nought T.F_is_from_nought.kp T.b_is_from_nought .nil pass0 (pa_cons (pv 5) pa_nil)))) (pss_one (ps_ret pe_bl)) pss_nil)
      (pss_one (ps_set (i := 2) sc_are_props.nd rfl (by first | exact Or.inl rfl | exact Or.inr rfl) (pv 4))))))))
      (pss_one (ps_ret pe_bl))))), ?_⟩
  try dsimp only [cxOf, List.map, List.length_cons, List.length_nil]
  refine ⟨_, inferInstance, ?_⟩
  rintro ρ Ξ Φ ⟨ds, rfl, ⟨d, n, rfl, hd⟩, k⟩
  have k : ∀ ρ', Φ (.bl (areProps d n)) ρ' := fun ρ' => k _ _ rfl
  obtain ⟨m, e⟩ := hd.ty
  refine ⟨_, rfl, m, e, _, rfl, ?_⟩
  show if (!decide (m = "list")) = true then _ else _
  cases q : d.seq with
  | none =>
    have e1 := ty_list e
    rw [q] at e1
    rw [e1]
    have e2 : areProps d n = false := by unfold areProps; rw [q]
    rw [e2] at k
    exact k _
  | some xs =>
    have e1 := ty_list e
    rw [q] at e1
    have e2 : areProps d n = (decide (xs.length ≤ 12) && propsFrom n 0 xs) := by unfold areProps; rw [q]
    rw [e1]
    rw [e2] at k
    have hx := hd.seq q
    have e3 := seq_items q
    refine ⟨_, rfl, trivial, [d], rfl, d, xs, rfl, e3, xs.length, 12, rfl, rfl, _, rfl, ?_⟩
    show if decide ((12 : Int) < (xs.length : Int)) = true then _ else _
    by_cases hl : xs.length ≤ 12
    · rw [decide_eq_false (by omega)]
      rw [decide_eq_true hl] at k
      refine ⟨_, rfl, xs, q, fun i ρ => ∃ (z : Int) (r4 r5 : Option Sl) (r3 : Option Sl), ρ = [some (.pu d), some (.pu (.int n)), some (.pu (.int z)), r3, r4, r5] ∧ propsFrom n 0 xs = propsFrom n z (xs.drop i), ⟨0, none, none, none, rfl, rfl⟩, fun i x ρ hi ⟨z, r4, r5, r3, er, ez⟩ => ?_, fun ρ ⟨z, r4, r5, r3, er, ez⟩ => ?_⟩
      · subst er
        have hd' : xs.drop i = x :: xs.drop (i + 1) := by
          obtain ⟨h1, h2⟩ := List.getElem?_eq_some_iff.mp hi
          rw [← h2]
          exact (List.getElem_cons_drop h1).symm
        rw [hd'] at ez
        have px : Pl x := hx x (List.mem_of_getElem? hi)
        refine ⟨_, rfl, trivial, rfl, List.nodup_nil, [x], rfl, ⟨x, rfl, px⟩, fun r ρ' hr => ?_⟩
        subst hr
        refine ⟨_, rfl, ?_⟩
        show if (!isPair x) = true then _ else _
        rw [ez] at k
        have k : ∀ ρ', Φ (.bl (isPair x && (isProp n z (x.nth 0) (x.nth 1) && propsFrom n (x.nth 0).toInt (xs.drop (i + 1))))) ρ' := k
        cases qp : isPair x with
        | false =>
          rw [qp] at k
          exact k _
        | true =>
          rw [qp] at k
          obtain ⟨u, v, rfl⟩ := isPair_inv qp
          have pu : Pl u := by cases px with | tup h => exact h u (by simp)
          have pv : Pl v := by cases px with | tup h => exact h v (by simp)
          refine ⟨_, rfl, [u, v], rfl, rfl, u, [v], rfl, v, [], rfl, rfl, ?_⟩
          refine ⟨_, rfl, trivial, rfl, List.nodup_nil, [u], rfl, ⟨u, rfl, pu⟩, fun r ρ' hr => ?_⟩
          subst hr
          refine ⟨_, rfl, ?_⟩
          show if (!isWhole u) = true then _ else _
          have k : ∀ ρ', Φ (.bl ((isWhole u && (decide (z < u.toInt) && (decide (u.toInt < n) && isFromN v))) && propsFrom n u.toInt (xs.drop (i + 1)))) ρ' := k
          cases qw : isWhole u with
          | false =>
            rw [qw] at k
            exact k _
          | true =>
            rw [qw] at k
            obtain ⟨j, rfl⟩ := isWhole_inv qw
            have k : ∀ ρ', Φ (.bl ((decide (z < j) && (decide (j < n) && isFromN v)) && propsFrom n j (xs.drop (i + 1)))) ρ' := k
            refine ⟨_, rfl, _, rfl, z, j, rfl, rfl, _, rfl, ?_⟩
            show if decide (z < j) = true then _ else _
            cases q1 : decide (z < j) with
            | false =>
              rw [q1] at k
              exact ⟨_, rfl, k _⟩
            | true =>
              refine ⟨_, rfl, j, n, rfl, rfl, _, rfl, ?_⟩
              show if (!decide (j < n)) = true then _ else _
              rw [q1] at k
              cases q2 : decide (j < n) with
              | false =>
                rw [q2] at k
                exact k _
              | true =>
                rw [q2] at k
                refine ⟨_, rfl, trivial, rfl, List.nodup_nil, [v], rfl, ⟨v, rfl, pv⟩, fun r ρ' hr => ?_⟩
                subst hr
                refine ⟨_, rfl, ?_⟩
                show if (!isFromN v) = true then _ else _
                cases q3 : isFromN v with
                | false =>
                  rw [q3] at k
                  exact k _
                | true =>
                  refine ⟨_, rfl, j, _, _, _, rfl, ?_⟩
                  rw [ez]
                  show (isPair (.tup [.int j, v]) && ((isWhole (.int j) && (decide (z < j) && (decide (j < n) && isFromN v))) && propsFrom n j (xs.drop (i + 1)))) = _
                  rw [q1, q2, q3]
                  rfl
      · subst er
        rw [ez] at k
        have : xs.drop xs.length = [] := by simp
        rw [this] at k
        exact k _
    · rw [decide_eq_true (by omega)]
      rw [decide_eq_false hl] at k
      exact k _

theorem ok_is_bend (T : Txt K mg a fd tk) : FnOk P w K mg base CX0 4 (a 31) (fd 31) ["thing"] (spD K 1 (fnP (fun ds => ∃ d, ds = [d] ∧ Pl d) fun ds r => r = .bl ((ds.headD .non).isNon || isFromN (ds.headD .non)))) := by
  refine ok0 T.F_is_bend sc_is_bend (fun _ _ _ h => h) fun cdv A outer s H E hr => ?_
  refine ⟨_, (pss_one (ps_ret (pe_or (pe_cmp (pc_isN (pv 0)) rfl) (pe_one (pe_call (ok_is_from_nought T) (hr.mono (by decide)) rfl T.n_is_from_nought T.F_is_from_nought.kp T.b_is_from_nought .nil pass0 (pa_cons (pv 0) pa_nil)))))), ?_⟩
  try dsimp only [cxOf, List.map, List.length_cons, List.length_nil]
  refine ⟨_, inferInstance, ?_⟩
  rintro ρ Ξ Φ ⟨ds, rfl, ⟨d, rfl, hd⟩, k⟩
  have k : ∀ ρ', Φ (.bl (d.isNon || isFromN d)) ρ' := fun ρ' => k _ _ rfl
  refine ⟨_, rfl, _, rfl, ?_⟩
  show if d.isNon = true then _ else _
  cases q : d.isNon with
  | true =>
    rw [q] at k
    exact k _
  | false =>
    rw [q] at k
    refine ⟨_, rfl, trivial, rfl, List.nodup_nil, [d], rfl, ⟨d, rfl, hd⟩, fun r ρ' hr => ?_⟩
    subst hr
    exact k _

end
end K06
set_option synthInstance.maxSize 100000
set_option synthInstance.maxHeartbeats 4000000
set_option Elab.async false
set_option linter.all false
set_option maxRecDepth 100000
set_option maxHeartbeats 4000000
set_option autoImplicit false
namespace K06
open PySem L2 Dx Kd
section
variable {P : Program} {w : World} {K : PySem.W.Frag} {mg : Str → Option Value} {a : Nat → Addr} {fd : Nat → FuncData} {tk : Nat → Tok} {base : Heap}
theorem ok_NoPlank___init (T : Txt K mg a fd tk) : FnOk P w K mg base CX0 1 (a 1) (fd 1) ["self", "part"] (spIni K (a 101) "part") :=
  ok_ini T.F_NoPlank___init sc_NoPlank___init rfl T.x_NoPlank fun cdv A outer s H E => pss_one (ps_ost (pv 0) (pv 1))
theorem ok_NoRest___init (T : Txt K mg a fd tk) : FnOk P w K mg base CX0 1 (a 2) (fd 2) ["self", "rest"] (spIni K (a 103) "rest") :=
  ok_ini T.F_NoRest___init sc_NoRest___init rfl T.x_NoRest fun cdv A outer s H E => pss_one (ps_ost (pv 0) (pv 1))
theorem ok_NoWeights___init (T : Txt K mg a fd tk) : FnOk P w K mg base CX0 1 (a 3) (fd 3) ["self", "at"] (spIni K (a 104) "at") :=
  ok_ini T.F_NoWeights___init sc_NoWeights___init rfl T.x_NoWeights fun cdv A outer s H E => pss_one (ps_ost (pv 0) (pv 1))
theorem ok_NoPlace___init (T : Txt K mg a fd tk) : FnOk P w K mg base CX0 1 (a 4) (fd 4) ["self", "place"] (spIni K (a 105) "place") :=
  ok_ini T.F_NoPlace___init sc_NoPlace___init rfl T.x_NoPlace fun cdv A outer s H E => pss_one (ps_ost (pv 0) (pv 1))
theorem ok_Plank___init (T : Txt K mg a fd tk) : FnOk P w K mg base (L2.CX P w) 6 (a 32) (fd 32) ["self", "length", "props", "bend"] (spD K 4 (wInit (a 107) (a 101))) := by
  refine okX T.F_Plank___init sc_Plank___init fun cdv A outer s H E hr => ?_
  refine ⟨_, (pss_cons (ps_if (pt_not (pt_val (pe_call (ok_is_length T) (hr.mono (by decide)) rfl T.n_is_length T.F_is_length.kp T.b_is_length .nil pass0 (pa_cons (pv 1) pa_nil)))) (pss_one (ps_raise1 rfl (takes_of rfl rfl rfl rfl) T.x_NoPlank (ok_NoPlank___init T) (hr.mono (by decide)) T.b_NoPlank___init pass0 rfl T.n_NoPlank pe_str)) pss_nil)
      (pss_cons (ps_if (pt_not (pt_val (pe_call (ok_are_props T) (hr.mono (by decide)) rfl T.n_are_props T.F_are_props.kp T.b_are_props .nil pass0 (pa_cons (pv 2) (pa_cons (pv 1) pa_nil))))) (pss_one (ps_raise1 rfl (takes_of rfl rfl rfl rfl) T.x_NoPlank (ok_NoPlank___init T) (hr.mono (by decide)) T.b_NoPlank___init pass0 rfl T.n_NoPlank pe_str)) pss_nil)
      (pss_cons (ps_if (pt_not (pt_val (pe_call (ok_is_bend T) (hr.mono (by decide)) rfl T.n_is_bend T.F_is_bend.kp T.b_is_bend .nil pass0 (pa_cons (pv 3) pa_nil)))) (pss_one (ps_raise1 rfl (takes_of rfl rfl rfl rfl) T.x_NoPlank (ok_NoPlank___init T) (hr.mono (by decide)) T.b_NoPlank___init pass0 rfl T.n_NoPlank pe_str)) pss_nil)
      (pss_cons (ps_fld (pv 0) (pv 1) rfl)
      (pss_cons (ps_fld (pv 0) (pe_callTy (call_tupleK (K := K)) rfl T.n_tuple (by decide +kernel) (pa_cons (pv 2) pa_nil)) rfl)
      (pss_one (ps_fld (pv 0) (pv 3) rfl))))))), ?_⟩
  try dsimp only [cxOf, List.map, List.length_cons, List.length_nil]
  refine ⟨_, inferInstance, ?_⟩
  rintro ρ Ξ Φ ⟨l, p, b, sp, rfl, hsp, hl, hp, hb, k1, k2, k3, k4⟩
  rcases hsp with rfl | ⟨xs, rfl, rfl⟩
  · refine ⟨_, rfl, trivial, rfl, List.nodup_nil, [l], rfl, ⟨l, rfl, hl⟩, fun r ρ' hr => ?_⟩
    subst hr
    refine ⟨_, rfl, ?_⟩
    show if (!isLen l) = true then _ else _
    cases q1 : isLen l with
    | false => exact k1 q1 _
    | true =>
      obtain ⟨i, rfl⟩ := isWhole_inv (Bool.and_eq_true_iff.mp q1).1
      refine .inl ⟨p, rfl, _, rfl, _, rfl, trivial, trivial, rfl, List.nodup_nil, [p, .int i], rfl, ⟨p, i, rfl, hp⟩, fun r ρ' hr => ?_⟩
      subst hr
      refine ⟨_, rfl, ?_⟩
      show if (!areProps p i) = true then _ else _
      cases q2 : areProps p i with
      | false => exact k2 q1 q2 _
      | true =>
        obtain ⟨zs, ex⟩ := areProps_seq q2
        refine ⟨_, rfl, trivial, rfl, List.nodup_nil, [b], rfl, ⟨b, rfl, hb⟩, fun r ρ' hr => ?_⟩
        subst hr
        refine ⟨_, rfl, ?_⟩
        show if (!bendOk b) = true then _ else _
        cases q3 : bendOk b with
        | false => exact k3 q1 q2 q3 _
        | true =>
          refine ⟨_, rfl, _, _, _, rfl, T.c_Plank, ⟨T.f_length, by decide +kernel⟩, by decide, ?_⟩
          refine ⟨_, rfl, zs, seq_items ex, _, _, _, rfl, T.c_Plank, ⟨T.f_props, by decide +kernel⟩, by show 1 < 1000; decide, ?_⟩
          refine ⟨_, rfl, _, _, _, rfl, T.c_Plank, ⟨T.f_bend, by decide +kernel⟩, by show 2 < 1000; decide, ?_⟩
          exact k4 q1 q2 q3 zs ex
  · refine ⟨_, rfl, trivial, rfl, List.nodup_nil, [l], rfl, ⟨l, rfl, hl⟩, fun r ρ' hr => ?_⟩
    subst hr
    refine ⟨_, rfl, ?_⟩
    show if (!isLen l) = true then _ else _
    cases q1 : isLen l with
    | false => exact k1 q1 _
    | true =>
      obtain ⟨i, rfl⟩ := isWhole_inv (Bool.and_eq_true_iff.mp q1).1
      refine .inr ⟨true, xs, rfl, _, rfl, trivial, rfl, [.int i], rfl, rfl, [.lst xs, .int i], rfl, ⟨.lst xs, i, rfl, hp⟩, fun r ρ' hr => ?_⟩
      subst hr
      refine ⟨rfl, _, rfl, ?_⟩
      show if (!areProps (.lst xs) i) = true then _ else _
      cases q2 : areProps (.lst xs) i with
      | false => exact k2 q1 q2 _
      | true =>
        obtain ⟨zs, ex⟩ := areProps_seq q2
        refine ⟨_, rfl, trivial, rfl, List.nodup_nil, [b], rfl, ⟨b, rfl, hb⟩, fun r ρ' hr => ?_⟩
        subst hr
        refine ⟨_, rfl, ?_⟩
        show if (!bendOk b) = true then _ else _
        cases q3 : bendOk b with
        | false => exact k3 q1 q2 q3 _
        | true =>
          refine ⟨_, rfl, _, _, _, rfl, T.c_Plank, ⟨T.f_length, by decide +kernel⟩, by decide, ?_⟩
          refine ⟨_, rfl, zs, by cases ex; rfl, _, _, _, rfl, T.c_Plank, ⟨T.f_props, by decide +kernel⟩, by show 1 < 1000; decide, ?_⟩
          refine ⟨_, rfl, _, _, _, rfl, T.c_Plank, ⟨T.f_bend, by decide +kernel⟩, by show 2 < 1000; decide, ?_⟩
          exact k4 q1 q2 q3 zs ex

theorem ok_Plank_length (T : Txt K mg a fd tk) : FnOk P w K mg base CX0 1 (a 33) (fd 33) ["self"] (spD K 1 (selfP (a 107) fun l xs b r => r = l)) := by
  refine ok0 T.F_Plank_length sc_Plank_length (fun _ _ _ h => h) fun cdv A outer s H E hr => ?_
  refine ⟨_, (pss_one (ps_ret (pe_fld (pv 0) rfl))), ?_⟩
  try dsimp only [cxOf, List.map, List.length_cons, List.length_nil]
  refine ⟨_, inferInstance, ?_⟩
  rintro ρ Ξ Φ ⟨ds, rfl, ⟨l, xs, b, rfl⟩, k⟩
  exact ⟨_, rfl, _, _, _, rfl, T.c_Plank, T.f_length, look1, k _ _ (by rintro l' xs' b' h; cases h; rfl)⟩

theorem ok_Plank_bend (T : Txt K mg a fd tk) : FnOk P w K mg base CX0 1 (a 35) (fd 35) ["self"] (spD K 1 (selfP (a 107) fun l xs b r => r = b)) := by
  refine ok0 T.F_Plank_bend sc_Plank_bend (fun _ _ _ h => h) fun cdv A outer s H E hr => ?_
  refine ⟨_, (pss_one (ps_ret (pe_fld (pv 0) rfl))), ?_⟩
  try dsimp only [cxOf, List.map, List.length_cons, List.length_nil]
  refine ⟨_, inferInstance, ?_⟩
  rintro ρ Ξ Φ ⟨ds, rfl, ⟨l, xs, b, rfl⟩, k⟩
  exact ⟨_, rfl, _, _, _, rfl, T.c_Plank, T.f_bend, look3, k _ _ (by rintro l' xs' b' h; cases h; rfl)⟩

theorem ok_Plank_count (T : Txt K mg a fd tk) : FnOk P w K mg base CX0 1 (a 36) (fd 36) ["self"] (spD K 1 (selfP (a 107) fun l xs b r => r = .int xs.length)) := by
  refine ok0 T.F_Plank_count sc_Plank_count (fun _ _ _ h => h) fun cdv A outer s H E hr => ?_
  refine ⟨_, (pss_one (ps_ret (pe_callB (call_lenK (K := K)) rfl T.n_len (by decide +kernel) (pa_cons (pe_fld (pv 0) rfl) pa_nil)))), ?_⟩
  try dsimp only [cxOf, List.map, List.length_cons, List.length_nil]
  refine ⟨_, inferInstance, ?_⟩
  rintro ρ Ξ Φ ⟨ds, rfl, ⟨l, xs, b, rfl⟩, k⟩
  exact ⟨_, rfl, _, _, _, rfl, T.c_Plank, T.f_props, look2, trivial, [_], rfl, _, xs, rfl, rfl, k _ _ (by rintro l' xs' b' h; cases h; rfl)⟩

theorem ok_Plank_props (T : Txt K mg a fd tk) : FnOk P w K mg base CX0 1 (a 34) (fd 34) ["self"] (spF K 1 (selfF (a 107) fun l xs b c => c = .lst xs)) := by
  refine okF T.F_Plank_props sc_Plank_props fun cdv A outer s H E hr => ?_
  refine ⟨_, (pss_one (ps_ret (pe_callTy (call_listK (K := K)) rfl T.n_list (by decide +kernel) (pa_cons (pe_fld (pv 0) rfl) pa_nil)))), ?_⟩
  try dsimp only [cxOf, List.map, List.length_cons, List.length_nil]
  refine ⟨_, inferInstance, ?_⟩
  rintro ρ Φ ⟨ds, rfl, ⟨l, xs, b, rfl⟩, k⟩
  exact ⟨_, rfl, _, _, _, rfl, T.c_Plank, T.f_props, look2, trivial, [_], rfl, _, xs, rfl, rfl, k _ _ (by rintro l' xs' b' h; cases h; rfl)⟩

theorem ok_Plank_place_of (T : Txt K mg a fd tk) : FnOk P w K mg base (L2.CX P w) 3 (a 37) (fd 37) ["self", "rest"] (spD K 2 (wPlace (a 107) (a 103))) := by
  refine okX T.F_Plank_place_of sc_Plank_place_of fun cdv A outer s H E hr => ?_
  refine ⟨_, (pss_cons (ps_if (PW.pt (pw_or (pt_not (pt_val (pe_call (ok_is_whole T) (hr.mono (by decide)) rfl T.n_is_whole T.F_is_whole.kp T.b_is_whole .nil pass0 (pa_cons (pv 1) pa_nil)))) (pw_or1 (pt_not (pt_chain op_le op_le (pe_glob (v := .int (-1)) rfl T.n_LEFT_REST ⟨_, rfl⟩) (pv 1) (pe_meth0 (pv 0) T.c_Plank T.m_Plank_count (ok_Plank_count T) (hr.mono (by decide)) T.b_Plank_count .nil pass0)))))) (pss_one (ps_raise1 rfl (takes_of rfl rfl rfl rfl) T.x_NoRest (ok_NoRest___init T) (hr.mono (by decide)) T.b_NoRest___init pass0 rfl T.n_NoRest (pv 1))) pss_nil)
      (pss_cons (ps_if (pt_cmpR (op_eqK (K := K) hr.units) (pv 1) (pe_glob (v := .int (-1)) rfl T.n_LEFT_REST ⟨_, rfl⟩) (nomark _)) (pss_one (ps_ret pe_int)) pss_nil)
      (pss_cons (ps_if (pt_cmpR (op_eqK (K := K) hr.units) (pv 1) (pe_meth0 (pv 0) T.c_Plank T.m_Plank_count (ok_Plank_count T) (hr.mono (by decide)) T.b_Plank_count .nil pass0) (nomark _)) (pss_one (ps_ret (pe_fld (pv 0) rfl))) pss_nil)
      (pss_one (ps_ret (pe_ix (ix_ltK (K := K)) (pe_ix (ix_ltK (K := K)) (pe_fld (pv 0) rfl) (pv 1) (fun _ _ => rfl)) pe_int (fun _ _ => rfl))))))), ?_⟩
  try dsimp only [cxOf, List.map, List.length_cons, List.length_nil]
  refine ⟨_, inferInstance, ?_⟩
  rintro ρ Ξ Φ ⟨l, xs, b, r, rfl, hr, hxs, k1, k2⟩
  have cnt : ∀ (ρ0 : Ab) (Φ' : D → Ab → Prop), (∀ ρ' : Ab, Φ' (.int xs.length) ρ') → selfP (a 107) (fun l xs b r => r = .int xs.length) [some (.pu (plk (a 107) l xs b))] X0 Φ' := fun _ Φ' h => ⟨[_], rfl, ⟨l, xs, b, rfl⟩, fun r ρ' q => by rw [q l xs b rfl]; exact h _⟩
  refine ⟨_, rfl, trivial, rfl, List.nodup_nil, [r], rfl, ⟨r, rfl, hr⟩, fun r' ρ' h => ?_⟩
  subst h
  refine ⟨_, rfl, ?_⟩
  show if (!isWhole r) = true then _ else _
  cases q1 : isWhole r with
  | false => exact ⟨_, rfl, k1 (by unfold isRest; rw [q1]; rfl) _⟩
  | true =>
    obtain ⟨i, rfl⟩ := isWhole_inv q1
    refine ⟨_, rfl, _, i, rfl, rfl, _, rfl, ?_⟩
    show if decide (-1 ≤ i) = true then _ else _
    cases q2 : decide (-1 ≤ i) with
    | false => exact ⟨_, rfl, ⟨_, rfl, k1 (by show (decide (-1 ≤ i) && _) = false; rw [q2]; rfl) _⟩⟩
    | true =>
      refine ⟨_, rfl, _, rfl, lookN (by decide +kernel) (by decide +kernel) (by decide +kernel), rfl, List.nodup_nil, cnt [] _ fun ρ' => ?_⟩
      refine ⟨i, xs.length, rfl, rfl, _, rfl, ?_⟩
      show if (!decide (i ≤ (xs.length : Int))) = true then _ else _
      cases q3 : decide (i ≤ (xs.length : Int)) with
      | false => exact ⟨_, rfl, k1 (by show (decide (-1 ≤ i) && decide (i ≤ (xs.length : Int))) = false; rw [q2, q3]; rfl) _⟩
      | true =>
        have k2 := k2 (by show (decide (-1 ≤ i) && decide (i ≤ (xs.length : Int))) = true; rw [q2, q3]; rfl)
        have k2 : ∀ ρ', Φ (plcOf l xs i) ρ' := k2
        unfold plcOf at k2
        refine ⟨_, rfl, .inl ⟨i, -1, rfl, rfl, _, rfl, ?_⟩⟩
        show if decide (i = -1) = true then _ else _
        by_cases z1 : i = -1
        · rw [if_pos z1] at k2
          rw [decide_eq_true z1]
          exact k2 _
        · rw [if_neg z1] at k2
          rw [decide_eq_false z1]
          refine ⟨_, rfl, _, rfl, _, rfl, lookN (by decide +kernel) (by decide +kernel) (by decide +kernel), rfl, List.nodup_nil, cnt [] _ fun ρ' => .inl ⟨i, xs.length, rfl, rfl, _, rfl, ?_⟩⟩
          show if decide (i = (xs.length : Int)) = true then _ else _
          by_cases z2 : i = (xs.length : Int)
          · rw [if_pos z2] at k2
            rw [decide_eq_true z2]
            exact ⟨_, rfl, _, _, _, rfl, T.c_Plank, T.f_length, look1, k2 _⟩
          · rw [if_neg z2] at k2
            rw [decide_eq_false z2]
            have h2 : -1 ≤ i := of_decide_eq_true q2
            have h3 : i ≤ (xs.length : Int) := of_decide_eq_true q3
            obtain ⟨j, rfl⟩ : ∃ j : Nat, i = (j : Int) := ⟨i.toNat, by omega⟩
            have hj : j < xs.length := by omega
            obtain ⟨u, v, e⟩ := hxs xs[j] (List.getElem_mem hj)
            have e2 : xs[j]? = some (.tup [u, v]) := by rw [List.getElem?_eq_getElem hj, e]
            have e3 : xs.getD (j : Int).toNat .non = .tup [u, v] := by
              rw [Int.toNat_natCast, List.getD_eq_getElem?_getD, e2]
              rfl
            rw [e3] at k2
            exact ⟨_, rfl, _, _, _, rfl, T.c_Plank, T.f_props, look2, _, rfl, xs, (j : Int), _, rfl, rfl, atI_nat e2, _, 0, u, rfl, rfl, rfl, k2 _⟩

theorem ok_Plank___eq (T : Txt K mg a fd tk) : FnOk P w K mg base CX0 1 (a 39) (fd 39) ["self", "other"] (spD K 2 (wEq K (a 107))) := by
  refine ok0 T.F_Plank___eq sc_Plank___eq (fun _ _ _ h => h) fun cdv A outer s H E hr => ?_
  refine ⟨_, (pss_one (ps_ret (pe_and (pe_callB (call_isiK (K := K)) rfl T.n_isinstance (by decide +kernel) (pa_cons (pv 1) (pa_cons (pe_glob (v := .ref (a 107)) rfl T.n_Plank rfl) pa_nil))) (pe_and (pe_cmpR (op_eqK (K := K) hr.units) (pe_fld (pv 0) rfl) (pe_fld (pv 1) rfl) (nomark _)) (pe_and (pe_cmpR (op_eqK (K := K) hr.units) (pe_fld (pv 0) rfl) (pe_fld (pv 1) rfl) (nomark _)) (pe_one (pe_cmpR (op_eqK (K := K) hr.units) (pe_fld (pv 0) rfl) (pe_fld (pv 1) rfl) (nomark _)))))))), ?_⟩
  try dsimp only [cxOf, List.map, List.length_cons, List.length_nil]
  refine ⟨_, inferInstance, ?_⟩
  rintro ρ Ξ Φ ⟨ds, rfl, ⟨l, xs, b, o, rfl, ok, ho⟩, k⟩
  rcases ho with ho | ⟨l', xs', b', rfl, ok'⟩
  · have k : ∀ ρ', Φ (.bl false) ρ' := fun ρ' => k _ _ fun l' xs' b' o' e => by
      cases e
      exact ⟨fun _ => rfl, fun l' xs' b' e => by
        subst e
        exact (isi_not ho).elim⟩
    exact ⟨_, rfl, false, ho, _, rfl, k _⟩
  · have k : ∀ ρ', Φ (.bl (peq l xs b l' xs' b')) ρ' := fun ρ' => k _ _ fun l2 xs2 b2 o2 e => by
      cases e
      exact ⟨fun h => (isi_not h).elim, fun l3 xs3 b3 e => by cases e; rfl⟩
    obtain ⟨⟨i, rfl⟩, s1, s2⟩ := ok
    obtain ⟨⟨i', rfl⟩, s1', s2'⟩ := ok'
    refine ⟨_, rfl, true, isi_self T.i_Plank, _, rfl, _, rfl, _, _, _, rfl, T.c_Plank, T.f_length, look1, _, rfl, _, _, _, rfl, T.c_Plank, T.f_length, look1, .inr ⟨8, by decide, .int 8 i, .int 8 i', _, rfl, ?_⟩⟩
    unfold peq at k
    show if eqD (.int i) (.int i') = true then _ else _
    cases q1 : eqD (.int i) (.int i') with
    | false => rw [q1] at k; exact k _
    | true =>
      rw [q1] at k
      refine ⟨_, rfl, _, _, _, rfl, T.c_Plank, T.f_props, look2, _, rfl, _, _, _, rfl, T.c_Plank, T.f_props, look2, .inr ⟨8, by decide, s1, s1', _, rfl, ?_⟩⟩
      show if eqD (.tup xs) (.tup xs') = true then _ else _
      cases q2 : eqD (.tup xs) (.tup xs') with
      | false => rw [q2] at k; exact k _
      | true =>
        rw [q2] at k
        exact ⟨_, rfl, _, _, _, rfl, T.c_Plank, T.f_bend, look3, _, rfl, _, _, _, rfl, T.c_Plank, T.f_bend, look3, .inr ⟨8, by decide, s2, s2', k _⟩⟩

end
end K06
set_option Elab.async false
set_option linter.all false
set_option maxRecDepth 100000
set_option maxHeartbeats 4000000
set_option autoImplicit false
/-! Qd: fractions told as rationals. -/
namespace Kd
open PySem L2 Dx
/-- a fraction in lowest terms -/
def frD (q : Rat) : D := .tup [.int q.num, .int (q.den : Int)]
theorem frD_divInt {t b : Int} (hb : 0 < b) : frD (Rat.divInt t b) = .tup [.int (t / ((Nat.gcd t.natAbs b.natAbs : Nat) : Int)), .int (b / ((Nat.gcd t.natAbs b.natAbs : Nat) : Int))] := by
  have e1 : (Rat.divInt t b).num = t / ((Nat.gcd t.natAbs b.natAbs : Nat) : Int) := by
    rw [Rat.num_divInt, Int.sign_eq_one_of_pos hb, Int.one_mul]
    show t / ((Nat.gcd b.natAbs t.natAbs : Nat) : Int) = _
    rw [Nat.gcd_comm]
  have e2 : (((Rat.divInt t b).den : Nat) : Int) = b / ((Nat.gcd t.natAbs b.natAbs : Nat) : Int) := by
    rw [Rat.den_divInt, if_neg (by omega)]
    show ((b.natAbs / Nat.gcd b.natAbs t.natAbs : Nat) : Int) = _
    rw [Nat.gcd_comm, Int.natCast_ediv, Int.natAbs_of_nonneg (by omega)]
  unfold frD
  rw [e1, e2]
theorem frD_int (n : Int) : frD n = .tup [.int n, .int 1] := rfl
theorem frD_pl (q : Rat) : Pl (frD q) := Pl.pair (.int _) (.int _)
theorem frD_frac (q : Rat) : isFrac (frD q) = true := by
  show (true && (true && (true && (decide ((1 : Int) ≤ (q.den : Int)) && decide (Nat.gcd q.num.natAbs q.den = 1))))) = true
  have h1 : (1 : Int) ≤ (q.den : Int) := by have := q.den_pos; omega
  have h2 : Nat.gcd q.num.natAbs q.den = 1 := q.reduced
  rw [decide_eq_true h1, decide_eq_true h2]
  rfl
theorem frD_nought {q : Rat} (h : 0 ≤ q) : isFromN (frD q) = true := by
  unfold isFromN
  rw [frD_frac]
  show (true && decide (0 ≤ q.num)) = true
  rw [decide_eq_true (Rat.num_nonneg.mpr h)]
  rfl
theorem isFromN_frD {d : D} (h : isFromN d = true) : ∃ q : Rat, d = frD q ∧ 0 ≤ q := by
  unfold isFromN at h
  obtain ⟨h1, h2⟩ := Bool.and_eq_true_iff.mp h
  obtain ⟨i, j, rfl⟩ := isFrac_inv h1
  have h1 : (true && (true && (true && (decide ((1 : Int) ≤ j) && decide (Nat.gcd i.natAbs j.natAbs = 1))))) = true := h1
  simp only [Bool.true_and, Bool.and_eq_true, decide_eq_true_eq] at h1
  have h3 : decide (0 ≤ i) = true := h2
  have h3 : 0 ≤ i := of_decide_eq_true h3
  obtain ⟨n, rfl⟩ : ∃ n : Nat, j = n := ⟨j.toNat, by omega⟩
  refine ⟨⟨i, n, by omega, h1.2⟩, rfl, ?_⟩
  exact Rat.num_nonneg.mp h3
theorem frD_inj {p q : Rat} (h : frD p = frD q) : p = q := by
  unfold frD at h
  injection h with h
  injection h with h1 h2
  injection h1 with h1
  injection h2 with h2
  injection h2 with h2
  exact Rat.ext h1 (by omega)
theorem shp_fr (q : Rat) : Shp 1 (frD q) := .tup fun d hd => by
  simp only [List.mem_cons, List.not_mem_nil, or_false] at hd
  rcases hd with rfl | rfl <;> exact .int _ _
/-! ### sizes -/
/-- n bits above, m below -/
def Bt (n m : Nat) (q : Rat) : Prop := q.num.natAbs < 2 ^ n ∧ q.den < 2 ^ m
theorem Bt.mono {n m n' m' : Nat} {q : Rat} (h : Bt n m q) (hn : n ≤ n') (hm : m ≤ m') : Bt n' m' q :=
  ⟨Nat.lt_of_lt_of_le h.1 (Nat.pow_le_pow_right (by decide) hn), Nat.lt_of_lt_of_le h.2 (Nat.pow_le_pow_right (by decide) hm)⟩
theorem abs_mul_lt {i j : Int} {n m : Nat} (hi : i.natAbs < 2 ^ n) (hj : j.natAbs < 2 ^ m) : (i * j).natAbs < 2 ^ (n + m) := by
  rw [Int.natAbs_mul, Nat.pow_add]
  exact Nat.mul_lt_mul'' hi hj
theorem abs_add_lt {i j : Int} {n : Nat} (hi : i.natAbs < 2 ^ n) (hj : j.natAbs < 2 ^ n) : (i + j).natAbs < 2 ^ (n + 1) := by
  rw [Nat.pow_succ]
  have := Int.natAbs_add_le i j
  omega
theorem abs_sub_lt {i j : Int} {n : Nat} (hi : i.natAbs < 2 ^ n) (hj : j.natAbs < 2 ^ n) : (i - j).natAbs < 2 ^ (n + 1) := by
  rw [Nat.pow_succ]
  have := Int.natAbs_sub_le i j
  omega
theorem abs_up {i : Int} {n m : Nat} (h : i.natAbs < 2 ^ n) (l : n ≤ m) : i.natAbs < 2 ^ m := Nat.lt_of_lt_of_le h (Nat.pow_le_pow_right (by decide) l)
theorem mul_ok {i j : Int} {n m : Nat} (hi : i.natAbs < 2 ^ n) (hj : j.natAbs < 2 ^ m) (l : n + m ≤ 900000) : CMulA i j := by
  refine .inr ?_
  have g : ∀ {x : Nat} {k : Nat}, x < 2 ^ k → x.log2 ≤ k := fun {x k} h => by
    by_cases hx : x = 0
    · subst hx; simp
    · exact Nat.le_of_lt ((Nat.log2_lt hx).mpr h)
  show i.natAbs.log2 + j.natAbs.log2 < 1000000
  have := g hi
  have := g hj
  omega
theorem div_ok {g : Nat} {n : Nat} (h0 : 0 < g) (h : g < 2 ^ n) (l : n ≤ 9000) : CDivW 0 (g : Int) := ⟨by omega, by
  show g.log2 < 9000
  have := (Nat.log2_lt (by omega)).mpr h
  omega⟩
theorem divInt_num_le {t b : Int} (hb : 0 < b) : (Rat.divInt t b).num.natAbs ≤ t.natAbs := by
  have e := frD_divInt (t := t) hb
  unfold frD at e
  injection e with e
  injection e with e1 _
  injection e1 with e1
  rw [e1, Int.natAbs_ediv_of_dvd (by
    have : ((Nat.gcd t.natAbs b.natAbs : Nat) : Int) ∣ t := Int.ofNat_dvd_left.mpr (Nat.gcd_dvd_left _ _)
    exact this)]
  exact Nat.div_le_self _ _
theorem divInt_den_dvd {t b : Int} (hb : 0 < b) : (Rat.divInt t b).den ∣ b.natAbs := by
  rw [Rat.den_divInt, if_neg (by omega)]
  exact Nat.div_dvd_of_dvd (Nat.gcd_dvd_left _ _)
theorem divInt_bt {t b : Int} {n m : Nat} (hb : 0 < b) (h1 : t.natAbs < 2 ^ n) (h2 : b.natAbs < 2 ^ m) : Bt n m (Rat.divInt t b) :=
  ⟨Nat.lt_of_le_of_lt (divInt_num_le hb) h1, Nat.lt_of_le_of_lt (Nat.le_of_dvd (by omega) (divInt_den_dvd hb)) h2⟩
theorem add_eq (p q : Rat) : p + q = Rat.divInt (p.num * (q.den : Int) + q.num * (p.den : Int)) ((p.den : Int) * (q.den : Int)) := by
  rw [Rat.add_def', ← Rat.divInt_ofNat, Int.natCast_mul]
theorem sub_eq (p q : Rat) : p - q = Rat.divInt (p.num * (q.den : Int) - q.num * (p.den : Int)) ((p.den : Int) * (q.den : Int)) := by
  rw [Rat.sub_def', ← Rat.divInt_ofNat, Int.natCast_mul]
theorem mul_eq (p q : Rat) : p * q = Rat.divInt (p.num * q.num) ((p.den : Int) * (q.den : Int)) := by
  rw [Rat.mul_def', ← Rat.divInt_ofNat, Int.natCast_mul]
theorem den_pos2 (p q : Rat) : 0 < (p.den : Int) * (q.den : Int) := Int.mul_pos (by have := p.den_pos; omega) (by have := q.den_pos; omega)
theorem den_abs (p : Rat) {m : Nat} (h : p.den < 2 ^ m) : ((p.den : Int)).natAbs < 2 ^ m := by rw [Int.natAbs_natCast]; exact h
theorem Bt.add {p q : Rat} {n m n' m' : Nat} (h : Bt n m p) (h' : Bt n' m' q) : Bt (max (n + m') (n' + m) + 1) (m + m') (p + q) := by
  rw [add_eq]
  exact divInt_bt (den_pos2 p q) (abs_add_lt (abs_up (abs_mul_lt h.1 (den_abs q h'.2)) (Nat.le_max_left _ _)) (abs_up (abs_mul_lt h'.1 (den_abs p h.2)) (Nat.le_max_right _ _))) (abs_mul_lt (den_abs p h.2) (den_abs q h'.2))
theorem Bt.sub {p q : Rat} {n m n' m' : Nat} (h : Bt n m p) (h' : Bt n' m' q) : Bt (max (n + m') (n' + m) + 1) (m + m') (p - q) := by
  rw [sub_eq]
  exact divInt_bt (den_pos2 p q) (abs_sub_lt (abs_up (abs_mul_lt h.1 (den_abs q h'.2)) (Nat.le_max_left _ _)) (abs_up (abs_mul_lt h'.1 (den_abs p h.2)) (Nat.le_max_right _ _))) (abs_mul_lt (den_abs p h.2) (den_abs q h'.2))
theorem Bt.mul {p q : Rat} {n m n' m' : Nat} (h : Bt n m p) (h' : Bt n' m' q) : Bt (n + n') (m + m') (p * q) := by
  rw [mul_eq]
  exact divInt_bt (den_pos2 p q) (abs_mul_lt h.1 h'.1) (abs_mul_lt (den_abs p h.2) (den_abs q h'.2))
theorem lt_eq (p q : Rat) : decide (p.num * (q.den : Int) < q.num * (p.den : Int)) = decide (p < q) := by
  by_cases h : p < q
  · rw [decide_eq_true h, decide_eq_true ((Rat.lt_iff p q).mp h)]
  · rw [decide_eq_false h, decide_eq_false fun z => h ((Rat.lt_iff p q).mpr z)]
end Kd
set_option synthInstance.maxSize 100000
set_option synthInstance.maxHeartbeats 4000000
set_option Elab.async false
set_option linter.all false
set_option maxRecDepth 100000
set_option maxHeartbeats 4000000
set_option autoImplicit false
/-! Ez6: what may be a key, told as a tuple again. -/
namespace Dx
open PySem PySem.Spec PyProof.Rows L2
mutual
def D.fg : D → D
  | .trk ds => .tup (D.fgA ds)
  | .tup ds => .tup (D.fgA ds)
  | .lst ds => .lst (D.fgA ds)
  | .sql ds => .sql (D.fgA ds)
  | .non => .non
  | .bl b => .bl b
  | .int i => .int i
  | .str x => .str x
  | .dic es => .dic es
  | .obj C fs => .obj C fs
  | .raw a => .raw a
  | .exc a C d gs => .exc a C d gs
def D.fgA : List D → List D
  | [] => []
  | d :: ds => D.fg d :: D.fgA ds
end
theorem fgA_map : ∀ ds : List D, D.fgA ds = ds.map D.fg
  | [] => rfl
  | d :: ds => by
    unfold D.fgA
    rw [fgA_map ds, List.map_cons]
section
variable {K : PySem.W.Frag} {B : Hp}
mutual
theorem Dr.fg {v : V} {d : D} (h : Dr K B v d) : Dr K B v d.fg := by
  cases h with
  | non => exact .non
  | bl b => exact .bl b
  | int i => exact .int i
  | str x => exact .str x
  | tup h1 h2 => exact .tup h1 (DrA.fg h2)
  | trk h1 h2 => exact .tup (.inl (.inl h1)) (DrA.fg h2)
  | lst h1 h2 => exact .lst h1 (DrA.fg h2)
  | sql h1 h2 => exact .sql h1 (DrA.fg h2)
  | dic h1 h2 => exact .dic h1 h2
  | obj h1 h2 => exact .obj h1 h2
  | raw a => exact .raw a
  | exc0 a C => exact .exc0 a C
  | exc h1 h2 => exact .exc h1 h2
theorem DrA.fg {vs : List V} {ds : List D} (h : DrA K B vs ds) : DrA K B vs (D.fgA ds) := by
  cases h with
  | nil => exact .nil
  | cons h1 h2 => exact .cons (Dr.fg h1) (DrA.fg h2)
end
end
def tFg (te : TE) : TE := te
theorem PE.fg {X : Cx} {e : Expr} {te : TE} (h : PE X e te) : PE X e (tFg te) := h
section
variable {K : PySem.W.Frag} {W : WX}
def pFg (pa : PEx) : PEx := fun ρ Ξ Φ => pa ρ Ξ fun d ρ1 => Φ d.fg ρ1
instance (priority := high) rf_fg {te : TE} {pa : PEx} [ha : RfE K W te pa] : RfE K W (tFg te) (pFg pa) where
  run := fun Γ B ρ σ H Q Ξ Φ r xo h po => ha.run Γ B ρ σ H _ Ξ _ r xo h fun v d B1 H1 ρ1 r1 s1 dr hq => po _ _ _ _ _ r1 s1 dr.fg hq
def tGT (K : PySem.W.Frag) (a : Addr) (ns : List Int) : TE := fun _ H Q => (∀ B : Hp, SqT K B a (ns.map V.int)) → Q (.ref a) H
theorem PE.constT {X : Cx} {e : Expr} {K : PySem.W.Frag} {a : Addr} (ns : List Int) (h : PE X e (tC (.ref a))) (hs : ∀ B : Hp, SqT K B a (ns.map V.int)) : PE X e (tGT K a ns) := ⟨fun pins s σ H Q I t => h.run pins s σ H Q I (t hs)⟩
theorem dra_intsT {B : Hp} : ∀ ns : List Int, DrA K B (ns.map V.int) (ns.map D.int)
  | [] => .nil
  | n :: ns => .cons (.int n) (dra_intsT ns)
instance rf_constT {a : Addr} {ns : List Int} : RfE K W (tGT K a ns) (fun ρ _ Φ => Φ (.tup (ns.map D.int)) ρ) where
  run := fun Γ B ρ σ H Q Ξ Φ r xo h po => fun hs => po _ _ _ _ _ r (Same.refl _) (.tup (hs B) (dra_intsT ns)) h
end
end Dx
set_option synthInstance.maxSize 100000
set_option synthInstance.maxHeartbeats 4000000
set_option Elab.async false
set_option linter.all false
set_option maxRecDepth 100000
set_option maxHeartbeats 4000000
set_option autoImplicit false
namespace K06
open PySem L2 Dx Kd
def sumQ (qs : List Rat) : Rat := qs.foldl (· + ·) 0
theorem sumQ_next {qs : List Rat} {i : Nat} {q : Rat} (h : qs[i]? = some q) : sumQ (qs.take i) + q = sumQ (qs.take (i + 1)) := by
  unfold sumQ
  rw [List.take_add_one, h, List.foldl_append]
  rfl
theorem sumQ_bt {qs : List Rat} (hb : ∀ q ∈ qs, Bt 180 80 q) (hl : qs.length ≤ 14) : ∀ i, i ≤ qs.length → Bt (181 + 81 * i) (80 * i + 1) (sumQ (qs.take i))
  | 0, _ => by
    show Bt 181 1 0
    exact ⟨by decide, by decide⟩
  | i + 1, hi => by
    have h : qs[i]? = some qs[i] := List.getElem?_eq_getElem (by omega)
    rw [← sumQ_next h]
    exact ((sumQ_bt hb hl i (by omega)).add (hb _ (List.getElem_mem (by omega)))).mono (by omega) (by omega)
theorem map_frD_inj : ∀ {ps qs : List Rat}, ps.map frD = qs.map frD → ps = qs
  | [], [], _ => rfl
  | [], q :: qs, h => by cases h
  | p :: ps, [], h => by cases h
  | p :: ps, q :: qs, h => by
    injection h with h1 h2
    rw [frD_inj h1, map_frD_inj h2]
/-- a fraction whose tuple may be a key -/
def trkD (q : Rat) : D := .trk [.int q.num, .int q.den]
def FrOf (d : D) (q : Rat) : Prop := d = frD q ∨ d = trkD q
theorem FrOf.items {d : D} {q : Rat} (h : FrOf d q) : d.items = some [.int q.num, .int q.den] := by
  rcases h with rfl | rfl <;> rfl
def wBelow : Pm := fun ρ Ξ Φ => ∃ (x y : D) (p q : Rat), ρ = pus [x, y] ∧ FrOf x p ∧ FrOf y q ∧ Bt 2000 2000 p ∧ Bt 2000 2000 q ∧ ∀ ρ', Φ (.bl (decide (p < q))) ρ'
theorem trkD_divInt {t b : Int} (hb : 0 < b) : trkD (Rat.divInt t b) = .trk [.int (t / ((Nat.gcd t.natAbs b.natAbs : Nat) : Int)), .int (b / ((Nat.gcd t.natAbs b.natAbs : Nat) : Int))] := by
  have e := frD_divInt (t := t) hb
  unfold frD at e
  unfold trkD
  injection e with e
  rw [e]
theorem fg_trk (q : Rat) : (trkD q).fg = frD q := rfl
theorem fg_fr (q : Rat) : (frD q).fg = frD q := rfl
theorem fg_int (i : Int) : (D.int i).fg = .int i := rfl
def wBelowG : Pm := fun ρ Ξ Φ => ∃ (x y : D) (t b t' b' : Int), ρ = pus [x, y] ∧ x.items = some [.int t, .int b] ∧ y.items = some [.int t', .int b'] ∧ (t.natAbs < 2 ^ 1000 ∧ b.natAbs < 2 ^ 1000) ∧ (t'.natAbs < 2 ^ 1000 ∧ b'.natAbs < 2 ^ 1000) ∧ ∀ ρ', Φ (.bl (decide (t * b' < t' * b))) ρ'
section
variable {P : Program} {w : World} {K : PySem.W.Frag} {mg : Str → Option Value} {a : Nat → Addr} {fd : Nat → FuncData} {tk : Nat → Tok} {base : Heap}
theorem ok_reduced (T : Txt K mg a fd tk) : FnOk P w K mg base CX0 1 (a 9) (fd 9) ["top", "bottom"] (spD K 2 (fnP (fun ds => ∃ t b, ds = [.int t, .int b] ∧ 1 ≤ b ∧ b.natAbs < 2 ^ 4000) fun ds r => ∀ t b, ds = [.int t, .int b] → r = frD (Rat.divInt t b))) := by
  refine ok0 T.F_reduced sc_reduced (fun _ _ _ h => h) fun cdv A outer s H E hr => ?_
  refine ⟨_, (pss_cons (ps_assert (pt_cmpR (op_neK (K := K) hr.units) (pv 1) pe_int (nomark _)))
      (pss_cons (ps_set (i := 2) sc_reduced.nd rfl (by first | exact Or.inl rfl | exact Or.inr rfl) (pe_callBfun cr_gcd rfl T.n_gcd (pa_cons (pv 0) (pa_cons (pv 1) pa_nil))))
      (pss_cons (ps_if (pt_cmpR op_lt (pv 1) pe_int (nomark _)) (pss_one (ps_set (i := 2) sc_reduced.nd rfl (by first | exact Or.inl rfl | exact Or.inr rfl) (pe_un un_neg (pv 2)))) pss_nil)
      (pss_one (ps_ret (pe_tup (pa_cons (pe_op op_fdivW (pv 0) (pv 2)) (pa_cons (pe_op op_fdivW (pv 1) (pv 2)) pa_nil)))))))), ?_⟩
  try dsimp only [cxOf, List.map, List.length_cons, List.length_nil]
  refine ⟨_, inferInstance, ?_⟩
  rintro ρ Ξ Φ ⟨ds, rfl, ⟨t, b, rfl, hb, hb2⟩, k⟩
  have bp : 0 < b.natAbs := by omega
  have gp : 0 < Nat.gcd t.natAbs b.natAbs := Nat.gcd_pos_of_pos_right _ bp
  have gb : Nat.gcd t.natAbs b.natAbs ≤ b.natAbs := Nat.le_of_dvd bp (Nat.gcd_dvd_right _ _)
  have dg : CDivW 0 ((Nat.gcd t.natAbs b.natAbs : Nat) : Int) := div_ok gp (Nat.lt_of_le_of_lt gb hb2) (by decide)
  refine ⟨_, rfl, .inl ⟨b, 0, rfl, rfl, _, rfl, ?_, ?_⟩⟩
  · show (!decide (b = 0)) = true
    rw [decide_eq_false (by omega : ¬ b = 0)]
    rfl
  refine ⟨_, rfl, _, rfl, trivial, trivial, [.int t, .int b], rfl, t, b, rfl, ?_⟩
  refine ⟨_, rfl, b, 0, rfl, rfl, _, rfl, ?_⟩
  show if decide (b < 0) = true then _ else _
  rw [decide_eq_false (by omega : ¬ b < 0)]
  exact ⟨_, rfl, _, rfl, t, _, rfl, rfl, dg, _, rfl, _, rfl, b, _, rfl, rfl, dg, trivial, trivial, [_, _], rfl, (by show 2 ≤ 100000; decide), k _ _ fun t' b' e => by
    cases e
    rw [frD_divInt (by omega)]⟩

theorem ok_of_whole (T : Txt K mg a fd tk) : FnOk P w K mg base CX0 1 (a 10) (fd 10) ["number"] (spD K 1 (fnP (fun ds => ∃ n, ds = [D.int n]) fun ds r => ∀ n : Int, ds = [D.int n] → r = trkD (n : Rat))) := by
  refine ok0 T.F_of_whole sc_of_whole (fun _ _ _ h => h) fun cdv A outer s H E hr => ?_
  refine ⟨_, (pss_one (ps_ret (PE.tupK (pe_tup (pa_cons (pv 0) (pa_cons pe_int pa_nil)))))), ?_⟩
  try dsimp only [cxOf, List.map, List.length_cons, List.length_nil]
  refine ⟨_, inferInstance, ?_⟩
  rintro ρ Ξ Φ ⟨ds, rfl, ⟨n, rfl⟩, k⟩
  exact ⟨_, rfl, trivial, trivial, [.int n, .int 1], rfl, (by show 2 ≤ 100000; decide), k _ _ fun n' e => by cases e; rfl⟩

theorem ok_is_below (T : Txt K mg a fd tk) : FnOk P w K mg base CX0 1 (a 11) (fd 11) ["one", "other"] (spD K 2 wBelow) := by
  refine ok0 T.F_is_below sc_is_below (fun _ _ _ h => h) fun cdv A outer s H E hr => ?_
  refine ⟨_, (pss_one (ps_ret (pe_cmpR op_lt (pe_op op_mulA (pe_ix (ix_ltK (K := K)) (pv 0) pe_int (fun _ _ => rfl)) (pe_ix (ix_ltK (K := K)) (pv 1) pe_int (fun _ _ => rfl))) (pe_op op_mulA (pe_ix (ix_ltK (K := K)) (pv 1) pe_int (fun _ _ => rfl)) (pe_ix (ix_ltK (K := K)) (pv 0) pe_int (fun _ _ => rfl))) (nomark _)))), ?_⟩
  try dsimp only [cxOf, List.map, List.length_cons, List.length_nil]
  refine ⟨_, inferInstance, ?_⟩
  rintro ρ Ξ Φ ⟨x, y, p, q, rfl, fx, fy, hp, hq, k⟩
  have d1 := den_abs p hp.2
  have d2 := den_abs q hq.2
  refine ⟨_, rfl, [.int p.num, .int p.den], 0, _, fx.items, rfl, rfl, _, rfl, [.int q.num, .int q.den], 1, _, fy.items, rfl, rfl, _, _, rfl, rfl, mul_ok hp.1 d2 (by decide), _, rfl, [.int q.num, .int q.den], 0, _, fy.items, rfl, rfl, _, rfl, [.int p.num, .int p.den], 1, _, fx.items, rfl, rfl, _, _, rfl, rfl, mul_ok hq.1 d1 (by decide), _, _, rfl, rfl, ?_⟩
  show Φ (D.bl (decide (p.num * (q.den : Int) < q.num * (p.den : Int)))) _
  rw [lt_eq]
  exact k _

theorem ok_is_belowG (T : Txt K mg a fd tk) : FnOk P w K mg base CX0 1 (a 11) (fd 11) ["one", "other"] (spD K 2 wBelowG) := by
  refine ok0 T.F_is_below sc_is_below (fun _ _ _ h => h) fun cdv A outer s H E hr => ?_
  refine ⟨_, (pss_one (ps_ret (pe_cmpR op_lt (pe_op op_mulA (pe_ix (ix_ltK (K := K)) (pv 0) pe_int (fun _ _ => rfl)) (pe_ix (ix_ltK (K := K)) (pv 1) pe_int (fun _ _ => rfl))) (pe_op op_mulA (pe_ix (ix_ltK (K := K)) (pv 1) pe_int (fun _ _ => rfl)) (pe_ix (ix_ltK (K := K)) (pv 0) pe_int (fun _ _ => rfl))) (nomark _)))), ?_⟩
  try dsimp only [cxOf, List.map, List.length_cons, List.length_nil]
  refine ⟨_, inferInstance, ?_⟩
  rintro ρ Ξ Φ ⟨x, y, t, b, t', b', rfl, fx, fy, hp, hq, k⟩
  exact ⟨_, rfl, [.int t, .int b], 0, _, fx, rfl, rfl, _, rfl, [.int t', .int b'], 1, _, fy, rfl, rfl, _, _, rfl, rfl, mul_ok hp.1 hq.2 (by decide), _, rfl, [.int t', .int b'], 0, _, fy, rfl, rfl, _, rfl, [.int t, .int b], 1, _, fx, rfl, rfl, _, _, rfl, rfl, mul_ok hq.1 hp.2 (by decide), _, _, rfl, rfl, k _⟩

theorem ok_law_cut (T : Txt K mg a fd tk) : FnOk P w K mg base CX0 1 (a 63) (fd 63) ["_law_top", "_law_bottom"] (spD K 2 (fnP (fun ds => ∃ t b, ds = [.int t, .int b] ∧ 1 ≤ b ∧ b.natAbs < 2 ^ 4000) fun ds r => ∀ t b, ds = [.int t, .int b] → r = trkD (Rat.divInt t b))) := by
  refine ok0 T.F_law_cut sc_law_cut (fun _ _ _ h => h) fun cdv A outer s H E hr => ?_
  refine ⟨_, (pss_cons (ps_par (i := 2) (j := 3) (by rfl) sc_law_cut.nd rfl rfl (by decide) rfl rfl (pa_cons (pe_callB call_abs rfl T.n_abs (by decide +kernel) (pa_cons (pv 0) pa_nil)) (pa_cons (pv 1) pa_nil)) (by rfl))
      (pss_cons (ps_while PassesOwn.never (pt_cmpR op_gt (pv 3) pe_int (nomark _)) (pss_one (ps_par (i := 2) (j := 3) (by rfl) sc_law_cut.nd rfl rfl (by decide) rfl rfl (pa_cons (pv 3) (pa_cons (pe_op op_mod (pe_callTy call_int1 rfl T.n_int (by decide +kernel) (pa_cons (pv 2) pa_nil)) (pv 3)) pa_nil)) (by rfl))))
      (pss_one (ps_ret (PE.tupK (pe_tup (pa_cons (pe_op op_fdivW (pv 0) (pv 2)) (pa_cons (pe_op op_fdivW (pv 1) (pv 2)) pa_nil)))))))), ?_⟩
  try dsimp only [cxOf, List.map, List.length_cons, List.length_nil]
  refine ⟨_, inferInstance, ?_⟩
  rintro ρ Ξ Φ ⟨ds, rfl, ⟨t, b, rfl, hb, hb2⟩, k⟩
  refine ⟨_, rfl, trivial, [.int t], rfl, t, rfl, _, rfl, trivial, trivial, .int (if t < 0 then -t else t), .int b, rfl, ?_⟩
  have ea : (if t < 0 then -t else t) = ((t.natAbs : Nat) : Int) := by split <;> omega
  rw [ea]
  refine ⟨fun n ρ => ∃ x y : Int, n = y.natAbs ∧ ρ = [some (.pu (.int t)), some (.pu (.int b)), some (.pu (.int x)), some (.pu (.int y))] ∧ 0 ≤ x ∧ 0 ≤ y ∧ Nat.gcd x.natAbs y.natAbs = Nat.gcd t.natAbs b.natAbs, ⟨_, _, b, rfl, rfl, by omega, by omega, by rw [Int.natAbs_natCast]⟩, ?_⟩
  rintro n ρ ⟨x, y, rfl, rfl, hx, hy, hg⟩
  refine ⟨_, rfl, y, 0, rfl, rfl, _, rfl, ?_⟩
  show if decide (0 < y) = true then _ else _
  cases q : decide (0 < y) with
  | true =>
    have q : 0 < y := of_decide_eq_true q
    refine ⟨_, rfl, _, rfl, trivial, [.int x], rfl, .inl ⟨x, rfl, _, rfl, x, y, rfl, rfl, q, trivial, trivial, .int y, .int (x % y), rfl, (x % y).natAbs, ?_, y, x % y, rfl, rfl, hy, Int.emod_nonneg _ (by omega), (gcd_turn hx q).trans hg⟩⟩
    have h1 := Int.emod_nonneg x (show y ≠ 0 by omega)
    have h2 := Int.emod_lt_of_pos x q
    omega
  | false =>
    have q : ¬ 0 < y := of_decide_eq_false q
    have y0 : y = 0 := by omega
    subst y0
    obtain ⟨g, rfl⟩ : ∃ g : Nat, x = g := ⟨x.toNat, by omega⟩
    have hg : g = Nat.gcd t.natAbs b.natAbs := by
      rw [← hg]
      show g = Nat.gcd g 0
      rw [Nat.gcd_zero_right]
    have bp : 0 < b.natAbs := by omega
    have gp : 0 < g := by rw [hg]; exact Nat.gcd_pos_of_pos_right _ bp
    have gb : g ≤ b.natAbs := by rw [hg]; exact Nat.le_of_dvd bp (Nat.gcd_dvd_right _ _)
    have dg : CDivW 0 (g : Int) := div_ok gp (Nat.lt_of_le_of_lt gb hb2) (by decide)
    exact ⟨_, rfl, _, rfl, t, g, rfl, rfl, dg, _, rfl, _, rfl, b, g, rfl, rfl, dg, trivial, trivial, [_, _], rfl, (by show 2 ≤ 100000; decide), k _ _ fun t' b' e => by
      cases e
      rw [trkD_divInt (by omega), ← hg]⟩

theorem ok_law_plus (T : Txt K mg a fd tk) : FnOk P w K mg base CX0 2 (a 64) (fd 64) ["_law_one_here", "_law_other"] (spD K 2 (fnP (fun ds => ∃ p q, ds = [frD p, frD q] ∧ Bt 2000 2000 p ∧ Bt 2000 2000 q) fun ds r => ∀ p q, ds = [frD p, frD q] → r = trkD (p + q))) := by
  refine ok0 T.F_law_plus sc_law_plus (fun _ _ _ h => h) fun cdv A outer s H E hr => ?_
  refine ⟨_, (pss_one (ps_ret (pe_call (ok_law_cut T) (hr.mono (by decide)) rfl T.n_law_cut T.F_law_cut.kp T.b_law_cut .nil pass0 (pa_cons (pe_op op_add (pe_op op_mulA (pe_ix (ix_ltK (K := K)) (pv 0) pe_int (fun _ _ => rfl)) (pe_ix (ix_ltK (K := K)) (pv 1) pe_int (fun _ _ => rfl))) (pe_op op_mulA (pe_ix (ix_ltK (K := K)) (pv 1) pe_int (fun _ _ => rfl)) (pe_ix (ix_ltK (K := K)) (pv 0) pe_int (fun _ _ => rfl)))) (pa_cons (pe_op op_mulA (pe_ix (ix_ltK (K := K)) (pv 0) pe_int (fun _ _ => rfl)) (pe_ix (ix_ltK (K := K)) (pv 1) pe_int (fun _ _ => rfl))) pa_nil))))), ?_⟩
  try dsimp only [cxOf, List.map, List.length_cons, List.length_nil]
  refine ⟨_, inferInstance, ?_⟩
  rintro ρ Ξ Φ ⟨ds, rfl, ⟨p, q, rfl, hp, hq⟩, k⟩
  have d1 := den_abs p hp.2
  have d2 := den_abs q hq.2
  refine ⟨_, rfl, _, 0, _, rfl, rfl, rfl, _, rfl, _, 1, _, rfl, rfl, rfl, _, _, rfl, rfl, mul_ok hp.1 d2 (by decide), _, rfl, _, 0, _, rfl, rfl, rfl, _, rfl, _, 1, _, rfl, rfl, rfl, _, _, rfl, rfl, mul_ok hq.1 d1 (by decide), _, _, rfl, rfl, _, rfl, _, 1, _, rfl, rfl, rfl, _, rfl, _, 1, _, rfl, rfl, rfl, _, _, rfl, rfl, mul_ok d1 d2 (by decide), trivial, trivial, rfl, List.nodup_nil, [_, _], rfl, ⟨_, _, rfl, by have := den_pos2 p q; omega, abs_up (abs_mul_lt d1 d2) (by decide)⟩, fun r ρ' h => ?_⟩
  rw [h _ _ rfl]
  exact k _ _ fun p' q' e => by
    injection e with e1 e2
    injection e2 with e2
    rw [← frD_inj e1, ← frD_inj e2, add_eq]

theorem ok_law_below (T : Txt K mg a fd tk) : FnOk P w K mg base CX0 1 (a 67) (fd 67) ["_law_one_here", "_law_other"] (spD K 2 (fnP (fun ds => ∃ p q, ds = [frD p, frD q] ∧ Bt 2000 2000 p ∧ Bt 2000 2000 q) fun ds r => ∀ p q, ds = [frD p, frD q] → r = .bl (decide (p < q)))) := by
  refine ok0 T.F_law_below sc_law_below (fun _ _ _ h => h) fun cdv A outer s H E hr => ?_
  refine ⟨_, (pss_one (ps_ret (pe_cmpR op_lt (pe_op op_mulA (pe_ix (ix_ltK (K := K)) (pv 0) pe_int (fun _ _ => rfl)) (pe_ix (ix_ltK (K := K)) (pv 1) pe_int (fun _ _ => rfl))) (pe_op op_mulA (pe_ix (ix_ltK (K := K)) (pv 1) pe_int (fun _ _ => rfl)) (pe_ix (ix_ltK (K := K)) (pv 0) pe_int (fun _ _ => rfl))) (nomark _)))), ?_⟩
  try dsimp only [cxOf, List.map, List.length_cons, List.length_nil]
  refine ⟨_, inferInstance, ?_⟩
  rintro ρ Ξ Φ ⟨ds, rfl, ⟨p, q, rfl, hp, hq⟩, k⟩
  have d1 := den_abs p hp.2
  have d2 := den_abs q hq.2
  refine ⟨_, rfl, _, 0, _, rfl, rfl, rfl, _, rfl, _, 1, _, rfl, rfl, rfl, _, _, rfl, rfl, mul_ok hp.1 d2 (by decide), _, rfl, _, 0, _, rfl, rfl, rfl, _, rfl, _, 1, _, rfl, rfl, rfl, _, _, rfl, rfl, mul_ok hq.1 d1 (by decide), _, _, rfl, rfl, ?_⟩
  exact k _ _ fun p' q' e => by
    injection e with e1 e2
    injection e2 with e2
    rw [← frD_inj e1, ← frD_inj e2]
    show D.bl (decide (p.num * (q.den : Int) < q.num * (p.den : Int))) = _
    rw [lt_eq]

end
end K06
set_option synthInstance.maxSize 100000
set_option synthInstance.maxHeartbeats 4000000
set_option Elab.async false
set_option linter.all false
set_option maxRecDepth 100000
set_option maxHeartbeats 4000000
set_option autoImplicit false
namespace K06
open PySem L2 Dx Kd
/-- a drawn fraction -/
def MeasQ (q : Rat) : Prop := 0 ≤ q ∧ Bt 40 30 q ∧ q.den ∣ 693000000
theorem MeasQ.fn {q : Rat} (h : MeasQ q) : isFromN (frD q) = true := frD_nought h.1
theorem cut_nonneg {t b : Int} (ht : 0 ≤ t) (hb : 0 < b) : 0 ≤ Rat.divInt t b := by
  have e := frD_divInt (t := t) hb
  unfold frD at e
  injection e with e
  injection e with e1 _
  injection e1 with e1
  rw [← Rat.num_nonneg, e1]
  exact Int.ediv_nonneg ht (Int.natCast_nonneg _)
def wMeasQ : Pm := fun ρ Ξ Φ => ∃ t m, ρ = [some (.ow true (.lst t)), some (.pu (.int m))] ∧ SrcOk t ∧ 0 ≤ m ∧ m ≤ 1000000 ∧
  ∀ q t' ρ', SrcOk t' → MeasQ q → ρ'.head? = some (some (.ow true (.lst t'))) → Φ (frD q) ρ'
theorem mq_at {ρ : Ab} {p : Bool} {t : List D} {m : Int} {Ψ : D → Ab → Prop} (h0 : ρ[0]? = some (some (.ow p (.lst t)))) (ht : SrcOk t) (m1 : 0 ≤ m) (m2 : m ≤ 1000000) (k : ∀ q t' tl, SrcOk t' → MeasQ q → Ψ (frD q) (some (.ow true (.lst t')) :: tl)) :
    (∃ p c, ρ[0]? = some (some (.ow p c))) ∧ 2 = 2 ∧ (slots [Ar.sl 0, Ar.pu (.int m)]).Nodup ∧ wMeasQ (List.map (slOf ρ) [Ar.sl 0, Ar.pu (.int m)]) X0 Ψ := by
  refine ⟨⟨p, _, h0⟩, rfl, nd2 _, t, m, by rw [List.map_cons, slOf_sl h0]; rfl, ht, m1, m2, fun q t' ρ' ht' hr hh => ?_⟩
  match ρ', hh with
  | y :: tl, hh =>
    cases hh
    exact k q t' tl ht' hr
theorem twelve_dvd : ∀ n : Nat, n < 12 → 1 + n ∣ 693000000 := by decide
/-- a plank's bend -/
def bdD : Option Rat → D
  | none => .non
  | some q => frD q
def BdOk (b : D) : Prop := ∃ bo : Option Rat, b = bdD bo ∧ ∀ q, bo = some q → Bt 43 30 q
def wPlankQ : Pm := fun ρ Ξ Φ => ∃ t, ρ = [some (.ow true (.lst t))] ∧ SrcOk t ∧ ∀ l xs b t' ρ', SrcOk t' → MOk l xs b → BdOk b → ρ'.head? = some (some (.ow true (.lst t'))) → Φ (mD l xs b) ρ'
section
variable {P : Program} {w : World} {K : PySem.W.Frag} {mg : Str → Option Value} {a : Nat → Addr} {fd : Nat → FuncData} {tk : Nat → Tok} {base : Heap}
theorem ok_law_cell_at (T : Txt K mg a fd tk) : FnOk P w K mg base CX0 1 (a 59) (fd 59) ["_law_script", "_law_k"] (spD K 2 (fnP (fun ds => ∃ d ns k, ds = [d, .int k] ∧ d.seq = some (intsD ns) ∧ 0 ≤ k) fun ds r => ∃ i, r = .int i)) := by
  refine ok0 T.F_law_cell_at sc_law_cell_at (fun _ _ _ h => h) fun cdv A outer s H E hr => ?_
  refine ⟨_, (pss_cons (ps_if (pt_cmpR op_lt (pv 1) (pe_callB (call_lenK (K := K)) rfl T.n_len (by decide +kernel) (pa_cons (pv 0) pa_nil)) (nomark _)) (pss_one (ps_ret (pe_ix (ix_ltK (K := K)) (pv 0) (pv 1) (fun _ _ => rfl)))) pss_nil)
      (pss_one (ps_ret pe_int))), ?_⟩
  try dsimp only [cxOf, List.map, List.length_cons, List.length_nil]
  refine ⟨_, inferInstance, ?_⟩
  rintro ρ Ξ Φ ⟨ds, rfl, ⟨d, ns, k, rfl, hd, h0⟩, q⟩
  have q : ∀ i ρ', Φ (.int i) ρ' := fun i ρ' => q _ _ ⟨i, rfl⟩
  refine ⟨_, rfl, _, rfl, trivial, [d], rfl, d, intsD ns, rfl, seq_items hd, k, _, rfl, rfl, _, rfl, ?_⟩
  show if decide (k < ((intsD ns).length : Int)) = true then _ else _
  cases q1 : decide (k < ((intsD ns).length : Int)) with
  | false => exact q 0 _
  | true =>
    have h1 : k < ((intsD ns).length : Int) := of_decide_eq_true q1
    have h1 : k < ns.length := by unfold intsD at h1; rw [List.length_map] at h1; exact h1
    obtain ⟨i, e⟩ := intsD_at h0 h1
    exact ⟨_, rfl, _, rfl, intsD ns, k, _, seq_items hd, rfl, e, q _ _⟩

theorem ok_law_source (T : Txt K mg a fd tk) : FnOk P w K mg base CX0 1 (a 60) (fd 60) ["_law_cell"] (spF K 1 (fnF (fun ds => ∃ i, ds = [D.int i]) fun ds c => ∃ t, SrcOk t ∧ c = .lst t)) := by
  refine okF T.F_law_source sc_law_source fun cdv A outer s H E hr => ?_
  refine ⟨_, (pss_one (ps_ret (pe_lst (pa_cons (pe_op op_mulA (pv 0) (pe_callTy call_int1 rfl T.n_int (by decide +kernel) (pa_cons (pe_cmpR op_ge (pv 0) (pe_op op_pow pe_int pe_int) (nomark _)) pa_nil))) (pa_cons (pe_op op_mod (pe_callTy call_int1 rfl T.n_int (by decide +kernel) (pa_cons (pv 0) pa_nil)) pe_int) (pa_cons pe_int pa_nil)))))), ?_⟩
  try dsimp only [cxOf, List.map, List.length_cons, List.length_nil]
  refine ⟨_, inferInstance, ?_⟩
  rintro ρ Φ ⟨ds, rfl, ⟨i, rfl⟩, k⟩
  have one : CMulA i (if decide ((10 : Int) ^ (18 : Int).toNat ≤ i) = true then 1 else 0) := .inl (.inr (by split <;> exact ⟨by decide, by decide⟩))
  refine ⟨_, rfl, _, rfl, 10, 18, rfl, rfl, ⟨by decide, by decide, by decide⟩, i, _, rfl, rfl, trivial, _, rfl, .inr ⟨_, rfl, i, _, rfl, rfl, one, _, rfl, trivial, [.int i], rfl, .inl ⟨i, rfl, i, _, rfl, rfl, (by show (0 : Int) < 2147483563; decide), ?_⟩⟩⟩
  exact ⟨trivial, trivial, trivial, [_, _, _], rfl, by show 3 ≤ 100000; decide, k _ _ ⟨_, ⟨_, _, _, rfl⟩, rfl⟩⟩

theorem ok_law_take (T : Txt K mg a fd tk) : FnOk P w K mg base CX0 1 (a 61) (fd 61) ["_law_source_here", "_law_many"] (spD K 2 wTake) := by
  refine ok0 T.F_law_take sc_law_take (fun _ _ _ h => h) fun cdv A outer s H E hr => ?_
  refine ⟨_, (pss_cons (ps_if (pt_cmpR op_gt (pe_ix (ix_ltK (K := K)) (pv 0) pe_int (fun _ _ => rfl)) pe_int (nomark _)) (pss_cons (ps_set (i := 2) sc_law_take.nd rfl (by first | exact Or.inl rfl | exact Or.inr rfl) (pe_op op_mod (pe_callTy call_int1 rfl T.n_int (by decide +kernel) (pa_cons (pe_ix (ix_ltK (K := K)) (pv 0) pe_int (fun _ _ => rfl)) pa_nil)) (pv 1)))
      (pss_cons (ps_asg (pe_op op_fdivW (pe_ix (ix_ltK (K := K)) (pv 0) pe_int (fun _ _ => rfl)) (pv 1)) (pg_sub (pv 0) pe_int set_list))
      (pss_one (ps_ret (pv 2))))) pss_nil)
      (pss_cons (ps_asg (pe_op op_add (pe_ix (ix_ltK (K := K)) (pv 0) pe_int (fun _ _ => rfl)) pe_int) (pg_sub (pv 0) pe_int set_list))
      (pss_cons (ps_set (i := 3) sc_law_take.nd rfl (by first | exact Or.inl rfl | exact Or.inr rfl) (pe_op op_mod (pe_callTy call_int1 rfl T.n_int (by decide +kernel) (pa_cons (pe_op op_mulA (pe_op op_add (pe_op op_add (pe_ix (ix_ltK (K := K)) (pv 0) pe_int (fun _ _ => rfl)) (pe_op op_mulA pe_int (pe_ix (ix_ltK (K := K)) (pv 0) pe_int (fun _ _ => rfl)))) pe_int) pe_int) pa_nil)) pe_int))
      (pss_cons (ps_set (i := 3) sc_law_take.nd rfl (by first | exact Or.inl rfl | exact Or.inr rfl) (pe_op op_mod (pe_callTy call_int1 rfl T.n_int (by decide +kernel) (pa_cons (pe_op op_mulA (pv 3) (pe_op op_add (pe_op op_fdivW (pv 3) pe_int) pe_int)) pa_nil)) pe_int))
      (pss_one (ps_ret (pe_op op_mod (pe_callTy call_int1 rfl T.n_int (by decide +kernel) (pa_cons (pe_op op_fdivW (pe_op op_mod (pe_callTy call_int1 rfl T.n_int (by decide +kernel) (pa_cons (pe_op op_mulA (pv 3) (pe_op op_add (pe_op op_fdivW (pv 3) pe_int) pe_int)) pa_nil)) pe_int) pe_int) pa_nil)) (pv 1)))))))), ?_⟩
  try dsimp only [cxOf, List.map, List.length_cons, List.length_nil]
  refine ⟨_, inferInstance, ?_⟩
  rintro ρ Ξ Φ ⟨t, m, rfl, ⟨a, b, c, rfl⟩, m1, m2, k⟩
  have hm : (0 : Int) < m := by omega
  have hl : m.natAbs.log2 < 9000 := by
    have h1 : m.natAbs < 2 ^ 60 := by omega
    have := (Nat.log2_lt (by omega)).mpr h1
    omega
  refine ⟨_, rfl, true, _, 0, .int a, rfl, rfl, rfl, a, 0, rfl, rfl, _, rfl, ?_⟩
  show if decide (0 < a) = true then _ else _
  cases q1 : decide (0 < a) with
  | true =>
    refine ⟨_, rfl, true, _, 0, .int a, rfl, rfl, rfl, trivial, [.int a], rfl, .inl ⟨a, rfl, _, rfl, a, m, rfl, rfl, hm, ?_⟩⟩
    refine ⟨_, rfl, true, _, 0, .int a, rfl, rfl, rfl, _, rfl, a, m, rfl, rfl, ⟨hm, hl⟩, ⟨true, _, rfl⟩, true, _, 0, 0, rfl, rfl, rfl, ?_⟩
    exact ⟨_, rfl, k (a % m) [.int (a / m), .int b, .int c] _ ⟨_, _, _, rfl⟩ (Int.emod_nonneg _ (by omega)) (Int.emod_lt_of_pos _ hm) rfl⟩
  | false =>
    refine ⟨_, rfl, true, _, 2, .int c, rfl, rfl, rfl, c, 1, rfl, rfl, ⟨true, _, rfl⟩, true, _, 2, 2, rfl, rfl, rfl, ?_⟩
    refine ⟨_, rfl, true, [.int a, .int b, .int (c + 1)], 1, .int b, rfl, rfl, rfl, _, rfl, true, [.int a, .int b, .int (c + 1)], 2, .int (c + 1), rfl, rfl, rfl, 49979687, c + 1, rfl, rfl, .inl (.inl ⟨by decide, by decide⟩), b, 49979687 * (c + 1), rfl, rfl, b + 49979687 * (c + 1), 1, rfl, rfl, b + 49979687 * (c + 1) + 1, 48271, rfl, rfl, .inl (.inr ⟨by decide, by decide⟩), trivial, [_], rfl, .inl ⟨_, rfl, _, 2147483647, rfl, rfl, (by show (0 : Int) < 2147483647; decide), ?_⟩⟩
    have n1 := Int.emod_nonneg ((b + 49979687 * (c + 1) + 1) * 48271) (show (2147483647 : Int) ≠ 0 by decide)
    have n2 := Int.emod_lt_of_pos ((b + 49979687 * (c + 1) + 1) * 48271) (show (0 : Int) < 2147483647 by decide)
    have d1013 : CDivW 0 1013 := ⟨by decide, by decide⟩
    have d2017 : CDivW 0 2017 := ⟨by decide, by decide⟩
    have d3 : CDivW 0 3 := ⟨by decide, by decide⟩
    refine ⟨_, rfl, _, rfl, _, 1013, rfl, rfl, d1013, _, 69621, rfl, rfl, _, _, rfl, rfl, .inl (.inl ⟨by omega, by omega⟩), trivial, [_], rfl, .inl ⟨_, rfl, _, 2147483629, rfl, rfl, (by show (0 : Int) < 2147483629; decide), ?_⟩⟩
    generalize (b + 49979687 * (c + 1) + 1) * 48271 % 2147483647 = n at *
    have p1 := Int.emod_nonneg (n * (n / 1013 + 69621)) (show (2147483629 : Int) ≠ 0 by decide)
    have p2 := Int.emod_lt_of_pos (n * (n / 1013 + 69621)) (show (0 : Int) < 2147483629 by decide)
    refine ⟨_, rfl, _, rfl, _, 2017, rfl, rfl, d2017, _, 40692, rfl, rfl, _, _, rfl, rfl, .inl (.inl ⟨by omega, by omega⟩), trivial, [_], rfl, .inl ⟨_, rfl, _, 2147483399, rfl, rfl, (by show (0 : Int) < 2147483399; decide), _, 3, rfl, rfl, d3, trivial, [_], rfl, .inl ⟨_, rfl, _, rfl, _, m, rfl, rfl, hm, ?_⟩⟩⟩
    exact k _ [.int a, .int b, .int (c + 1)] _ ⟨_, _, _, rfl⟩ (Int.emod_nonneg _ (by omega)) (Int.emod_lt_of_pos _ hm) rfl

theorem ok_law_one (T : Txt K mg a fd tk) : FnOk P w K mg base CX0 2 (a 62) (fd 62) ["_law_source_here", "_law_some"] (spD K 2 wOne) := by
  refine ok0 T.F_law_one sc_law_one (fun _ _ _ h => h) fun cdv A outer s H E hr => ?_
  refine ⟨_, (pss_one (ps_ret (pe_ix (ix_ltK (K := K)) (pv 1) (pe_call (ok_law_take T) (hr.mono (by decide)) rfl T.n_law_take T.F_law_take.kp T.b_law_take .nil pass0 (pa_cons (pv 0) (pa_cons (pe_callB (call_lenK (K := K)) rfl T.n_len (by decide +kernel) (pa_cons (pv 1) pa_nil)) pa_nil))) (fun _ _ => rfl)))), ?_⟩
  try dsimp only [cxOf, List.map, List.length_cons, List.length_nil]
  refine ⟨_, inferInstance, ?_⟩
  rintro ρ Ξ Φ ⟨t, d, xs, rfl, ht, hd, hne, hl, k⟩
  refine ⟨_, rfl, _, rfl, .inl ⟨_, rfl, trivial, [d], rfl, d, xs, rfl, seq_items hd, ?_⟩⟩
  have hpos : 0 < xs.length := List.length_pos_iff.mpr hne
  have nd : (slots [Ar.sl 0, Ar.pu (.int xs.length)]).Nodup := by show [0].Nodup; decide
  refine ⟨trivial, ⟨true, _, rfl⟩, rfl, nd, t, xs.length, rfl, ht, by omega, by omega, fun r t' ρ' ht' r0 r1 hh => ?_⟩
  obtain ⟨j, rfl⟩ : ∃ j : Nat, r = j := ⟨r.toNat, by omega⟩
  have hj : j < xs.length := by omega
  match ρ', hh with
  | x :: tl, hh =>
    cases hh
    exact ⟨xs, (j : Int), xs[j], seq_items hd, rfl, atI_nat (List.getElem?_eq_getElem hj), k _ t' _ ht' (List.getElem_mem hj) rfl⟩

theorem ok_law_measure (T : Txt K mg a fd tk) : FnOk P w K mg base CX0 3 (a 69) (fd 69) ["_law_source_here", "_law_most"] (spD K 2 wMeasQ) := by
  refine ok0 T.F_law_measure sc_law_measure (fun _ _ _ h => h) fun cdv A outer s H E hr => ?_
  refine ⟨_, (pss_cons (ps_set (i := 2) sc_law_measure.nd rfl (by first | exact Or.inl rfl | exact Or.inr rfl) (pe_call (ok_law_one T) (hr.mono (by decide)) rfl T.n_law_one T.F_law_one.kp T.b_law_one .nil pass0 (pa_cons (pv 0) (pa_cons (pe_lst (pa_cons pe_int (pa_cons pe_int (pa_cons pe_int (pa_cons pe_int (pa_cons pe_int (pa_cons pe_int (pa_cons (pe_op op_add pe_int (pe_call (ok_law_take T) (hr.mono (by decide)) rfl T.n_law_take T.F_law_take.kp T.b_law_take .nil pass0 (pa_cons (pv 0) (pa_cons pe_int pa_nil)))) (pa_cons (pe_op op_pow pe_int pe_int) pa_nil))))))))) pa_nil))))
      (pss_one (ps_ret (PE.fg (pe_call (ok_law_cut T) (hr.mono (by decide)) rfl T.n_law_cut T.F_law_cut.kp T.b_law_cut .nil pass0 (pa_cons (pe_call (ok_law_take T) (hr.mono (by decide)) rfl T.n_law_take T.F_law_take.kp T.b_law_take .nil pass0 (pa_cons (pv 0) (pa_cons (pe_op op_add (pe_op op_mulA (pv 1) (pv 2)) pe_int) pa_nil))) (pa_cons (pv 2) pa_nil))))))), ?_⟩
  try dsimp only [cxOf, List.map, List.length_cons, List.length_nil]
  refine ⟨_, inferInstance, ?_⟩
  rintro ρ Ξ Φ ⟨t, m, rfl, ht, m0, m1, k⟩
  have nd : ∀ d, (slots [Ar.sl 0, Ar.pu d]).Nodup := fun d => by show [0].Nodup; decide
  refine ⟨_, rfl, .inl ?_⟩
  refine ⟨_, rfl, .inl ⟨trivial, ⟨true, _, rfl⟩, rfl, nd _, t, 12, rfl, ht, by decide, by decide, fun r t' ρ' ht' r0 r1 hh => ?_⟩⟩
  match ρ', hh with
  | x :: tl, hh =>
    cases hh
    refine ⟨1, r, rfl, rfl, 10, 6, rfl, rfl, ⟨by decide, by decide, by decide⟩, trivial, trivial, trivial, trivial, trivial, trivial, trivial, trivial, [.int 1, .int 1, .int 1, .int 2, .int 3, .int 12, .int (1 + r), .int (10 ^ 6)], rfl, (by show 8 ≤ 100000; decide), trivial, ⟨true, _, rfl⟩, rfl, nd _, t', _, _, rfl, ht', rfl, (fun h => nomatch h), (by show 8 ≤ 100; decide), fun y t2 ρ2 ht2 hy hh2 => ?_⟩
    obtain ⟨b, rfl, b1, b2, bd⟩ : ∃ b : Int, y = .int b ∧ 1 ≤ b ∧ b ≤ 1000000 ∧ b.natAbs ∣ 693000000 := by
      simp only [List.mem_cons, List.not_mem_nil, or_false] at hy
      rcases hy with rfl | rfl | rfl | rfl | rfl | rfl | rfl | rfl
      · exact ⟨_, rfl, by decide, by decide, by decide⟩
      · exact ⟨_, rfl, by decide, by decide, by decide⟩
      · exact ⟨_, rfl, by decide, by decide, by decide⟩
      · exact ⟨_, rfl, by decide, by decide, by decide⟩
      · exact ⟨_, rfl, by decide, by decide, by decide⟩
      · exact ⟨_, rfl, by decide, by decide, by decide⟩
      · exact ⟨_, rfl, by omega, by omega, by have := twelve_dvd r.toNat (by omega); rw [show (1 + r).natAbs = 1 + r.toNat from by omega]; exact this⟩
      · exact ⟨_, rfl, by decide, by decide, by decide⟩
    match ρ2, hh2 with
    | x2 :: tl2, hh2 =>
      cases hh2
      have hm0 : 0 ≤ m * b := Int.mul_nonneg m0 (by omega)
      have hm1 : m * b ≤ 1000000 * 1000000 := Int.mul_le_mul m1 b2 (by omega) (by decide)
      refine ⟨_, rfl, .inl ⟨_, rfl, _, rfl, m, b, rfl, rfl, .inl (.inl ⟨by omega, by omega⟩), m * b, 1, rfl, rfl, trivial, ⟨true, _, rfl⟩, rfl, nd _, t2, m * b + 1, rfl, ht2, by omega, by omega, fun r3 t3 ρ3 ht3 z0 z1 hh3 => ?_⟩⟩
      match ρ3, hh3 with
      | x3 :: tl3, hh3 =>
        cases hh3
        exact ⟨_, rfl, trivial, trivial, rfl, List.nodup_nil, [.int r3, .int b], rfl, ⟨r3, b, rfl, b1, Nat.lt_of_lt_of_le (show b.natAbs < 2 ^ 30 by omega) (Nat.pow_le_pow_right (by decide) (by decide))⟩, fun r4 ρ4 h4 => by
          rw [h4 _ _ rfl]
          exact k _ t3 _ ht3 ⟨cut_nonneg z0 (by omega), divInt_bt (by omega) (by omega) (by omega), Nat.dvd_trans (divInt_den_dvd (by omega)) bd⟩ rfl⟩

theorem ok_law_plank (T : Txt K mg a fd tk) : FnOk P w K mg base CX0 4 (a 70) (fd 70) ["_law_source_here"] (spD K 1 wPlankQ) := by
  refine ok0 T.F_law_plank sc_law_plank (fun _ _ _ h => h) fun cdv A outer s H E hr => ?_
  refine ⟨_, (pss_cons (ps_set (i := 1) sc_law_plank.nd rfl (by first | exact Or.inl rfl | exact Or.inr rfl) (pe_call (ok_law_one T) (hr.mono (by decide)) rfl T.n_law_one T.F_law_one.kp T.b_law_one .nil pass0 (pa_cons (pv 0) (pa_cons (pe_lst (pa_cons pe_int (pa_cons pe_int (pa_cons pe_int (pa_cons pe_int (pa_cons pe_int (pa_cons pe_int (pa_cons pe_int pa_nil)))))))) pa_nil))))
      (pss_cons (ps_set (i := 2) sc_law_plank.nd rfl (by first | exact Or.inl rfl | exact Or.inr rfl) (pe_sortSet rfl T.n_sorted rfl T.n_set (pe_lc (own := [("_law_k", 3)]) (g := (gName 3)) (by rfl) sc_law_plank.nd (pi_range1 rfl T.n_range (pa_cons (pe_call (ok_law_take T) (hr.mono (by decide)) rfl T.n_law_take T.F_law_take.kp T.b_law_take .nil pass0 (pa_cons (pv 0) (pa_cons pe_int pa_nil))) pa_nil)) (blkOk_by (own := [("_law_k", 3)]) (N := N_law_plank) (sc := defScope s_law_plank) (by decide +kernel)) (fun _ _ _ _ _ => (pg_name (i := 3) sc_law_plank.nd rfl (by first | exact Or.inl rfl | exact Or.inr rfl))) (fun _ _ _ _ _ => pts_nil) (fun _ _ _ _ _ => (pe_op op_add pe_int (pe_call (ok_law_take T) (hr.mono (by decide)) rfl T.n_law_take T.F_law_take.kp T.b_law_take .nil pass0 (pa_cons (pv 0) (pa_cons (pe_op op_sub (pv 1) pe_int) pa_nil))))))))
      (pss_cons (ps_set (i := 4) sc_law_plank.nd rfl (by first | exact Or.inl rfl | exact Or.inr rfl) (pe_call (ok_law_one T) (hr.mono (by decide)) rfl T.n_law_one T.F_law_one.kp T.b_law_one .nil pass0 (pa_cons (pv 0) (pa_cons (pe_lst (pa_cons pe_int (pa_cons pe_int (pa_cons pe_int (pa_cons (pe_op op_pow pe_int pe_int) pa_nil))))) pa_nil))))
      (pss_cons (ps_setLc (i := 5) (own := [("_law_place_here", 6)]) (g := (gName 6)) (by rfl) sc_law_plank.nd rfl rfl (sw_true rfl rfl rfl (by decide +kernel)) (pi_list (pv 2)) (blkOk_by (own := [("_law_place_here", 6)]) (N := N_law_plank) (sc := defScope s_law_plank) (by decide +kernel)) (fun _ _ _ _ _ => (pg_name (i := 6) sc_law_plank.nd rfl (by first | exact Or.inl rfl | exact Or.inr rfl))) (fun _ _ _ _ _ => pts_nil) (fun _ _ _ _ _ => (pe_tup (pa_cons (pv 6) (pa_cons (pe_call (ok_law_measure T) (hr.mono (by decide)) rfl T.n_law_measure T.F_law_measure.kp T.b_law_measure .nil pass0 (pa_cons (pv 0) (pa_cons (pv 4) pa_nil))) pa_nil)))))
      (pss_one (ps_ret (pe_disp (pps_cons pe_str (pv 1) (pps_cons pe_str (pv 5) (pps_cons pe_str (pe_call (ok_law_one T) (hr.mono (by decide)) rfl T.n_law_one T.F_law_one.kp T.b_law_one .nil pass0 (pa_cons (pv 0) (pa_cons (pe_lst (pa_cons pe_non (pa_cons (pe_call (ok_law_measure T) (hr.mono (by decide)) rfl T.n_law_measure T.F_law_measure.kp T.b_law_measure .nil pass0 (pa_cons (pv 0) (pa_cons pe_int pa_nil))) pa_nil))) pa_nil))) pps_nil))) (by rfl) (by rfl) (fun z => by cases z) (by decide)))))))), ?_⟩
  try dsimp only [cxOf, List.map, List.length_cons, List.length_nil]
  refine ⟨_, inferInstance, ?_⟩
  rintro ρ Ξ Φ ⟨t, rfl, ht, k⟩
  refine ⟨_, rfl, .inl ⟨trivial, trivial, trivial, trivial, trivial, trivial, trivial, [.int 2, .int 4, .int 5, .int 8, .int 13, .int 30, .int 1000], rfl, (by show 7 ≤ 100000; decide), trivial, one_at rfl ht rfl (by simp) (by show 7 ≤ 100; decide) fun x t1 tl1 ht1 hx => ?_⟩⟩
  obtain ⟨L, rfl, L1, L2⟩ : ∃ L : Int, x = .int L ∧ 2 ≤ L ∧ L ≤ 1000 := by
    simp only [List.mem_cons, List.not_mem_nil, or_false] at hx
    rcases hx with rfl | rfl | rfl | rfl | rfl | rfl | rfl <;> exact ⟨_, rfl, by decide, by decide⟩
  refine ⟨_, rfl, .inl ⟨trivial, take_at rfl ht1 (by decide) (by decide) fun r t2 tl2 ht2 r0 r1 => ⟨trivial, r, rfl, by omega, by omega, ?_⟩⟩⟩
  refine ⟨fun i acc ρ => (∃ ns : List Int, acc = ns.map D.int ∧ ns.length = i ∧ ∀ n ∈ ns, 1 ≤ n ∧ n < L) ∧ ∃ t', SrcOk t' ∧ ρ = [some (.ow true (.lst t')), some (.pu (.int L)), none, none, none, none, none], ⟨⟨[], rfl, rfl, fun n h => nomatch h⟩, t2, ht2, rfl⟩, ?_, ?_⟩
  · rintro i d acc ρ hi ⟨⟨ns, rfl, hn, hb⟩, t3, ht3, rfl⟩
    have hi' : i < 13 := by
      have := (List.getElem?_eq_some_iff.mp hi).1
      rw [rngD_len] at this
      omega
    refine ⟨_, rfl, .inl ⟨_, rfl, L, 1, rfl, rfl, trivial, take_at rfl ht3 (by omega) (by omega) fun q t4 tl4 ht4 q0 q1 => ⟨1, q, rfl, rfl, by rw [List.length_map]; omega, ⟨ns ++ [1 + q], by rw [List.map_append]; rfl, by rw [List.length_append]; show ns.length + 1 = _; omega, fun n hn' => ?_⟩, t4, ht4, rfl⟩⟩⟩
    rcases List.mem_append.mp hn' with h | h
    · exact hb n h
    · rw [List.mem_singleton.mp h]
      omega
  · rintro acc ρ ⟨⟨ns, rfl, hn, hb⟩, t3, ht3, rfl⟩
    rw [rngD_len] at hn
    refine ⟨ns, rfl, by omega, fun ms hms hmem => .inl ?_⟩
    have hms1 : ∀ m ∈ ms, 0 < m ∧ m < L := fun m hm => by
      have := hb m ((hmem m).mp hm)
      omega
    refine ⟨_, rfl, .inl ⟨_, _, rfl, rfl, ⟨by decide, by decide, by decide⟩, trivial, trivial, trivial, trivial, [.int 2, .int 6, .int 20, .int (10 ^ 6)], rfl, (by show 4 ≤ 100000; decide), trivial, one_at rfl ht3 rfl (by simp) (by show 4 ≤ 100; decide) fun x t4 tl4 ht4 hx => ?_⟩⟩
    obtain ⟨M, rfl, M1, M2⟩ : ∃ M : Int, x = .int M ∧ 0 ≤ M ∧ M ≤ 1000000 := by
      simp only [List.mem_cons, List.not_mem_nil, or_false] at hx
      rcases hx with rfl | rfl | rfl | rfl <;> exact ⟨_, rfl, by decide, by decide⟩
    refine ⟨_, rfl, ms.map D.int, rfl, fun i acc ρ => (∃ fs : List D, fs.length = i ∧ acc = zipP (ms.take i) fs ∧ ∀ f ∈ fs, isFromN f = true) ∧ ∃ t', SrcOk t' ∧ ρ = [some (.ow true (.lst t')), some (.pu (.int L)), some (.pu (.lst (ms.map D.int))), none, some (.pu (.int M)), none, none], ⟨⟨[], rfl, rfl, fun f h => nomatch h⟩, t4, ht4, rfl⟩, ?_, ?_⟩
    · rintro i d acc ρ hi ⟨⟨fs, hl, rfl, hf⟩, t5, ht5, rfl⟩
      rw [List.getElem?_map] at hi
      obtain ⟨m, hm, rfl⟩ := Option.map_eq_some_iff.mp hi
      have hi' : i < ms.length := (List.getElem?_eq_some_iff.mp hm).1
      refine ⟨_, rfl, _, rfl, .inl ⟨_, rfl, trivial, mq_at rfl ht5 M1 M2 fun q6 t6 tl6 ht6 hq6 => ⟨trivial, trivial, [.int m, frD q6], rfl, (by show 2 ≤ 100000; decide), ?_, ⟨fs ++ [frD q6], by rw [List.length_append, hl]; rfl, zipP_next hm hl, fun g hg => ?_⟩, t6, ht6, rfl⟩⟩⟩
      · unfold zipP
        rw [List.length_zipWith]
        have := len_le hms fun k hk => (hmem k).mp hk
        omega
      · rcases List.mem_append.mp hg with h | h
        · exact hf g h
        · rw [List.mem_singleton.mp h]
          exact hq6.fn
    · rintro acc ρ ⟨⟨fs, hl, rfl, hf⟩, t5, ht5, rfl⟩
      rw [List.length_map] at hl
      rw [List.length_map, List.take_length]
      refine .inl ⟨_, rfl, _, rfl, _, rfl, .inl ⟨_, rfl, .inl ⟨trivial, mq_at rfl ht5 (by decide) (by decide) fun q6 t6 tl6 ht6 hq6 => ⟨trivial, trivial, [.non, frD q6], rfl, (by show 2 ≤ 100000; decide), trivial, one_at rfl ht6 rfl (by simp) (by show 2 ≤ 100; decide) fun b t7 tl7 ht7 hb => ⟨_, rfl, by show 3 ≤ 15; decide, ?_⟩⟩⟩⟩⟩
      have e : mergeKD [] [(kLen, D.int L), (kPro, (OC.lst (zipP ms fs)).data), (kBen, b)] = _ := merge3 _ _ _
      show (PEn.of Φ Ξ).rt (OC.dK (mergeKD [] [(kLen, D.int L), (kPro, (OC.lst (zipP ms fs)).data), (kBen, b)])).data _
      rw [e]
      have lm := len_le hms fun k hk => (hmem k).mp hk
      refine k (.int L) (zipP ms fs) b t7 _ ht7 ⟨?_, zipP_props hms hms1 hf, ?_, ?_⟩ ?_ rfl
      · show (true && (decide (2 ≤ L) && decide (L ≤ 1000))) = true
        rw [decide_eq_true L1, decide_eq_true L2]
        rfl
      · unfold zipP
        rw [List.length_zipWith]
        omega
      · simp only [List.mem_cons, List.not_mem_nil, or_false] at hb
        rcases hb with rfl | rfl
        · rfl
        · unfold bendOk
          rw [hq6.fn, Bool.or_true]
      · simp only [List.mem_cons, List.not_mem_nil, or_false] at hb
        rcases hb with rfl | rfl
        · exact ⟨none, rfl, fun q e => by cases e⟩
        · exact ⟨some q6, rfl, fun q e => by cases e; exact hq6.2.1.mono (by decide) (by decide)⟩

theorem ok_law_made (T : Txt K mg a fd tk) : FnOk P w K mg base CX0 8 (a 72) (fd 72) ["_law_m"] (spD K 1 (fnP (fun ds => ∃ l xs b, ds = [mD l xs b] ∧ MOk l xs b) fun ds r => ∀ l xs b, ds = [mD l xs b] → r = plk (a 107) l xs b)) := by
  refine ok0 T.F_law_made sc_law_made (fun _ _ _ h => h) fun cdv A outer s H E hr => ?_
  refine ⟨_, (pss_one (ps_ret (pe_makeK T.M_Plank (ok_Plank___init T) (hr.mono (by decide)) rfl T.n_Plank T.bK_Plank passL (pa_cons (pe_dget (hu_of hr) (pv 0) pe_str (fun _ _ => rfl)) (pa_cons (pe_callTy (call_listK (K := K)) rfl T.n_list (by decide +kernel) (pa_cons (pe_dget (hu_of hr) (pv 0) pe_str (fun _ _ => rfl)) pa_nil)) pa_nil)) (pk_cons (pe_dget (hu_of hr) (pv 0) pe_str (fun _ _ => rfl)) pk_nil)))), ?_⟩
  try dsimp only [cxOf, List.map, List.length_cons, List.length_nil]
  refine ⟨_, inferInstance, ?_⟩
  rintro ρ Ξ Φ ⟨ds, rfl, ⟨l, xs, b, rfl, hm⟩, k⟩
  have k : ∀ ρ', Φ (plk (a 107) l xs b) ρ' := fun ρ' => k _ _ fun l' xs' b' e => by cases e; rfl
  obtain ⟨n, rfl, n1, n2⟩ := hm.len
  obtain ⟨hl, hp, h12, hb⟩ := hm
  have hp : propsFrom n 0 xs = true := hp
  have aw : areProps (.lst xs) n = true := by
    show (decide (xs.length ≤ 12) && propsFrom n 0 xs) = true
    rw [hp, decide_eq_true h12]
    rfl
  refine ⟨_, rfl, _, _, _, rfl, rfl, val1 _ _ _, _, rfl, _, _, _, rfl, rfl, val2 _ _ _, trivial, [_], rfl, _, xs, rfl, rfl, trivial, trivial, _, rfl, _, _, _, rfl, rfl, val3 _ _ _, trivial, rfl, rfl, rfl, List.nodup_nil, st_pu2, .int n, .lst xs, b, _, rfl, .inl rfl, .int n, .lst (props_pl hp), bendOk_pl hb, fun h => ?_, fun _ h => ?_, fun _ _ h => ?_, fun _ _ _ xs' ex => ⟨rfl, _, rfl, ?_⟩⟩
  · rw [hl] at h; cases h
  · have h : areProps (.lst xs) n = false := h
    rw [aw] at h; cases h
  · rw [hb] at h; cases h
  · cases ex
    exact k _

end
end K06
set_option synthInstance.maxSize 100000
set_option synthInstance.maxHeartbeats 4000000
set_option Elab.async false
set_option linter.all false
set_option maxRecDepth 100000
set_option maxHeartbeats 4000000
set_option autoImplicit false
namespace K06
open PySem L2 Dx Kd
theorem getD_at {α : Type} {xs : List α} {j : Nat} {d : α} (h : j < xs.length) : xs.getD j d = xs[j] := by
  rw [List.getD_eq_getElem?_getD, List.getElem?_eq_getElem h]
  rfl
theorem placesD_at {l : D} {xs : List D} {i : Int} (h0 : -1 ≤ i) (h1 : i ≤ xs.length) : atI (placesD l xs) (i + 1) = some (plcOf l xs i) := by
  unfold plcOf
  by_cases z1 : i = -1
  · rw [if_pos z1, z1]
    exact atI_nat (j := 0) rfl
  · rw [if_neg z1]
    obtain ⟨j, rfl⟩ : ∃ j : Nat, i = j := ⟨i.toNat, by omega⟩
    rw [show ((j : Int) + 1) = ((j + 1 : Nat) : Int) from rfl]
    refine atI_nat ?_
    unfold placesD
    rw [List.cons_append, List.getElem?_cons_succ]
    by_cases z2 : (j : Int) = xs.length
    · rw [if_pos z2, List.getElem?_append_right (by rw [List.length_map]; omega), List.length_map]
      rw [show j - xs.length = 0 from by omega]
      rfl
    · have hj : j < xs.length := by omega
      rw [if_neg z2, List.getElem?_append_left (by rw [List.length_map]; omega), List.getElem?_map, List.getElem?_eq_getElem hj]
      show some _ = some ((xs.getD j .non).nth 0)
      rw [getD_at hj]
/-- a rest's place, a whole number -/
def plcI (n : Int) (xs : List D) (i : Int) : Int := (plcOf (.int n) xs i).toInt
theorem plcI_eq {n z : Int} {xs : List D} {i : Int} (hp : propsFrom n z xs = true) (h0 : -1 ≤ i) (h1 : i ≤ xs.length) : plcOf (.int n) xs i = .int (plcI n xs i) := by
  unfold plcI
  unfold plcOf
  by_cases z1 : i = -1
  · rw [if_pos z1]; rfl
  · rw [if_neg z1]
    by_cases z2 : i = xs.length
    · rw [if_pos z2]; rfl
    · rw [if_neg z2]
      have hj : i.toNat < xs.length := by omega
      rw [getD_at hj]
      obtain ⟨j, y, e⟩ := props_get hp _ (List.getElem_mem hj)
      rw [e]
      rfl
/-- the share of a rest, by levers -/
def oD : Option Int → D
  | none => .non
  | some i => .int i
def leftQ (lo : Option Int) (h : Int) (x : Rat) : Rat := match lo with
  | none => 0
  | some l => if (l : Rat) < x then (x - (l : Rat)) * Rat.divInt 1 (h - l) else 0
def rightQ (h : Int) (hi : Option Int) (x : Rat) : Rat := match hi with
  | none => 0
  | some u => if x < (u : Rat) then ((u : Rat) - x) * Rat.divInt 1 (u - h) else 0
def tentQ (lo : Option Int) (h : Int) (hi : Option Int) (x : Rat) : Rat := if x < (h : Rat) then leftQ lo h x else if (h : Rat) < x then rightQ h hi x else 1
theorem inv_fr {d : Int} (hd : 0 < d) : D.tup [.int 1, .int d] = frD (Rat.divInt 1 d) := by
  rw [frD_divInt hd]
  have : Nat.gcd (1 : Int).natAbs d.natAbs = 1 := Nat.gcd_one_left _
  rw [this]
  simp
theorem int_bt {i : Int} {n : Nat} (h : i.natAbs < 2 ^ n) : Bt n 1 (i : Rat) := ⟨h, by show (1 : Nat) < 2 ^ 1; decide⟩
theorem inv_bt {d : Int} (hd : 0 < d) (h : d.natAbs < 2 ^ 11) : Bt 1 11 (Rat.divInt 1 d) := divInt_bt hd (by decide) h
def TentIn (lo : Option Int) (h : Int) (hi : Option Int) (x : Rat) : Prop := Bt 30 20 x ∧ 0 ≤ h ∧ h ≤ 1000 ∧ (∀ l, lo = some l → 0 ≤ l ∧ l < h) ∧ ∀ u, hi = some u → h < u ∧ u ≤ 1000
theorem left_bt {lo : Option Int} {h : Int} {hi : Option Int} {x : Rat} (t : TentIn lo h hi x) : Bt 40 33 (leftQ lo h x) := by
  unfold leftQ
  match lo, t with
  | none, t => exact (int_bt (n := 1) (i := 0) (by decide)).mono (by decide) (by decide)
  | some l, ⟨hx, h0, h1, hl, hu⟩ =>
    obtain ⟨l0, l1⟩ := hl l rfl
    show Bt 40 33 (if (l : Rat) < x then (x - (l : Rat)) * Rat.divInt 1 (h - l) else 0)
    split
    · exact ((hx.sub (int_bt (n := 11) (i := l) (by omega))).mul (inv_bt (by omega) (by omega))).mono (by decide) (by decide)
    · exact ⟨by decide, by decide⟩
theorem right_bt {lo : Option Int} {h : Int} {hi : Option Int} {x : Rat} (t : TentIn lo h hi x) : Bt 40 33 (rightQ h hi x) := by
  unfold rightQ
  match hi, t with
  | none, t => exact (int_bt (n := 1) (i := 0) (by decide)).mono (by decide) (by decide)
  | some u, ⟨hx, h0, h1, hl, hu⟩ =>
    obtain ⟨u0, u1⟩ := hu u rfl
    show Bt 40 33 (if x < (u : Rat) then ((u : Rat) - x) * Rat.divInt 1 (u - h) else 0)
    split
    · exact (((int_bt (n := 11) (i := u) (by omega)).sub hx).mul (inv_bt (by omega) (by omega))).mono (by decide) (by decide)
    · exact ⟨by decide, by decide⟩
theorem tent_bt {lo : Option Int} {h : Int} {hi : Option Int} {x : Rat} (t : TentIn lo h hi x) : Bt 40 33 (tentQ lo h hi x) := by
  unfold tentQ
  split
  · exact left_bt t
  · split
    · exact right_bt t
    · exact ⟨by decide, by decide⟩
theorem oD_inj : ∀ {a b : Option Int}, oD a = oD b → a = b
  | none, none, _ => rfl
  | none, some _, h => by cases h
  | some _, none, h => by cases h
  | some _, some _, h => by injection h with h; rw [h]
section
variable {P : Program} {w : World} {K : PySem.W.Frag} {mg : Str → Option Value} {a : Nat → Addr} {fd : Nat → FuncData} {tk : Nat → Tok} {base : Heap}
end
end K06
set_option synthInstance.maxSize 100000
set_option synthInstance.maxHeartbeats 4000000
set_option Elab.async false
set_option linter.all false
set_option maxRecDepth 100000
set_option maxHeartbeats 4000000
set_option autoImplicit false
namespace K06
open PySem L2 Dx Kd
theorem back_hd {p : Bool} {c e : OC} {d : D} {ρ tl : Ab} : back (some (.ow p c) :: ρ) [Ar.sl 0, Ar.pu d] (some (.ow true e) :: tl) = some (.ow p e) :: ρ := by
  unfold back
  rfl
theorem back_pu2 {ρ ρ' : Ab} {d e : D} : back ρ [Ar.pu d, Ar.pu e] ρ' = ρ := rfl
theorem back_pu1 {ρ ρ' : Ab} {d : D} : back ρ [Ar.pu d] ρ' = ρ := rfl
theorem pwipe1 {ρ : Ab} {i : Nat} : pwipe ρ [i] = ρ.set i none := rfl
theorem pwipe2 {ρ : Ab} {i j : Nat} : pwipe ρ [i, j] = (ρ.set j none).set i none := rfl
/-- a weight at its place -/
def wtD (z : Rat × Rat) : D := .tup [frD z.1, frD z.2]
/-- a weight, its place a tuple that may be a key -/
def wtK (z : Rat × Rat) : D := .tup [trkD z.1, frD z.2]
theorem fg_wt (z : Rat × Rat) : (wtK z).fg = wtD z := rfl
theorem fg_wts (ws : List (Rat × Rat)) : (D.lst (ws.map wtK)).fg = .lst (ws.map wtD) := by
  show D.lst (D.fgA (ws.map wtK)) = _
  rw [fgA_map, List.map_map]
  rfl
def WtOk (L : Int) (z : Rat × Rat) : Prop := (0 ≤ z.1 ∧ z.1 ≤ (L : Rat)) ∧ 0 < z.2 ∧ (Bt 30 20 z.1 ∧ Bt 43 30 z.2) ∧ z.1.den ∣ 3000000 ∧ z.2.den ∣ 693000000
def wWts : Pm := fun ρ Ξ Φ => ∃ t l xs b n, ρ = [some (.ow true (.lst t)), some (.pu (mD l xs b)), some (.pu (.int n))] ∧ SrcOk t ∧ MOk l xs b ∧ 0 ≤ n ∧ n ≤ 12 ∧
  ∀ (ws : List (Rat × Rat)) (t' : List D) (ρ' : Ab), SrcOk t' → (ws.length : Int) ≤ n → (∀ z ∈ ws, WtOk l.toInt z) → ρ'.head? = some (some (.ow true (.lst t'))) → Φ (.lst (ws.map wtK)) ρ'
/-- a place on the plank, drawn -/
def SpotOk (L : Int) (x : Rat) : Prop := (0 ≤ x ∧ x ≤ (L : Rat)) ∧ Bt 30 20 x ∧ x.den ∣ 3000000
theorem divInt_parts {t b : Int} (hb : 0 < b) : ∃ g : Int, 0 < g ∧ (Rat.divInt t b).num * g = t ∧ ((Rat.divInt t b).den : Int) * g = b := by
  have e := frD_divInt (t := t) hb
  unfold frD at e
  injection e with e
  injection e with e1 e2
  injection e1 with e1
  injection e2 with e2
  injection e2 with e2
  refine ⟨((Nat.gcd t.natAbs b.natAbs : Nat) : Int), ?_, ?_, ?_⟩
  · have := Nat.gcd_pos_of_pos_right t.natAbs (show 0 < b.natAbs by omega)
    omega
  · rw [e1]
    exact Int.ediv_mul_cancel (Int.ofNat_dvd_left.mpr (Nat.gcd_dvd_left _ _))
  · rw [e2]
    exact Int.ediv_mul_cancel (Int.ofNat_dvd_left.mpr (Nat.gcd_dvd_right _ _))
theorem divInt_le {t b n : Int} (hb : 0 < b) (h : t ≤ n * b) : Rat.divInt t b ≤ (n : Rat) := by
  obtain ⟨g, g0, e1, e2⟩ := divInt_parts (t := t) hb
  rw [Rat.le_iff]
  show (Rat.divInt t b).num * ((1 : Nat) : Int) ≤ n * ((Rat.divInt t b).den : Int)
  refine Int.le_of_mul_le_mul_right ?_ g0
  rw [Int.mul_assoc n, e2, Int.mul_assoc, Int.mul_comm _ g, ← Int.mul_assoc, e1]
  omega
theorem spot_cut {t b L : Int} (hb : 0 < b) (h0 : 0 ≤ t) (h1 : t ≤ L * b) (hL : L ≤ 1000) (hb2 : b ≤ 1000000) (hd : b.natAbs ∣ 3000000) : SpotOk L (Rat.divInt t b) := by
  have : L * b ≤ 1000 * 1000000 := by
    rcases Int.lt_or_le L 0 with hl | hl
    · have := Int.mul_nonneg (show 0 ≤ -L by omega) (show 0 ≤ b by omega)
      have : -(L * b) = -L * b := by rw [Int.neg_mul]
      omega
    · exact Int.mul_le_mul hL hb2 (by omega) (by decide)
  exact ⟨⟨cut_nonneg h0 hb, divInt_le hb h1⟩, divInt_bt hb (by omega) (by omega), Nat.dvd_trans (divInt_den_dvd hb) hd⟩
theorem third_dvd {q : Rat} (h : q.den ∣ 693000000) : (q + Rat.divInt 1 3).den ∣ 693000000 := by
  obtain ⟨k, hk⟩ := h
  have e : q + Rat.divInt 1 3 = Rat.divInt (q.num * k + 231000000) 693000000 := by
    rw [add_eq, Rat.divInt_eq_divInt_iff]
    · show (q.num * 3 + 1 * (q.den : Int)) * 693000000 = (q.num * (k : Int) + 231000000) * ((q.den : Int) * 3)
      have hk' : (693000000 : Int) = (q.den : Int) * (k : Int) := by
        rw [← Int.natCast_mul, ← hk]
        rfl
      have e2 : (231000000 : Int) * 3 = (q.den : Int) * (k : Int) := by rw [← hk']; rfl
      rw [Int.add_mul, Int.add_mul]
      have e3 : q.num * 3 * 693000000 = q.num * (k : Int) * ((q.den : Int) * 3) := by
        rw [hk']
        ac_rfl
      have e4 : 1 * (q.den : Int) * 693000000 = 231000000 * ((q.den : Int) * 3) := by omega
      rw [e3, e4]
    · have := den_pos2 q (Rat.divInt 1 3)
      omega
    · decide
  rw [e]
  exact divInt_den_dvd (b := 693000000) (by decide)
theorem props_place {n : Int} : ∀ {z : Int} {xs : List D}, propsFrom n z xs = true → ∀ x ∈ xs, ∃ j y, x = .tup [.int j, y] ∧ z < j ∧ j < n
  | z, [], _, x, hx => by cases hx
  | z, y :: ys, h, x, hx => by
    unfold propsFrom at h
    obtain ⟨h1, h2⟩ := Bool.and_eq_true_iff.mp h
    obtain ⟨h2, h3⟩ := Bool.and_eq_true_iff.mp h2
    obtain ⟨u, v, rfl⟩ := isPair_inv h1
    have h2 : isProp n z u v = true := h2
    obtain ⟨h4, h5⟩ := Bool.and_eq_true_iff.mp h2
    obtain ⟨h5, h6⟩ := Bool.and_eq_true_iff.mp h5
    obtain ⟨h6, _⟩ := Bool.and_eq_true_iff.mp h6
    obtain ⟨i, rfl⟩ := isWhole_inv h4
    have h5 : z < i := of_decide_eq_true h5
    have h6 : i < n := of_decide_eq_true h6
    cases hx with
    | head => exact ⟨i, v, rfl, h5, h6⟩
    | tail _ hx =>
      obtain ⟨j, f, e, j0, j1⟩ := props_place h3 x hx
      have j0 : i < j := j0
      exact ⟨j, f, e, by omega, j1⟩
theorem small_abs {b : Int} (h : b.natAbs < 2 ^ 40) : b.natAbs < 2 ^ 4000 := abs_up h (by decide)
theorem rests_in {L : Int} {xs : List D} (h0 : 0 ≤ L) (hp : propsFrom L 0 xs = true) : ∀ x ∈ [D.int 0, .int L] ++ (List.replicate (Int.toNat 2) (xs.map fun x => x.nth 0)).flatten, ∃ p : Int, x = .int p ∧ 0 ≤ p ∧ p ≤ L := fun x hx => by
  rcases List.mem_append.mp hx with hx | hx
  · simp only [List.mem_cons, List.not_mem_nil, or_false] at hx
    rcases hx with rfl | rfl
    · exact ⟨0, rfl, by omega, h0⟩
    · exact ⟨L, rfl, h0, by omega⟩
  · obtain ⟨ys, hy, hx⟩ := List.mem_flatten.mp hx
    rw [List.eq_of_mem_replicate hy] at hx
    obtain ⟨y, hy, rfl⟩ := List.mem_map.mp hx
    obtain ⟨j, f, rfl, j0, j1⟩ := props_place hp y hy
    exact ⟨j, rfl, by omega, by omega⟩
theorem add_third_pos {q : Rat} (h : 0 ≤ q) : 0 < q + Rat.divInt 1 3 := by
  have : (0 : Rat) < Rat.divInt 1 3 := by decide
  grind
section
variable {P : Program} {w : World} {K : PySem.W.Frag} {mg : Str → Option Value} {a : Nat → Addr} {fd : Nat → FuncData} {tk : Nat → Tok} {base : Heap}
theorem ok_law_weights (T : Txt K mg a fd tk) : FnOk P w K mg base CX0 4 (a 71) (fd 71) ["_law_source_here", "_law_m", "_law_most"] (spD K 3 wWts) := by
  refine ok0 T.F_law_weights sc_law_weights (fun _ _ _ h => h) fun cdv A outer s H E hr => ?_
  refine ⟨_, (pss_cons (ps_set (i := 3) sc_law_weights.nd rfl (by first | exact Or.inl rfl | exact Or.inr rfl) (pe_lst pa_nil))
      (pss_cons (ps_for PassesOwn.never rfl (pi_range1 rfl T.n_range (pa_cons (pe_call (ok_law_take T) (hr.mono (by decide)) rfl T.n_law_take T.F_law_take.kp T.b_law_take .nil pass0 (pa_cons (pv 0) (pa_cons (pe_op op_add (pv 2) pe_int) pa_nil))) pa_nil)) (pg_name (i := 4) sc_law_weights.nd rfl (by first | exact Or.inl rfl | exact Or.inr rfl)) (pss_cons (ps_set (i := 5) sc_law_weights.nd rfl (by first | exact Or.inl rfl | exact Or.inr rfl) (pe_op op_cat (pe_lst (pa_cons pe_int (pa_cons (pe_dget (hu_of hr) (pv 1) pe_str (fun _ _ => rfl)) pa_nil))) (pe_op op_rep (pe_lc (own := [("_law_prop", 8)]) (g := (gName 8)) (by rfl) sc_law_weights.nd (pi_list (pe_dget (hu_of hr) (pv 1) pe_str (fun _ _ => rfl))) (blkOk_by (own := [("_law_prop", 8)]) (N := N_law_weights) (sc := defScope s_law_weights) (by decide +kernel)) (fun _ _ _ _ _ => (pg_name (i := 8) sc_law_weights.nd rfl (by first | exact Or.inl rfl | exact Or.inr rfl))) (fun _ _ _ _ _ => pts_nil) (fun _ _ _ _ _ => (pe_ix (ix_ltK (K := K)) (pv 8) pe_int (fun _ _ => rfl)))) pe_int)))
      (pss_cons (ps_set (i := 6) sc_law_weights.nd rfl (by first | exact Or.inl rfl | exact Or.inr rfl) (pe_lst (pa_cons (pe_call (ok_law_cut T) (hr.mono (by decide)) rfl T.n_law_cut T.F_law_cut.kp T.b_law_cut .nil pass0 (pa_cons (pe_call (ok_law_one T) (hr.mono (by decide)) rfl T.n_law_one T.F_law_one.kp T.b_law_one .nil pass0 (pa_cons (pv 0) (pa_cons (pv 5) pa_nil))) (pa_cons pe_int pa_nil))) (pa_cons (pe_call (ok_law_cut T) (hr.mono (by decide)) rfl T.n_law_cut T.F_law_cut.kp T.b_law_cut .nil pass0 (pa_cons (pe_call (ok_law_take T) (hr.mono (by decide)) rfl T.n_law_take T.F_law_take.kp T.b_law_take .nil pass0 (pa_cons (pv 0) (pa_cons (pe_op op_add (pe_op op_mulA pe_int (pe_dget (hu_of hr) (pv 1) pe_str (fun _ _ => rfl))) pe_int) pa_nil))) (pa_cons pe_int pa_nil))) pa_nil))))
      (pss_cons (ps_expr (pe_bm PySem.F.plainAttrs_list PySem.F.slot_list_append PySem.F.type_list_append mt_append (pv 6) (pa_cons (pe_call (ok_law_cut T) (hr.mono (by decide)) rfl T.n_law_cut T.F_law_cut.kp T.b_law_cut .nil pass0 (pa_cons (pe_call (ok_law_take T) (hr.mono (by decide)) rfl T.n_law_take T.F_law_take.kp T.b_law_take .nil pass0 (pa_cons (pv 0) (pa_cons (pe_op op_add (pe_op op_mulA (pe_dget (hu_of hr) (pv 1) pe_str (fun _ _ => rfl)) (pe_op op_pow pe_int pe_int)) pe_int) pa_nil))) (pa_cons (pe_op op_pow pe_int pe_int) pa_nil))) pa_nil)))
      (pss_cons (ps_set (i := 7) sc_law_weights.nd rfl (by first | exact Or.inl rfl | exact Or.inr rfl) (pe_call (ok_law_measure T) (hr.mono (by decide)) rfl T.n_law_measure T.F_law_measure.kp T.b_law_measure .nil pass0 (pa_cons (pv 0) (pa_cons (pe_call (ok_law_one T) (hr.mono (by decide)) rfl T.n_law_one T.F_law_one.kp T.b_law_one .nil pass0 (pa_cons (pv 0) (pa_cons (pe_lst (pa_cons pe_int (pa_cons pe_int (pa_cons (pe_op op_pow pe_int pe_int) pa_nil)))) pa_nil))) pa_nil))))
      (pss_one (ps_expr (pe_bm PySem.F.plainAttrs_list PySem.F.slot_list_append PySem.F.type_list_append mt_append (pv 3) (pa_cons (pe_tup (pa_cons (pe_call (ok_law_one T) (hr.mono (by decide)) rfl T.n_law_one T.F_law_one.kp T.b_law_one .nil pass0 (pa_cons (pv 0) (pa_cons (pv 6) pa_nil))) (pa_cons (PE.fg (pe_call (ok_law_plus T) (hr.mono (by decide)) rfl T.n_law_plus T.F_law_plus.kp T.b_law_plus .nil pass0 (pa_cons (pv 7) (pa_cons (pe_tup (pa_cons pe_int (pa_cons pe_int pa_nil))) pa_nil)))) pa_nil))) pa_nil)))))))))
      (pss_one (ps_ret (pv 3))))), ?_⟩
  try dsimp only [cxOf, List.map, List.length_cons, List.length_nil]
  refine ⟨_, inferInstance, ?_⟩
  rintro ρ Ξ Φ ⟨t, l, xs, b, n, rfl, ht, hm, n0, n1, k⟩
  obtain ⟨L, rfl, L1, L2⟩ := hm.len
  obtain ⟨_, hp, h12, _⟩ := hm
  have hp : propsFrom L 0 xs = true := hp
  refine ⟨[], rfl, by show 0 ≤ 100000; decide, .inr ?_⟩
  refine ⟨_, rfl, .inl ⟨_, rfl, n, 1, rfl, rfl, trivial, take_at rfl ht (by omega) (by omega) fun r t1 tl1 ht1 r0 r1 => ⟨trivial, r, rfl, by omega, by omega, ?_⟩⟩⟩
  refine ⟨fun i ρ => ∃ (ws : List (Rat × Rat)) (t' : List D) (a4 a5 a6 a7 : Option Sl), ρ = [some (.ow true (.lst t')), some (.pu (mD (.int L) xs b)), some (.pu (.int n)), some (.ow false (.lst (ws.map wtK))), a4, a5, a6, a7, none] ∧ SrcOk t' ∧ ws.length = i ∧ ∀ z ∈ ws, WtOk L z, ⟨[], t1, _, _, _, _, rfl, ht1, rfl, fun z h => nomatch h⟩, ?_, ?_⟩
  · rintro i d ρ hi ⟨ws, t2, a4, a5, a6, a7, rfl, ht2, hw, hz⟩
    have hi' : i < 13 := by
      have := (List.getElem?_eq_some_iff.mp hi).1
      rw [rngD_len] at this
      omega
    have il : ws.length < 12 := by
      have := (List.getElem?_eq_some_iff.mp hi).1
      rw [rngD_len] at this
      omega
    refine ⟨_, rfl, _, _, _, rfl, rfl, val1 _ _ _, trivial, trivial, [.int 0, .int L], rfl, (by show 2 ≤ 100000; decide), _, rfl, _, _, _, rfl, rfl, val2 _ _ _, xs, rfl, fun j acc ρ => acc = (xs.take j).map (fun x => x.nth 0) ∧ ρ = [some (.ow true (.lst t2)), some (.pu (mD (.int L) xs b)), some (.pu (.int n)), some (.ow false (.lst (ws.map wtK))), some (.pu d), a5, a6, a7, none], ⟨rfl, rfl⟩, ?_, ?_⟩
    · rintro j e acc ρ hj ⟨ea, rfl⟩
      obtain ⟨p, y, rfl⟩ := props_get hp e (List.mem_of_getElem? hj)
      exact ⟨_, rfl, _, 0, .int p, rfl, rfl, rfl, map_small hj ea (by omega), map_next (f := fun x => x.nth 0) hj ea, rfl⟩
    · rintro acc ρ ⟨ea, rfl⟩
      rw [map_all] at ea
      subst ea
      have ri := rests_in (by omega) hp
      have lr : ([D.int 0, .int L] ++ (List.replicate (Int.toNat 2) (xs.map fun x => x.nth 0)).flatten).length ≤ 26 := by
        rw [List.length_append, List.length_flatten, List.map_replicate, List.sum_replicate_nat, List.length_map]
        show 2 + 2 * xs.length ≤ 26
        omega
      refine ⟨_, 2, rfl, rfl, ⟨by decide, by decide⟩, by rw [List.length_map]; show xs.length * 2 ≤ 100000; omega, _, _, rfl, rfl, (by rw [← List.length_append]; exact Nat.le_trans lr (by decide)), ?_⟩
      have rne : [D.int 0, .int L] ++ (List.replicate (Int.toNat 2) (xs.map fun x => x.nth 0)).flatten ≠ [] := fun z => nomatch z
      generalize [D.int 0, .int L] ++ (List.replicate (Int.toNat 2) (xs.map fun x => x.nth 0)).flatten = rs at ri lr rne ⊢
      have LE2 : ([1, 1] : List Nat).length ≤ 100000 := by decide
      refine ⟨_, rfl, .inl ⟨_, rfl, trivial, one_at rfl ht2 rfl rne (Nat.le_trans lr (by decide)) fun x1 t3 tl3 ht3 hx1 => ?_⟩⟩
      obtain ⟨p1, rfl, p10, p11⟩ := ri x1 hx1
      try simp only [pwipe1, pwipe2, back_hd, back_pu2, back_pu1, List.set_cons_succ, List.set_cons_zero]
      refine ⟨trivial, trivial, rfl, List.nodup_nil, [.int p1, .int 1], rfl, ⟨p1, 1, rfl, by decide, small_abs (by decide)⟩, fun r1 ρ1 h1 => ?_⟩
      rw [h1 _ _ rfl]
      clear h1
      try simp only [pwipe1, pwipe2, back_hd, back_pu2, back_pu1, List.set_cons_succ, List.set_cons_zero]
      have s1 : SpotOk L (Rat.divInt p1 1) := spot_cut (by decide) p10 (by omega) L2 (by decide) (by decide)
      refine ⟨_, rfl, .inl ⟨_, rfl, _, _, _, rfl, rfl, val1 _ _ _, 12, L, rfl, rfl, .inl (.inl ⟨by decide, by decide⟩), 12 * L, 1, rfl, rfl, trivial, take_at rfl ht3 (by omega) (by omega) fun q2 t4 tl4 ht4 q20 q21 => ?_⟩⟩
      refine ⟨trivial, trivial, rfl, List.nodup_nil, [.int q2, .int 12], rfl, ⟨q2, 12, rfl, by decide, small_abs (by decide)⟩, fun r2 ρ2 h2 => ?_⟩
      rw [h2 _ _ rfl]
      clear h2
      try simp only [pwipe1, pwipe2, back_hd, back_pu2, back_pu1, List.set_cons_succ, List.set_cons_zero]
      have s2 : SpotOk L (Rat.divInt q2 12) := spot_cut (by decide) q20 (by omega) L2 (by decide) (by decide)
      refine ⟨trivial, trivial, [trkD (Rat.divInt p1 1), trkD (Rat.divInt q2 12)], rfl, LE2, .inr ?_⟩
      refine ⟨⟨_, _, rfl⟩, _, rfl, .inl ⟨_, rfl, _, _, _, rfl, rfl, val1 _ _ _, 10, 6, rfl, rfl, ⟨by decide, by decide, by decide⟩, L, 10 ^ 6, rfl, rfl, .inl (.inl ⟨by omega, by omega⟩), L * 10 ^ 6, 1, rfl, rfl, trivial, take_at rfl ht4 (by omega) (by omega) fun q3 t5 tl5 ht5 q30 q31 => ?_⟩⟩
      refine ⟨10, 6, rfl, rfl, ⟨by decide, by decide, by decide⟩, trivial, trivial, rfl, List.nodup_nil, [.int q3, .int (10 ^ 6)], rfl, ⟨q3, 10 ^ 6, rfl, by decide, small_abs (by decide)⟩, fun r3 ρ3 h3 => ?_⟩
      rw [h3 _ _ rfl]
      clear h3
      try simp only [pwipe1, pwipe2, back_hd, back_pu2, back_pu1, List.set_cons_succ, List.set_cons_zero]
      have s3 : SpotOk L (Rat.divInt q3 (10 ^ 6)) := spot_cut (by decide) q30 (by omega) L2 (by decide) (by decide)
      refine ⟨false, _, rfl, (by show 2 < 100000; decide), ?_⟩
      refine ⟨_, rfl, .inl ⟨_, rfl, .inl ⟨10, 6, rfl, rfl, ⟨by decide, by decide, by decide⟩, trivial, trivial, trivial, [.int 3, .int 9, .int (10 ^ 6)], rfl, (by show 3 ≤ 100000; decide), trivial, one_at rfl ht5 rfl (fun z => nomatch z) (by show 3 ≤ 100; decide) fun x4 t6 tl6 ht6 hx4 => ?_⟩⟩⟩
      try simp only [pwipe1, pwipe2, back_hd, back_pu2, back_pu1, List.set_cons_succ, List.set_cons_zero]
      obtain ⟨m4, rfl, m40, m41⟩ : ∃ m : Int, x4 = .int m ∧ 0 ≤ m ∧ m ≤ 1000000 := by
        simp only [List.mem_cons, List.not_mem_nil, or_false] at hx4
        rcases hx4 with rfl | rfl | rfl <;> exact ⟨_, rfl, by decide, by decide⟩
      refine ⟨trivial, mq_at rfl ht6 m40 m41 fun q t7 tl7 ht7 hq => ?_⟩
      try simp only [pwipe1, pwipe2, back_hd, back_pu2, back_pu1, List.set_cons_succ, List.set_cons_zero]
      refine ⟨⟨_, _, rfl⟩, _, rfl, .inl ⟨_, rfl, .inr ⟨rfl, ?_⟩⟩⟩
      try simp only [pwipe1, pwipe2, back_hd, back_pu2, back_pu1, List.set_cons_succ, List.set_cons_zero]
      refine ⟨trivial, one_at rfl ht7 rfl (fun z => nomatch z) (by show 3 ≤ 100; decide) fun x5 t8 tl8 ht8 hx5 => ?_⟩
      try simp only [pwipe1, pwipe2, back_hd, back_pu2, back_pu1, List.set_cons_succ, List.set_cons_zero]
      obtain ⟨y, rfl, sy⟩ : ∃ y : Rat, x5 = trkD y ∧ SpotOk L y := by
        simp only [List.mem_append, List.mem_cons, List.not_mem_nil, or_false] at hx5
        rcases hx5 with (rfl | rfl) | rfl
        · exact ⟨_, rfl, s1⟩
        · exact ⟨_, rfl, s2⟩
        · exact ⟨_, rfl, s3⟩
      have b3 : Bt 1 2 (Rat.divInt 1 3) := divInt_bt (by decide) (by decide) (by decide)
      refine ⟨_, rfl, trivial, trivial, [.int 1, .int 3], rfl, LE2, trivial, trivial, rfl, List.nodup_nil, [_, _], rfl, ⟨q, Rat.divInt 1 3, by rw [← inv_fr (d := 3) (by decide)], hq.2.1.mono (by decide) (by decide), b3.mono (by decide) (by decide)⟩, fun r4 ρ4 h4 => ?_⟩
      rw [h4 q (Rat.divInt 1 3) (by rw [← inv_fr (d := 3) (by decide)])]
      clear h4
      try simp only [pwipe1, pwipe2, back_hd, back_pu2, back_pu1, List.set_cons_succ, List.set_cons_zero]
      refine ⟨trivial, trivial, [trkD y, frD (q + Rat.divInt 1 3)], rfl, LE2, false, _, rfl, (by rw [List.length_map]; omega), ?_⟩
      refine ⟨ws ++ [(y, q + Rat.divInt 1 3)], t8, some (.pu d), some (.pu (.lst rs)), some (.pu (.lst [trkD (Rat.divInt p1 1), trkD (Rat.divInt q2 12), trkD (Rat.divInt q3 (10 ^ 6))])), some (.pu (frD q)), ?_, ht8, by rw [List.length_append, hw]; rfl, fun z hz' => ?_⟩
      · rw [List.map_append]
        rfl
      · rcases List.mem_append.mp hz' with hz' | hz'
        · exact hz z hz'
        · rw [List.mem_singleton.mp hz']
          exact ⟨sy.1, add_third_pos hq.1, ⟨sy.2.1, ⟨Nat.lt_of_lt_of_le (hq.2.1.add b3).1 (Nat.pow_le_pow_right (by decide) (by decide)), Nat.lt_of_le_of_lt (Nat.le_of_dvd (by decide) (third_dvd hq.2.2)) (by decide)⟩⟩, sy.2.2, third_dvd hq.2.2⟩
  · rintro ρ ⟨ws, t2, a4, a5, a6, a7, rfl, ht2, hw, hz⟩
    rw [rngD_len] at hw
    exact ⟨_, rfl, k ws t2 _ ht2 (by omega) hz rfl⟩

end
end K06
set_option synthInstance.maxSize 100000
set_option synthInstance.maxHeartbeats 4000000
set_option Elab.async false
set_option linter.all false
set_option maxRecDepth 100000
set_option maxHeartbeats 4000000
set_option autoImplicit false
namespace K06
open PySem L2 Dx Kd
/-- a lot, rising -/
def LotOk (n : Nat) (ns : List Int) : Prop := ns.Pairwise (· < ·) ∧ ∀ k ∈ ns, 0 ≤ k ∧ k < n
theorem LotOk.nil {n : Nat} : LotOk n [] := ⟨.nil, fun k h => nomatch h⟩
theorem LotOk.next {n : Nat} {ns : List Int} (h : LotOk n ns) : LotOk (n + 1) (ns ++ [(n : Int)]) := ⟨List.pairwise_append.mpr ⟨h.1, List.pairwise_singleton .., fun a ha b hb => by
  rw [List.mem_singleton.mp hb]
  exact (h.2 a ha).2⟩, fun k hk => by
  rcases List.mem_append.mp hk with hk | hk
  · have := h.2 k hk; omega
  · rw [List.mem_singleton.mp hk]; omega⟩
theorem LotOk.mono {n : Nat} {ns : List Int} (h : LotOk n ns) : LotOk (n + 1) ns := ⟨h.1, fun k hk => by have := h.2 k hk; omega⟩
def wLot : Pm := fun ρ Ξ Φ => ∃ t l xs b, ρ = [some (.ow true (.lst t)), some (.pu (mD l xs b))] ∧ SrcOk t ∧ MOk l xs b ∧
  ∀ (ns : List Int) (t' : List D) (ρ' : Ab), SrcOk t' → LotOk xs.length ns → ρ'.head? = some (some (.ow true (.lst t'))) → Φ (.tup (ns.map D.int)) ρ'
theorem rng_at {n j : Nat} {d : D} (h : (rngD 0 n)[j]? = some d) : d = .int j ∧ j < n := by
  unfold rngD at h
  rw [List.getElem?_map] at h
  obtain ⟨x, hx, rfl⟩ := Option.map_eq_some_iff.mp h
  obtain ⟨hj, e⟩ := List.getElem?_eq_some_iff.mp hx
  rw [List.getElem_range] at e
  rw [List.length_range] at hj
  subst e
  exact ⟨by rw [Int.zero_add], hj⟩
theorem rng_map {n : Nat} : rngD 0 n = ((List.range n).map fun i : Nat => (i : Int)).map D.int := by
  unfold rngD
  rw [List.map_map]
  refine List.map_congr_left fun i _ => ?_
  show D.int (0 + (i : Int)) = .int (i : Int)
  rw [Int.zero_add]
theorem lot_all : ∀ {n : Nat}, LotOk n ((List.range n).map fun i : Nat => (i : Int))
  | 0 => .nil
  | n + 1 => by
    rw [List.range_succ, List.map_append]
    exact (lot_all (n := n)).next
section
variable {P : Program} {w : World} {K : PySem.W.Frag} {mg : Str → Option Value} {a : Nat → Addr} {fd : Nat → FuncData} {tk : Nat → Tok} {base : Heap}
theorem ok_law_lot (T : Txt K mg a fd tk) : FnOk P w K mg base CX0 2 (a 73) (fd 73) ["_law_source_here", "_law_m"] (spD K 2 wLot) := by
  refine ok0 T.F_law_lot sc_law_lot (fun _ _ _ h => h) fun cdv A outer s H E hr => ?_
  refine ⟨_, (pss_cons (ps_set (i := 2) sc_law_lot.nd rfl (by first | exact Or.inl rfl | exact Or.inr rfl) (pe_call (ok_law_take T) (hr.mono (by decide)) rfl T.n_law_take T.F_law_take.kp T.b_law_take .nil pass0 (pa_cons (pv 0) (pa_cons pe_int pa_nil))))
      (pss_cons (ps_setLc (i := 3) (own := [("_law_k", 4)]) (g := (gName 4)) (by rfl) sc_law_lot.nd rfl rfl (sw_true rfl rfl rfl (by decide +kernel)) (pi_range1 rfl T.n_range (pa_cons (pe_callB (call_lenK (K := K)) rfl T.n_len (by decide +kernel) (pa_cons (pe_dget (hu_of hr) (pv 1) pe_str (fun _ _ => rfl)) pa_nil)) pa_nil)) (blkOk_by (own := [("_law_k", 4)]) (N := N_law_lot) (sc := defScope s_law_lot) (by decide +kernel)) (fun _ _ _ _ _ => (pg_name (i := 4) sc_law_lot.nd rfl (by first | exact Or.inl rfl | exact Or.inr rfl))) (fun _ _ _ _ _ => (pts_one (pt_cmpR op_gt (pe_call (ok_law_take T) (hr.mono (by decide)) rfl T.n_law_take T.F_law_take.kp T.b_law_take .nil pass0 (pa_cons (pv 0) (pa_cons pe_int pa_nil))) pe_int (nomark _)))) (fun _ _ _ _ _ => (pv 4)))
      (pss_one (ps_ret (pe_callTy (call_tupleK (K := K)) rfl T.n_tuple (by decide +kernel) (pa_cons (pe_ix (ix_ltK (K := K)) (pe_lst (pa_cons (pe_listRg rfl rfl T.n_list (prg_1 rfl T.n_range (pe_callB (call_lenK (K := K)) rfl T.n_len (by decide +kernel) (pa_cons (pe_dget (hu_of hr) (pv 1) pe_str (fun _ _ => rfl)) pa_nil)))) (pa_cons (pe_lst pa_nil) (pa_cons (pv 3) (pa_cons (pv 3) (pa_cons (pv 3) pa_nil)))))) (pv 2) (fun _ _ => rfl)) pa_nil)))))), ?_⟩
  try dsimp only [cxOf, List.map, List.length_cons, List.length_nil]
  refine ⟨_, inferInstance, ?_⟩
  rintro ρ Ξ Φ ⟨t, l, xs, b, rfl, ht, hm, k⟩
  obtain ⟨L, rfl, L1, L2⟩ := hm.len
  obtain ⟨_, hp, h12, _⟩ := hm
  have hp : propsFrom L 0 xs = true := hp
  refine ⟨_, rfl, .inl ⟨trivial, take_at rfl ht (by decide) (by decide) fun r t1 tl1 ht1 r0 r1 => ?_⟩⟩
  refine ⟨_, rfl, _, _, _, rfl, rfl, val2 _ _ _, trivial, [.lst xs], rfl, .lst xs, xs, rfl, rfl, trivial, xs.length, rfl, by omega, by omega, ?_⟩
  refine ⟨fun j acc ρ => ∃ (ns : List Int) (t' : List D), acc = ns.map D.int ∧ SrcOk t' ∧ LotOk j ns ∧ ns.length ≤ j ∧ ρ = [some (.ow true (.lst t')), some (.pu (mD (.int L) xs b)), some (.pu (.int r)), none, none], ⟨[], t1, rfl, ht1, .nil, Nat.zero_le _, rfl⟩, ?_, ?_⟩
  · rintro j d acc ρ hj ⟨ns, t2, rfl, ht2, hn, hl, rfl⟩
    obtain ⟨rfl, hjj⟩ := rng_at hj
    have hjj : j < xs.length := hjj
    refine ⟨_, rfl, .inl ⟨trivial, take_at rfl ht2 (by decide) (by decide) fun r2 t3 tl3 ht3 r20 r21 => ?_⟩⟩
    refine ⟨r2, 0, rfl, rfl, _, rfl, ?_⟩
    show if decide (0 < r2) = true then _ else _
    by_cases c : 0 < r2
    · rw [decide_eq_true c]
      refine ⟨_, rfl, (by rw [List.length_map]; omega), ns ++ [(j : Int)], t3, by rw [List.map_append]; rfl, ht3, hn.next, by rw [List.length_append]; show ns.length + 1 ≤ _; omega, rfl⟩
    · rw [decide_eq_false c]
      exact ⟨ns, t3, rfl, ht3, hn.mono, by omega, rfl⟩
  · rintro acc ρ ⟨ns, t2, rfl, ht2, hn, hl, rfl⟩
    rw [rngD_len] at hn
    have hn : LotOk xs.length ns := hn
    have fin : ∀ (ns : List Int) tl, LotOk xs.length ns → Φ (.tup (ns.map D.int)) (some (.ow true (.lst t2)) :: tl) := fun ns tl h => k ns t2 _ ht2 h rfl
    refine .inl ?_
    try simp only [pwipe1, pwipe2, back_hd, back_pu2, back_pu1, List.set_cons_succ, List.set_cons_zero]
    refine ⟨_, rfl, _, _, _, rfl, rfl, val2 _ _ _, trivial, [.lst xs], rfl, .lst xs, xs, rfl, rfl, xs.length, rfl, by omega, by omega, [], rfl, (by show 0 ≤ 100000; decide), _, rfl, _, rfl, _, rfl, trivial, trivial, trivial, trivial, trivial, [.lst (rngD 0 (xs.length : Int).toNat), .lst [], .lst (ns.map D.int), .lst (ns.map D.int), .lst (ns.map D.int)], rfl, (by show 5 ≤ 100000; decide), _, rfl, ?_⟩
    obtain ⟨j, rfl⟩ : ∃ j : Nat, r = j := ⟨r.toNat, by omega⟩
    match j, r1 with
    | 0, _ =>
      refine ⟨_, _, _, rfl, rfl, atI_nat (j := 0) rfl, trivial, [_], rfl, _, _, rfl, rfl, ?_⟩
      rw [rng_map]
      exact fin _ _ lot_all
    | 1, _ => exact ⟨_, _, _, rfl, rfl, atI_nat (j := 1) rfl, trivial, [_], rfl, _, _, rfl, rfl, fin [] _ .nil⟩
    | 2, _ => exact ⟨_, _, _, rfl, rfl, atI_nat (j := 2) rfl, trivial, [_], rfl, _, _, rfl, rfl, fin ns _ hn⟩
    | 3, _ => exact ⟨_, _, _, rfl, rfl, atI_nat (j := 3) rfl, trivial, [_], rfl, _, _, rfl, rfl, fin ns _ hn⟩
    | 4, _ => exact ⟨_, _, _, rfl, rfl, atI_nat (j := 4) rfl, trivial, [_], rfl, _, _, rfl, rfl, fin ns _ hn⟩
    | j + 5, h => omega

end
end K06
set_option synthInstance.maxSize 100000
set_option synthInstance.maxHeartbeats 4000000
set_option Elab.async false
set_option linter.all false
set_option maxRecDepth 100000
set_option maxHeartbeats 4000000
set_option autoImplicit false
namespace K06
open PySem L2 Dx Kd
/-- places, one behind the other -/
def plsI (L : Int) (xs : List D) : List Int := 0 :: (xs.map (fun x => (x.nth 0).toInt) ++ [L])
theorem props_rise {n : Int} : ∀ {z : Int} {xs : List D}, propsFrom n z xs = true → z < n → (z :: (xs.map (fun x => (x.nth 0).toInt) ++ [n])).Pairwise (· < ·)
  | z, [], _, hz => by
    show [z, n].Pairwise _
    exact .cons (fun a ha => by rw [List.mem_singleton.mp ha]; exact hz) (List.pairwise_singleton ..)
  | z, y :: ys, h, hz => by
    unfold propsFrom at h
    obtain ⟨h1, h2⟩ := Bool.and_eq_true_iff.mp h
    obtain ⟨h2, h3⟩ := Bool.and_eq_true_iff.mp h2
    obtain ⟨u, v, rfl⟩ := isPair_inv h1
    have h2 : isProp n z u v = true := h2
    obtain ⟨h4, h5⟩ := Bool.and_eq_true_iff.mp h2
    obtain ⟨h5, h6⟩ := Bool.and_eq_true_iff.mp h5
    obtain ⟨h6, _⟩ := Bool.and_eq_true_iff.mp h6
    obtain ⟨i, rfl⟩ := isWhole_inv h4
    have h5 : z < i := of_decide_eq_true h5
    have h6 : i < n := of_decide_eq_true h6
    have ih := props_rise (z := i) h3 h6
    refine .cons (fun a ha => ?_) ih
    have ha : a ∈ i :: (ys.map (fun x => (x.nth 0).toInt) ++ [n]) := ha
    rcases List.mem_cons.mp ha with rfl | ha
    · exact h5
    · cases ih with
      | cons h7 _ => have := h7 a ha; omega
theorem plsI_at {L : Int} {xs : List D} {i : Int} (h0 : -1 ≤ i) (h1 : i ≤ xs.length) : (plsI L xs)[(i + 1).toNat]? = some (plcI L xs i) := by
  unfold plcI plcOf
  by_cases z1 : i = -1
  · rw [if_pos z1, z1]
    rfl
  · rw [if_neg z1]
    obtain ⟨j, rfl⟩ : ∃ j : Nat, i = j := ⟨i.toNat, by omega⟩
    rw [show ((j : Int) + 1).toNat = j + 1 from by omega]
    unfold plsI
    rw [List.getElem?_cons_succ]
    by_cases z2 : (j : Int) = xs.length
    · rw [if_pos z2, List.getElem?_append_right (by rw [List.length_map]; omega), List.length_map]
      rw [show j - xs.length = 0 from by omega]
      rfl
    · have hj : j < xs.length := by omega
      rw [if_neg z2, List.getElem?_append_left (by rw [List.length_map]; omega), List.getElem?_map, List.getElem?_eq_getElem hj]
      show some _ = some ((xs.getD j .non).nth 0).toInt
      rw [getD_at hj]
theorem plc_lt {L : Int} {xs : List D} (hp : propsFrom L 0 xs = true) (hL : 0 < L) {i j : Int} (h0 : -1 ≤ i) (h1 : i < j) (h2 : j ≤ xs.length) : plcI L xs i < plcI L xs j := by
  have h := props_rise hp hL
  have e1 := plsI_at (L := L) (xs := xs) h0 (by omega)
  have e2 := plsI_at (L := L) (xs := xs) (i := j) (by omega) h2
  obtain ⟨b1, e1⟩ := List.getElem?_eq_some_iff.mp e1
  obtain ⟨b2, e2⟩ := List.getElem?_eq_some_iff.mp e2
  rw [← e1, ← e2]
  exact List.pairwise_iff_getElem.mp h _ _ b1 b2 (by omega)
theorem plc_ge {L : Int} {xs : List D} (hp : propsFrom L 0 xs = true) (hL : 0 < L) {i : Int} (h0 : -1 ≤ i) (h1 : i ≤ xs.length) : 0 ≤ plcI L xs i := by
  by_cases z : i = -1
  · subst z; exact Int.le_refl 0
  · have : plcI L xs (-1) < plcI L xs i := plc_lt hp hL (by omega) (by omega) h1
    have e : plcI L xs (-1) = 0 := rfl
    omega
theorem plc_le {L : Int} {xs : List D} (hp : propsFrom L 0 xs = true) (hL : 0 < L) {i : Int} (h0 : -1 ≤ i) (h1 : i ≤ xs.length) : plcI L xs i ≤ L := by
  have e : plcI L xs xs.length = L := by
    unfold plcI plcOf
    rw [if_neg (by omega), if_pos rfl]
    rfl
  by_cases z : i = xs.length
  · rw [z, e]; omega
  · have : plcI L xs i < plcI L xs xs.length := plc_lt hp hL h0 (by omega) (by omega)
    omega
/-- the rests while a lot stands, and their places -/
def restsOf (n : Nat) (ns : List Int) : List Int := -1 :: (ns ++ [(n : Int)])
theorem rests_rise {n : Nat} {ns : List Int} (h : LotOk n ns) : (restsOf n ns).Pairwise (· < ·) ∧ ∀ r ∈ restsOf n ns, -1 ≤ r ∧ r ≤ n := by
  refine ⟨.cons (fun a ha => ?_) (List.pairwise_append.mpr ⟨h.1, List.pairwise_singleton .., fun a ha b hb => ?_⟩), fun r hr => ?_⟩
  · rcases List.mem_append.mp ha with ha | ha
    · have := h.2 a ha; omega
    · rw [List.mem_singleton.mp ha]; omega
  · rw [List.mem_singleton.mp hb]; exact (h.2 a ha).2
  · rcases List.mem_cons.mp hr with rfl | hr
    · omega
    · rcases List.mem_append.mp hr with hr | hr
      · have := h.2 r hr; omega
      · rw [List.mem_singleton.mp hr]; omega
theorem lot_len {n : Nat} {ns : List Int} (h : LotOk n ns) : ns.length ≤ n := by
  have := len_le (ns := (List.range n).map fun i : Nat => (i : Int)) h.1 fun k hk => by
    have := h.2 k hk
    exact List.mem_map.mpr ⟨k.toNat, List.mem_range.mpr (by omega), by omega⟩
  rw [List.length_map, List.length_range] at this
  exact this
def plsOf (L : Int) (xs : List D) (ns : List Int) : List Int := (restsOf xs.length ns).map (plcI L xs)
def olOf (pl : List Int) : List (Option Int) := none :: (pl.map some ++ [none])
theorem olOf_len {pl : List Int} : (olOf pl).length = pl.length + 2 := by
  unfold olOf
  simp
theorem olOf_mid {pl : List Int} {k : Nat} (h : k < pl.length) : (olOf pl)[k + 1]? = some (some pl[k]) := by
  unfold olOf
  rw [List.getElem?_cons_succ, List.getElem?_append_left (by rw [List.length_map]; exact h), List.getElem?_map, List.getElem?_eq_getElem h]
  rfl
theorem olOf_lo {pl : List Int} {k : Nat} (h : k < pl.length) {l : Int} (e : (olOf pl).getD k none = some l) : ∃ j, ∃ h : j < pl.length, k = j + 1 ∧ pl[j] = l := by
  match k, h with
  | 0, h => cases e
  | j + 1, h =>
    have hj : j < pl.length := by omega
    rw [List.getD_eq_getElem?_getD, olOf_mid hj] at e
    cases e
    exact ⟨j, hj, rfl, rfl⟩
theorem olOf_hi {pl : List Int} {k : Nat} {u : Int} (e : (olOf pl).getD (k + 2) none = some u) : ∃ h : k + 1 < pl.length, pl[k + 1] = u := by
  rcases Nat.lt_or_ge (k + 1) pl.length with h | h
  · rw [List.getD_eq_getElem?_getD, olOf_mid (k := k + 1) h] at e
    cases e
    exact ⟨h, rfl⟩
  · unfold olOf at e
    rw [List.getD_eq_getElem?_getD, List.getElem?_cons_succ, List.getElem?_append_right (by rw [List.length_map]; exact h), List.length_map] at e
    revert e
    match k + 1 - pl.length with
    | 0 => exact fun e => by cases e
    | j + 1 => exact fun e => by cases e
/-- the share of the k-th rest in a weight -/
def tentK (pl : List Int) (k : Nat) (x : Rat) : Rat := tentQ ((olOf pl).getD k none) (pl.getD k 0) ((olOf pl).getD (k + 2) none) x
def shareQ (pl : List Int) (ws : List (Rat × Rat)) (k : Nat) : Rat := sumQ (ws.map fun z => z.2 * tentK pl k z.1)
def bornD (L : Int) (xs : List D) (ws : List (Rat × Rat)) (ns : List Int) : List D := (List.range (ns.length + 2)).map fun k => .tup [.int ((restsOf xs.length ns).getD k 0), frD (shareQ (plsOf L xs ns) ws k)]
theorem tentK_in {L : Int} {xs : List D} {ns : List Int} (hp : propsFrom L 0 xs = true) (h0 : 0 < L) (h1 : L ≤ 1000) (hn : LotOk xs.length ns) {k : Nat} (hk : k < ns.length + 2) {x : Rat} (hx : Bt 30 20 x) :
    TentIn ((olOf (plsOf L xs ns)).getD k none) ((plsOf L xs ns).getD k 0) ((olOf (plsOf L xs ns)).getD (k + 2) none) x := by
  obtain ⟨rr, rb⟩ := rests_rise hn
  have ll : (plsOf L xs ns).length = ns.length + 2 := by
    unfold plsOf restsOf
    simp
  have pr : ∀ i j (hi : i < (plsOf L xs ns).length) (hj : j < (plsOf L xs ns).length), i < j → (plsOf L xs ns)[i] < (plsOf L xs ns)[j] := fun i j hi hj hij => by
    unfold plsOf
    unfold plsOf at hi hj
    rw [List.length_map] at hi hj
    rw [List.getElem_map, List.getElem_map]
    exact plc_lt hp h0 (rb _ (List.getElem_mem hi)).1 (List.pairwise_iff_getElem.mp rr _ _ hi hj hij) (rb _ (List.getElem_mem hj)).2
  have pb : ∀ i (hi : i < (plsOf L xs ns).length), 0 ≤ (plsOf L xs ns)[i] ∧ (plsOf L xs ns)[i] ≤ L := fun i hi => by
    unfold plsOf
    unfold plsOf at hi
    rw [List.length_map] at hi
    rw [List.getElem_map]
    have := rb _ (List.getElem_mem hi)
    exact ⟨plc_ge hp h0 this.1 this.2, plc_le hp h0 this.1 this.2⟩
  have hk2 : k < (plsOf L xs ns).length := by rw [ll]; exact hk
  rw [getD_at hk2]
  have b := pb k hk2
  refine ⟨hx, b.1, by omega, fun l hl => ?_, fun u hu => ?_⟩
  · obtain ⟨j, hj, rfl, rfl⟩ := olOf_lo hk2 hl
    exact ⟨(pb j hj).1, pr j (j + 1) hj hk2 (by omega)⟩
  · obtain ⟨hj, rfl⟩ := olOf_hi hu
    have := (pb (k + 1) hj).2
    exact ⟨pr k (k + 1) hk2 hj (by omega), by omega⟩
def wBorne : Pm := fnP (fun ds => ∃ (l : D) (xs : List D) (b : D) (ws : List (Rat × Rat)) (ns : List Int), ds = [mD l xs b, .lst (ws.map wtD), .tup (ns.map D.int)] ∧ MOk l xs b ∧ ws.length ≤ 16 ∧ (∀ z ∈ ws, WtOk l.toInt z) ∧ LotOk xs.length ns) fun ds r => ∀ (l : D) (xs : List D) (b : D) (ws : List (Rat × Rat)) (ns : List Int), ds = [mD l xs b, .lst (ws.map wtD), .tup (ns.map D.int)] → r = .lst (bornD l.toInt xs ws ns)
theorem wts_inj {us ws : List (Rat × Rat)} (h : D.lst (us.map wtD) = D.lst (ws.map wtD)) : us = ws := by
  injection h with h
  induction us generalizing ws with
  | nil => cases ws with
    | nil => rfl
    | cons w ws => cases h
  | cons u us ih => cases ws with
    | nil => cases h
    | cons w ws =>
      injection h with h1 h2
      injection h1 with h1
      injection h1 with h1 h3
      injection h3 with h3
      rw [ih h2, show u = w from Prod.ext (frD_inj h1) (frD_inj h3)]
theorem ints_inj {us ws : List Int} (h : D.tup (us.map D.int) = D.tup (ws.map D.int)) : us = ws := by
  injection h with h
  induction us generalizing ws with
  | nil => cases ws with
    | nil => rfl
    | cons w ws => cases h
  | cons u us ih => cases ws with
    | nil => cases h
    | cons w ws =>
      injection h with h1 h2
      injection h1 with h1
      rw [ih h2, h1]
theorem ol_at {pl : List Int} {k : Nat} (h : k < pl.length + 2) : ((olOf pl).map oD)[k]? = some (oD ((olOf pl).getD k none)) := by
  rw [← olOf_len] at h
  rw [List.getElem?_map, List.getElem?_eq_getElem h, getD_at h]
  rfl
theorem ol_here {pl : List Int} {k : Nat} (h : k < pl.length) : ((olOf pl).map oD)[k + 1]? = some (.int (pl.getD k 0)) := by
  rw [List.getElem?_map, olOf_mid h, getD_at h]
  rfl
theorem rests_eq {n : Nat} {ns : List Int} : [D.int (-1)] ++ ns.map D.int ++ [D.int (n : Int)] = (restsOf n ns).map D.int := by
  unfold restsOf
  rw [List.map_cons, List.map_append]
  rfl
theorem ol_eq {L : Int} {xs : List D} {ns : List Int} : [D.non] ++ (restsOf xs.length ns).map (fun r => D.int (plcI L xs r)) ++ [D.non] = (olOf (plsOf L xs ns)).map oD := by
  unfold olOf plsOf
  rw [List.map_cons, List.map_append, List.map_map, List.map_map]
  rfl
theorem mapI_next {ns : List Int} {acc : List D} {f : Int → D} {i : Nat} {d : Int} (h : ns[i]? = some d) (e : acc = (ns.take i).map f) : acc ++ [f d] = (ns.take (i + 1)).map f := by
  rw [e, List.take_add_one, h, List.map_append]
  rfl
theorem mapQ_next {ns : List (Rat × Rat)} {acc : List D} {f : Rat × Rat → D} {i : Nat} {d : Rat × Rat} (h : ns[i]? = some d) (e : acc = (ns.take i).map f) : acc ++ [f d] = (ns.take (i + 1)).map f := by
  rw [e, List.take_add_one, h, List.map_append]
  rfl
theorem born_next {L : Int} {xs : List D} {ws : List (Rat × Rat)} {ns : List Int} {i : Nat} {r : Int} (h : (restsOf xs.length ns)[i]? = some r) : (bornD L xs ws ns).take i ++ [.tup [.int r, frD (shareQ (plsOf L xs ns) ws i)]] = (bornD L xs ws ns).take (i + 1) := by
  have hi := lt_of_some h
  have hl : (restsOf xs.length ns).length = ns.length + 2 := by unfold restsOf; simp
  have e : (bornD L xs ws ns)[i]? = some (.tup [.int r, frD (shareQ (plsOf L xs ns) ws i)]) := by
    unfold bornD
    rw [List.getElem?_map, List.getElem?_range (by omega)]
    show some (D.tup [.int ((restsOf xs.length ns).getD i 0), _]) = _
    rw [List.getD_eq_getElem?_getD, h]
    rfl
  rw [List.take_add_one, e]
  rfl
theorem born_len {L : Int} {xs : List D} {ws : List (Rat × Rat)} {ns : List Int} : (bornD L xs ws ns).length = ns.length + 2 := by
  unfold bornD
  rw [List.length_map, List.length_range]
section
variable {P : Program} {w : World} {K : PySem.W.Frag} {mg : Str → Option Value} {a : Nat → Addr} {fd : Nat → FuncData} {tk : Nat → Tok} {base : Heap}
end
end K06
set_option synthInstance.maxSize 100000
set_option synthInstance.maxHeartbeats 4000000
set_option Elab.async false
set_option linter.all false
set_option maxRecDepth 100000
set_option maxHeartbeats 4000000
set_option autoImplicit false
namespace K06
open PySem L2 Dx Kd
/-- what is asked of the plank -/
def Pk (L : Int) (xs : List D) : Prop := 2 ≤ L ∧ L ≤ 1000 ∧ propsFrom L 0 xs = true ∧ xs.length ≤ 12
theorem self_ap {C : Addr} {post : D → List D → D → D → Prop} {l : D} {xs : List D} {b : D} {Ψ : D → Ab → Prop} (h : ∀ r ρ', post l xs b r → Ψ r ρ') : selfP C post (pus [plk C l xs b]) X0 Ψ :=
  ⟨[_], rfl, ⟨l, xs, b, rfl⟩, fun r ρ' q => h r ρ' (q l xs b rfl)⟩
theorem wt_pl (z : Rat × Rat) : Pl (wtD z) := Pl.pair (frD_pl _) (frD_pl _)
def wChk (a : Nat → Addr) : Pm := fun ρ Ξ Φ => ∃ (L : Int) (xs : List D) (b : D) (ws : List (Rat × Rat)), ρ = pus [plk (a 107) (.int L) xs b, .lst (ws.map wtD)] ∧ Pk L xs ∧ (∀ z ∈ ws, WtOk L z) ∧ ∀ ρ', Φ .non ρ'
def wLotOf (a : Nat → Addr) : Pm := fun ρ Ξ Φ => ∃ (l : D) (xs : List D) (b d : D), ρ = pus [plk (a 107) l xs b, d] ∧ xs.length ≤ 12 ∧ ((d = .non ∧ ∀ ρ', Φ (.tup (rngD 0 xs.length)) ρ') ∨ ∃ ms : List Int, d = .tup (ms.map D.int) ∧ LotOk xs.length ms ∧ ∀ ρ', Φ d ρ')
theorem num_pos_of {q : Rat} (h : 0 < q) : 0 < q.num := by
  have := (Rat.lt_iff 0 q).mp h
  have : (0 : Int) * (q.den : Int) < q.num * 1 := this
  omega
def rngI (n : Nat) : List Int := (List.range n).map fun i : Nat => (i : Int)
theorem rng_mapI {n : Nat} : rngD 0 n = (rngI n).map D.int := rng_map
section
variable {P : Program} {w : World} {K : PySem.W.Frag} {mg : Str → Option Value} {a : Nat → Addr} {fd : Nat → FuncData} {tk : Nat → Tok} {base : Heap}
theorem ok_is_place (T : Txt K mg a fd tk) : FnOk P w K mg base CX0 4 (a 12) (fd 12) ["plank", "thing"] (spD K 2 (fnP (fun ds => ∃ L xs b x, ds = [plk (a 107) (.int L) xs b, frD x] ∧ Pk L xs ∧ 0 ≤ x ∧ x ≤ (L : Rat) ∧ Bt 30 20 x) fun ds r => r = .bl true)) := by
  refine ok0 T.F_is_place sc_is_place (fun _ _ _ h => h) fun cdv A outer s H E hr => ?_
  refine ⟨_, (pss_one (ps_ret (pe_and (pe_call (ok_is_from_nought T) (hr.mono (by decide)) rfl T.n_is_from_nought T.F_is_from_nought.kp T.b_is_from_nought .nil pass0 (pa_cons (pv 1) pa_nil)) (pe_one (pe_not (pe_call (ok_is_below T) (hr.mono (by decide)) rfl T.n_is_below T.F_is_below.kp T.b_is_below .nil pass0 (pa_cons (pe_call (ok_of_whole T) (hr.mono (by decide)) rfl T.n_of_whole T.F_of_whole.kp T.b_of_whole .nil pass0 (pa_cons (pe_meth0 (pv 0) T.c_Plank T.m_Plank_length (ok_Plank_length T) (hr.mono (by decide)) T.b_Plank_length .nil pass0) pa_nil)) (pa_cons (pv 1) pa_nil)))))))), ?_⟩
  try dsimp only [cxOf, List.map, List.length_cons, List.length_nil]
  refine ⟨_, inferInstance, ?_⟩
  rintro ρ Ξ Φ ⟨ds, rfl, ⟨L, xs, b, x, rfl, ⟨L0, L1, _⟩, x0, x1, hx⟩, k⟩
  have k : ∀ ρ', Φ (.bl true) ρ' := fun ρ' => k _ _ rfl
  refine ⟨_, rfl, trivial, rfl, List.nodup_nil, [_], rfl, ⟨_, rfl, frD_pl x⟩, fun r ρ' h => ?_⟩
  subst h
  refine ⟨_, rfl, ?_⟩
  show if isFromN (frD x) = true then _ else _
  rw [frD_nought x0]
  refine ⟨_, rfl, _, rfl, lookN (by decide +kernel) (by decide +kernel) (by decide +kernel), rfl, List.nodup_nil, self_ap fun r ρ' h => ?_⟩
  subst h
  refine ⟨trivial, rfl, List.nodup_nil, [_], rfl, ⟨L, rfl⟩, fun r ρ' h => ?_⟩
  rw [h _ rfl]
  refine ⟨_, rfl, trivial, trivial, rfl, List.nodup_nil, ⟨_, _, (L : Rat), x, rfl, .inr rfl, .inl rfl, (int_bt (n := 11) (by omega)).mono (by decide) (by decide), hx.mono (by decide) (by decide), fun ρ' => ?_⟩⟩
  have e : decide ((L : Rat) < x) = false := decide_eq_false (Rat.not_lt.mpr x1)
  rw [e]
  exact ⟨_, rfl, k _⟩

theorem ok_is_above_nought (T : Txt K mg a fd tk) : FnOk P w K mg base CX0 4 (a 13) (fd 13) ["thing"] (spD K 1 (fnP (fun ds => ∃ q : Rat, ds = [frD q] ∧ 0 < q) fun ds r => r = .bl true)) := by
  refine ok0 T.F_is_above_nought sc_is_above_nought (fun _ _ _ h => h) fun cdv A outer s H E hr => ?_
  refine ⟨_, (pss_one (ps_ret (pe_and (pe_call (ok_is_from_nought T) (hr.mono (by decide)) rfl T.n_is_from_nought T.F_is_from_nought.kp T.b_is_from_nought .nil pass0 (pa_cons (pv 0) pa_nil)) (pe_one (pe_cmpR op_gt (pe_ix (ix_ltK (K := K)) (pv 0) pe_int (fun _ _ => rfl)) pe_int (nomark _)))))), ?_⟩
  try dsimp only [cxOf, List.map, List.length_cons, List.length_nil]
  refine ⟨_, inferInstance, ?_⟩
  rintro ρ Ξ Φ ⟨ds, rfl, ⟨q, rfl, hq⟩, k⟩
  have k : ∀ ρ', Φ (.bl true) ρ' := fun ρ' => k _ _ rfl
  have hn := num_pos_of hq
  refine ⟨_, rfl, trivial, rfl, List.nodup_nil, [_], rfl, ⟨_, rfl, frD_pl q⟩, fun r ρ' h => ?_⟩
  subst h
  refine ⟨_, rfl, ?_⟩
  show if isFromN (frD q) = true then _ else _
  rw [frD_nought (Rat.le_of_lt hq)]
  refine ⟨_, rfl, _, 0, _, rfl, rfl, rfl, _, 0, rfl, rfl, ?_⟩
  have e : decide (0 < q.num) = true := decide_eq_true hn
  show Φ (.bl (decide (0 < q.num))) _
  rw [e]
  exact k _

theorem ok_is_weight (T : Txt K mg a fd tk) : FnOk P w K mg base CX0 5 (a 14) (fd 14) ["plank", "thing"] (spD K 2 (fnP (fun ds => ∃ L xs b z, ds = [plk (a 107) (.int L) xs b, wtD z] ∧ Pk L xs ∧ WtOk L z) fun ds r => r = .bl true)) := by
  refine ok0 T.F_is_weight sc_is_weight (fun _ _ _ h => h) fun cdv A outer s H E hr => ?_
  refine ⟨_, (pss_cons (ps_if (pt_not (pt_val (pe_call (ok_is_pair T) (hr.mono (by decide)) rfl T.n_is_pair T.F_is_pair.kp T.b_is_pair .nil pass0 (pa_cons (pv 1) pa_nil)))) (pss_one (ps_ret pe_bl)) pss_nil)
      (pss_cons (ps_asg (pv 1) (pg_tup rfl (pgs_cons (pg_name (i := 2) sc_is_weight.nd rfl (by first | exact Or.inl rfl | exact Or.inr rfl)) (pgs_cons (pg_name (i := 3) sc_is_weight.nd rfl (by first | exact Or.inl rfl | exact Or.inr rfl)) pgs_nil))))
      (pss_one (ps_ret (pe_and (pe_call (ok_is_place T) (hr.mono (by decide)) rfl T.n_is_place T.F_is_place.kp T.b_is_place .nil pass0 (pa_cons (pv 0) (pa_cons (pv 2) pa_nil))) (pe_one (pe_call (ok_is_above_nought T) (hr.mono (by decide)) rfl T.n_is_above_nought T.F_is_above_nought.kp T.b_is_above_nought .nil pass0 (pa_cons (pv 3) pa_nil)))))))), ?_⟩
  try dsimp only [cxOf, List.map, List.length_cons, List.length_nil]
  refine ⟨_, inferInstance, ?_⟩
  rintro ρ Ξ Φ ⟨ds, rfl, ⟨L, xs, b, z, rfl, hL, hz⟩, k⟩
  have k : ∀ ρ', Φ (.bl true) ρ' := fun ρ' => k _ _ rfl
  refine ⟨_, rfl, trivial, rfl, List.nodup_nil, [_], rfl, ⟨_, rfl, wt_pl z⟩, fun r ρ' h => ?_⟩
  subst h
  refine ⟨_, rfl, ?_⟩
  show if (!isPair (wtD z)) = true then _ else _
  refine ⟨_, rfl, [frD z.1, frD z.2], rfl, rfl, _, _, rfl, _, _, rfl, rfl, ?_⟩
  refine ⟨_, rfl, _, rfl, trivial, trivial, rfl, List.nodup_nil, [_, _], rfl, ⟨L, xs, b, z.1, rfl, hL, hz.1.1, hz.1.2, hz.2.2.1.1⟩, fun r ρ' h => ?_⟩
  subst h
  refine ⟨_, rfl, ?_⟩
  refine ⟨_, rfl, trivial, rfl, List.nodup_nil, [_], rfl, ⟨z.2, rfl, hz.2.1⟩, fun r ρ' h => ?_⟩
  subst h
  exact k _

theorem ok_fault_in_weights (T : Txt K mg a fd tk) : FnOk P w K mg base CX0 6 (a 15) (fd 15) ["plank", "thing"] (spD K 2 (wChk a)) := by
  refine ok0 T.F_fault_in_weights sc_fault_in_weights (fun _ _ _ h => h) fun cdv A outer s H E hr => ?_
  refine ⟨_, (pss_cons (ps_if (pt_cmpR op_isNotTy2 (pe_callTy (call_typeK (K := K)) rfl T.n_type (by decide +kernel) (pa_cons (pv 1) pa_nil)) (pe_bltn (v := .ty "list") rfl T.n_list (by decide +kernel) rfl) (nomark _)) (pss_one (ps_ret (pe_un un_neg pe_int))) pss_nil)
      (pss_cons (ps_for PassesOwn.never rfl (pi_enumT (by rfl) T.n_enumerate (pa_cons (pv 1) pa_nil)) (pg_tup rfl (pgs_cons (pg_name (i := 2) sc_fault_in_weights.nd rfl (by first | exact Or.inl rfl | exact Or.inr rfl)) (pgs_cons (pg_name (i := 3) sc_fault_in_weights.nd rfl (by first | exact Or.inl rfl | exact Or.inr rfl)) pgs_nil))) (pss_one (ps_if (pt_not (pt_val (pe_call (ok_is_weight T) (hr.mono (by decide)) rfl T.n_is_weight T.F_is_weight.kp T.b_is_weight .nil pass0 (pa_cons (pv 0) (pa_cons (pv 3) pa_nil))))) (pss_one (ps_ret (pv 2))) pss_nil)))
      (pss_one (ps_ret pe_non)))), ?_⟩
  try dsimp only [cxOf, List.map, List.length_cons, List.length_nil]
  refine ⟨_, inferInstance, ?_⟩
  rintro ρ Ξ Φ ⟨L, xs, b, ws, rfl, hL, hz, k⟩
  refine ⟨_, rfl, "list", rfl, _, rfl, ?_⟩
  show if (!decide ("list" = "list")) = true then _ else _
  refine ⟨_, rfl, trivial, _, ws.map wtD, rfl, rfl, ?_⟩
  refine ⟨fun i ρ => ∃ a2 a3, ρ = [some (.pu (plk (a 107) (.int L) xs b)), some (.pu (.lst (ws.map wtD))), a2, a3], ⟨_, _, rfl⟩, ?_, ?_⟩
  · rintro i e ρ hi ⟨a2, a3, rfl⟩
    obtain ⟨d, hi2, rfl⟩ := enumD_some hi
    rw [List.getElem?_map] at hi2
    obtain ⟨z, hj, rfl⟩ := Option.map_eq_some_iff.mp hi2
    refine ⟨[.int i, wtD z], rfl, rfl, _, _, rfl, _, _, rfl, rfl, ?_⟩
    refine ⟨_, rfl, _, rfl, trivial, trivial, rfl, List.nodup_nil, [_, _], rfl, ⟨L, xs, b, z, rfl, hL, hz z (List.mem_of_getElem? hj)⟩, fun r ρ' h => ?_⟩
    subst h
    exact ⟨_, rfl, _, _, rfl⟩
  · rintro ρ ⟨a2, a3, rfl⟩
    exact k _

theorem ok_check_weights (T : Txt K mg a fd tk) : FnOk P w K mg base (L2.CX P w) 7 (a 16) (fd 16) ["plank", "weights"] (spD K 2 (wChk a)) := by
  refine okX T.F_check_weights sc_check_weights fun cdv A outer s H E hr => ?_
  refine ⟨_, (pss_cons (ps_set (i := 2) sc_check_weights.nd rfl (by first | exact Or.inl rfl | exact Or.inr rfl) (pe_call (ok_fault_in_weights T) (hr.mono (by decide)) rfl T.n_fault_in_weights T.F_fault_in_weights.kp T.b_fault_in_weights .nil pass0 (pa_cons (pv 0) (pa_cons (pv 1) pa_nil))))
      (pss_one (ps_if (pt_cmp (pc_notN (pv 2))) (pss_one (ps_raise1 rfl (takes_of rfl rfl rfl rfl) T.x_NoWeights (ok_NoWeights___init T) (hr.mono (by decide)) T.b_NoWeights___init pass0 rfl T.n_NoWeights (pv 2))) pss_nil))), ?_⟩
  try dsimp only [cxOf, List.map, List.length_cons, List.length_nil]
  refine ⟨_, inferInstance, ?_⟩
  rintro ρ Ξ Φ ⟨L, xs, b, ws, rfl, hL, hz, k⟩
  refine ⟨_, rfl, _, rfl, trivial, trivial, rfl, List.nodup_nil, ⟨L, xs, b, ws, rfl, hL, hz, fun ρ' => ?_⟩⟩
  exact ⟨_, rfl, _, rfl, k _⟩

theorem ok_is_prop_of (T : Txt K mg a fd tk) : FnOk P w K mg base CX0 2 (a 18) (fd 18) ["lot", "thing"] (spD K 2 (fnP (fun ds => ∃ (ns : List Int) (i : Int), ds = [.tup (ns.map D.int), .int i]) fun ds r => ∀ (ns : List Int) (i : Int), ds = [.tup (ns.map D.int), .int i] → r = .bl (decide (i ∈ ns)))) := by
  refine ok0 T.F_is_prop_of sc_is_prop_of (fun _ _ _ h => h) fun cdv A outer s H E hr => ?_
  refine ⟨_, (pss_one (ps_ret (pe_and (pe_call (ok_is_whole T) (hr.mono (by decide)) rfl T.n_is_whole T.F_is_whole.kp T.b_is_whole .nil pass0 (pa_cons (pv 1) pa_nil)) (pe_one (pe_cmpR op_in_seq (pv 1) (pv 0) (by rfl)))))), ?_⟩
  try dsimp only [cxOf, List.map, List.length_cons, List.length_nil]
  refine ⟨_, inferInstance, ?_⟩
  rintro ρ Ξ Φ ⟨ds, rfl, ⟨ns, i, rfl⟩, k⟩
  have k : ∀ ρ', Φ (.bl (decide (i ∈ ns))) ρ' := fun ρ' => k _ _ fun ns' i' e => by
    injection e with e1 e2
    injection e2 with e2
    injection e2 with e2
    rw [ints_inj e1, e2]
  refine ⟨_, rfl, trivial, rfl, List.nodup_nil, [_], rfl, ⟨_, rfl, .int i⟩, fun r ρ' h => ?_⟩
  subst h
  exact ⟨_, rfl, _, rfl, _, rfl, i, ns, rfl, rfl, k _⟩

theorem ok_is_lot_of (T : Txt K mg a fd tk) : FnOk P w K mg base CX0 3 (a 19) (fd 19) ["lot", "thing"] (spD K 2 (fnP (fun ds => ∃ (n : Nat) (ms : List Int), ds = [.tup (rngD 0 n), .tup (ms.map D.int)] ∧ LotOk n ms) fun ds r => r = .bl true)) := by
  refine ok0 T.F_is_lot_of sc_is_lot_of (fun _ _ _ h => h) fun cdv A outer s H E hr => ?_
  refine ⟨_, (pss_cons (ps_if (pt_cmpR op_isNotTy2 (pe_callTy (call_typeK (K := K)) rfl T.n_type (by decide +kernel) (pa_cons (pv 1) pa_nil)) (pe_bltn (v := .ty "tuple") rfl T.n_tuple (by decide +kernel) rfl) (nomark _)) (pss_one (ps_ret pe_bl)) pss_nil)
      (pss_cons (ps_for PassesOwn.never rfl (pi_enumT (by rfl) T.n_enumerate (pa_cons (pv 1) pa_nil)) (pg_tup rfl (pgs_cons (pg_name (i := 2) sc_is_lot_of.nd rfl (by first | exact Or.inl rfl | exact Or.inr rfl)) (pgs_cons (pg_name (i := 3) sc_is_lot_of.nd rfl (by first | exact Or.inl rfl | exact Or.inr rfl)) pgs_nil))) (pss_cons (ps_if (pt_not (pt_val (pe_call (ok_is_prop_of T) (hr.mono (by decide)) rfl T.n_is_prop_of T.F_is_prop_of.kp T.b_is_prop_of .nil pass0 (pa_cons (pv 0) (pa_cons (pv 3) pa_nil))))) (pss_one (ps_ret pe_bl)) pss_nil)
      (pss_one (ps_if (PW.pt (pw_and (pt_cmpR op_gt (pv 2) pe_int (nomark _)) (pw_and1 (pt_not (pt_cmpR op_lt (pe_ix (ix_ltK (K := K)) (pv 1) (pe_op op_sub (pv 2) pe_int) (fun _ _ => rfl)) (pv 3) (nomark _)))))) (pss_one (ps_ret pe_bl)) pss_nil))))
      (pss_one (ps_ret pe_bl)))), ?_⟩
  try dsimp only [cxOf, List.map, List.length_cons, List.length_nil]
  refine ⟨_, inferInstance, ?_⟩
  rintro ρ Ξ Φ ⟨ds, rfl, ⟨n, ms, rfl, hm⟩, k⟩
  have k : ∀ ρ', Φ (.bl true) ρ' := fun ρ' => k _ _ rfl
  refine ⟨_, rfl, "tuple", rfl, _, rfl, ?_⟩
  show if (!decide ("tuple" = "tuple")) = true then _ else _
  refine ⟨_, rfl, trivial, _, ms.map D.int, rfl, rfl, ?_⟩
  refine ⟨fun i ρ => ∃ a2 a3, ρ = [some (.pu (.tup (rngD 0 n))), some (.pu (.tup (ms.map D.int))), a2, a3], ⟨_, _, rfl⟩, ?_, ?_⟩
  · rintro i e ρ hi ⟨a2, a3, rfl⟩
    obtain ⟨d, hi2, rfl⟩ := enumD_some hi
    rw [List.getElem?_map] at hi2
    obtain ⟨m, hj, rfl⟩ := Option.map_eq_some_iff.mp hi2
    refine ⟨[.int i, .int m], rfl, rfl, _, _, rfl, _, _, rfl, rfl, ?_⟩
    refine ⟨_, rfl, _, rfl, trivial, trivial, rfl, List.nodup_nil, [_, _], rfl, ⟨rngI n, m, by rw [rng_mapI]⟩, fun r ρ' h => ?_⟩
    rw [h (rngI n) m (by rw [rng_mapI])]
    have hb := hm.2 m (List.mem_of_getElem? hj)
    have hmem : m ∈ rngI n := List.mem_map.mpr ⟨m.toNat, List.mem_range.mpr (by omega), by omega⟩
    rw [decide_eq_true hmem]
    refine ⟨_, rfl, ?_⟩
    show if (!true) = true then _ else _
    refine ⟨_, rfl, (i : Int), 0, rfl, rfl, _, rfl, ?_⟩
    show if decide ((0 : Int) < (i : Int)) = true then _ else _
    by_cases c : (0 : Int) < (i : Int)
    · rw [decide_eq_true c]
      obtain ⟨j, rfl⟩ : ∃ j : Nat, i = j + 1 := ⟨i - 1, by omega⟩
      have hj1 := lt_of_some hj
      have ej : ms[j]? = some ms[j] := List.getElem?_eq_getElem (by omega)
      obtain ⟨_, ei⟩ := List.getElem?_eq_some_iff.mp hj
      have lt : ms[j] < m := by
        rw [← ei]
        exact List.pairwise_iff_getElem.mp hm.1 _ _ _ _ (by omega)
      have eat : (ms.map D.int)[j]? = some (.int ms[j]) := by
        rw [List.getElem?_map, ej]
        rfl
      refine ⟨_, rfl, _, rfl, ((j + 1 : Nat) : Int), 1, rfl, rfl, _, _, _, rfl, rfl, (by rw [show (((j + 1 : Nat) : Int) - 1) = ((j : Nat) : Int) from by omega]; exact atI_nat eat), ?_⟩
      refine ⟨_, rfl, _, _, rfl, rfl, _, rfl, ?_⟩
      show if (!decide (ms[j] < m)) = true then _ else _
      rw [decide_eq_true lt]
      exact ⟨_, _, rfl⟩
    · rw [decide_eq_false c]
      exact ⟨_, _, rfl⟩
  · rintro ρ ⟨a2, a3, rfl⟩
    exact k _

theorem ok_all_props (T : Txt K mg a fd tk) : FnOk P w K mg base CX0 2 (a 20) (fd 20) ["plank"] (spD K 1 (fnP (fun ds => ∃ (l : D) (xs : List D) (b : D), ds = [plk (a 107) l xs b] ∧ xs.length ≤ 12) fun ds r => ∀ (l : D) (xs : List D) (b : D), ds = [plk (a 107) l xs b] → r = .tup (rngD 0 xs.length))) := by
  refine ok0 T.F_all_props sc_all_props (fun _ _ _ h => h) fun cdv A outer s H E hr => ?_
  refine ⟨_, (pss_one (ps_ret (pe_tupRg rfl rfl T.n_tuple (prg_1 rfl T.n_range (pe_meth0 (pv 0) T.c_Plank T.m_Plank_count (ok_Plank_count T) (hr.mono (by decide)) T.b_Plank_count .nil pass0))))), ?_⟩
  try dsimp only [cxOf, List.map, List.length_cons, List.length_nil]
  refine ⟨_, inferInstance, ?_⟩
  rintro ρ Ξ Φ ⟨ds, rfl, ⟨l, xs, b, rfl, h12⟩, k⟩
  have k : ∀ ρ', Φ (.tup (rngD 0 xs.length)) ρ' := fun ρ' => k _ _ fun l' xs' b' e => by
    injection e with e
    injection e with e1 e2
    cases e2
    rfl
  refine ⟨_, rfl, _, rfl, lookN (by decide +kernel) (by decide +kernel) (by decide +kernel), rfl, List.nodup_nil, self_ap fun r ρ' h => ?_⟩
  subst h
  exact ⟨xs.length, rfl, by omega, by omega, k _⟩

theorem ok_lot_of (T : Txt K mg a fd tk) : FnOk P w K mg base (L2.CX P w) 4 (a 21) (fd 21) ["plank", "lot"] (spD K 2 (wLotOf a)) := by
  refine okX T.F_lot_of sc_lot_of fun cdv A outer s H E hr => ?_
  refine ⟨_, (pss_cons (ps_if (pt_cmp (pc_isN (pv 1))) (pss_one (ps_ret (pe_call (ok_all_props T) (hr.mono (by decide)) rfl T.n_all_props T.F_all_props.kp T.b_all_props .nil pass0 (pa_cons (pv 0) pa_nil)))) pss_nil)
      (pss_cons (ps_if (pt_not (pt_val (pe_call (ok_is_lot_of T) (hr.mono (by decide)) rfl T.n_is_lot_of T.F_is_lot_of.kp T.b_is_lot_of .nil pass0 (pa_cons (pe_call (ok_all_props T) (hr.mono (by decide)) rfl T.n_all_props T.F_all_props.kp T.b_all_props .nil pass0 (pa_cons (pv 0) pa_nil)) (pa_cons (pv 1) pa_nil))))) (pss_one (ps_raise0 rfl (takes_of rfl rfl rfl rfl) PySem.F.excBase_ValueError T.x_NoLot T.n_NoLot T.k_NoLot (raises_own T.xb_NoLot T.xt_NoLot) rfl)) pss_nil)
      (pss_one (ps_ret (pv 1))))), ?_⟩
  try dsimp only [cxOf, List.map, List.length_cons, List.length_nil]
  refine ⟨_, inferInstance, ?_⟩
  rintro ρ Ξ Φ ⟨l, xs, b, d, rfl, h12, h⟩
  rcases h with ⟨rfl, k⟩ | ⟨ms, rfl, hm, k⟩
  · refine ⟨_, rfl, _, rfl, ?_⟩
    refine ⟨_, rfl, trivial, rfl, List.nodup_nil, [_], rfl, ⟨l, xs, b, rfl, h12⟩, fun r ρ' h => ?_⟩
    rw [h _ _ _ rfl]
    exact k _
  · refine ⟨_, rfl, _, rfl, ?_⟩
    refine ⟨_, rfl, trivial, rfl, List.nodup_nil, [_], rfl, ⟨l, xs, b, rfl, h12⟩, fun r ρ' h => ?_⟩
    rw [h _ _ _ rfl]
    refine ⟨_, rfl, trivial, trivial, rfl, List.nodup_nil, [_, _], rfl, ⟨xs.length, ms, rfl, hm⟩, fun r ρ' h => ?_⟩
    subst h
    exact ⟨_, rfl, _, rfl, k _⟩

end
end K06
set_option synthInstance.maxSize 100000
set_option synthInstance.maxHeartbeats 4000000
set_option Elab.async false
set_option linter.all false
set_option maxRecDepth 100000
set_option maxHeartbeats 4000000
set_option autoImplicit false
/-! Ey5: a def of statements, the last of which returns a new thing. -/
namespace Dx
open PySem L2
section
variable {K : PySem.W.Frag}
def bodyFS (pu : PSx) (pf : PFx) (P : PmF) (m : Nat) : Prop := ∀ ρ Φ, P ρ Φ → pu { nx := fun ρ1 => pf ρ1 X0 Φ, rt := fun _ _ => False, bk := fun _ => False, ct := fun _ => False, ex := X0 } (ρ ++ List.replicate m none)
theorem body_runFS {u : TS} {te : TE} {pu : PSx} {pf : PFx} {n : Nat} {P : PmF} {N : List Str} {vs : List V} {H : Hp} {Q : VK} {E : XK} (hu : RfS K W0 u pu) (ht : RfF K W0 te pf) (h : spF K n P vs H Q E) (hb : bodyFS pu pf P (N.length - n)) : tSeq u (tRet te) { nx := fun _ H' => Q .non H', rt := Q } (L2.start N vs) H := by
  have hl := spF_len h
  obtain ⟨J, B, ρ, Φ, h1, h2, h3, h4⟩ := h
  have e : L2.start N vs = vs.map some ++ List.replicate (N.length - n) none := by unfold L2.start; rw [hl]
  rw [e]
  exact hu.run _ B (ρ ++ List.replicate (N.length - n) none) _ H { nx := tRet te { nx := fun _ H' => Q .non H', rt := Q }, rt := Q } _ (h2.more _) ⟨fun B' ρ' σ' H' r' s' z => ht.run _ B' ρ' σ' H' Q X0 Φ r' xat0 z fun a o c B2 H2 ρ2 r s f ha oc q => h4 a o c B2 H2 ρ2 r.fin f.b f.g ha oc q, fun _ _ _ _ _ _ _ _ _ z => False.elim z, fun _ _ _ _ _ _ z => False.elim z, fun _ _ _ _ _ _ z => False.elim z, xok0⟩ (hb ρ Φ h3)
end
section
variable {P : Program} {w : World} {K : PySem.W.Frag} {mg : Str → Option Value} {base : Heap}
open PyProof.Rows (envOfC) in
theorem okFS {x qual : Str} {st : Stmt} {f : Addr} {fd : FuncData} {N ps : List Str} {k : Nat} {Pw : PmF} (F : Fun K x qual st f fd) (S : FnScope N ps (defScope st))
    (hb : ∀ (cdv : Value) (A : Around) (outer : List Env) (s : Shared) (H : Hp) (E : XK), Room k (A.deeper (envOfC qual (defScope st) s.heap.objs.size f cdv)) →
      ∃ u t, PSs (cxOf CX0 P w K mg base N qual (defScope st) f cdv A outer s H E).nox (defBody st) (tSeq u (tRet t)) ∧ ∃ pu pf, RfS K W0 u pu ∧ RfF K W0 t pf ∧ bodyFS pu pf Pw (N.length - ps.length)) : FnOk P w K mg base CX0 (k + 1) f fd ps (spF K ps.length Pw) :=
  F.ok S (fun vs H Q E h => spF_len h) fun cdv A outer s H vs Q E hr h => by
    obtain ⟨u, t, h1, pu, pf, h2, h3, h4⟩ := hb cdv A outer s H E hr
    exact ⟨tSeq u (tRet t), h1, body_runFS h2 h3 h h4⟩
end
end Dx
set_option synthInstance.maxSize 100000
set_option synthInstance.maxHeartbeats 4000000
set_option Elab.async false
set_option linter.all false
set_option maxRecDepth 100000
set_option maxHeartbeats 4000000
set_option autoImplicit false
/-! Ey6: a dict that a field of one's own instance holds while it is being filled, and walked. -/
namespace Dx
open PySem L2
section
variable {K : PySem.W.Frag} {W : WX} {Γ : Ga} {B B' : Hp} {ρ : Ab} {σ : L2.St} {H H' : Hp}
theorem seq_runS {t u : TS} {p : PSx} {E : Ends} [ht : RfS K W0 t p] (φ : Ab → Prop) (r : Rl K Γ B ρ σ H)
    (h : p { nx := φ, rt := fun _ _ => False, bk := fun _ => False, ct := fun _ => False, ex := X0 } ρ)
    (k : ∀ B' ρ' σ' H', Rl K Γ B' ρ' σ' H' → Same B B' → φ ρ' → u E σ' H') : tSeq t u E σ H :=
  ht.run Γ B ρ σ H { E with nx := u E } _ r ⟨fun B' ρ' σ' H' r' s' z => k B' ρ' σ' H' r' s' z, fun _ _ _ _ _ _ _ _ _ z => False.elim z, fun _ _ _ _ _ _ z => False.elim z, fun _ _ _ _ _ _ z => False.elim z, xok0⟩ h
theorem last_runS {t : TS} {p : PSx} {E : Ends} [ht : RfS K W0 t p] (φ : Ab → Prop) (r : Rl K Γ B ρ σ H)
    (h : p { nx := φ, rt := fun _ _ => False, bk := fun _ => False, ct := fun _ => False, ex := X0 } ρ)
    (k : ∀ B' ρ' σ' H', Rl K Γ B' ρ' σ' H' → Same B B' → φ ρ' → E.nx σ' H') : t E σ H :=
  ht.run Γ B ρ σ H E _ r ⟨fun B' ρ' σ' H' r' s' z => k B' ρ' σ' H' r' s' z, fun _ _ _ _ _ _ _ _ _ z => False.elim z, fun _ _ _ _ _ _ z => False.elim z, fun _ _ _ _ _ _ z => False.elim z, xok0⟩ h
/-- a thing that nothing of one's own holds is laid aside -/
theorem Rl.aside {p : Addr} {o : HO} (r : Rl K Γ B ρ σ H) (f : Fre Γ B ρ σ p) (hp : H p = some o) (n : ∀ kvs, o ≠ .dT kvs) : Rl K (Γ.hide p o) B ρ σ H := by
  refine ⟨r.bh, r.bb, r.fr, r.nb, r.dm, fun b u e => ?_, r.len, r.pu, fun i p' c q => ?_, r.ne, r.st, r.jj, r.mm.hide (r.mm.ok.no hp n)⟩
  · have e : upd Γ.hid p o b = some u := e
    by_cases hb : b = p
    · subst hb
      rw [upd_same] at e
      exact ⟨by rw [hp]; exact e, f.b⟩
    · rw [upd_ne hb] at e
      exact r.hd b u e
  · obtain ⟨a, u, h1, h2, h3, h4, h5, h6⟩ := r.ow i p' c q
    have : a ≠ p := fun z => by subst z; exact f.s i p' c q h1
    exact ⟨a, u, h1, h2, h3, h4, by show upd Γ.hid p o a = none; rw [upd_ne this]; exact h5, h6⟩
/-- what was laid aside is data -/
theorem Rl.beside {p : Addr} {o : HO} (r : Rl K (Γ.hide p o) B ρ σ H) (nm : NMo o) (hh : Γ.hid p = none) (hg : Γ.H p = none) : Rl K Γ (upd B p o) ρ σ H ∧ Same B (upd B p o) := by
  have hp := r.hd p o upd_same
  have sB : Same B (upd B p o) := Same.upd' hp.2
  refine ⟨⟨fun b u e => ?_, r.bb.trans sB, r.fr, fun b u e => ?_, r.dm, fun b u e => ?_, r.len, fun j d q => ?_, fun j p' c q => ?_, r.ne, r.st, r.jj, (r.mm.data nm hp.2 r.mm.noHid).unhide⟩, sB⟩
  · by_cases hb : b = p
    · subst hb; rw [upd_same] at e; rw [← e]; exact hp.1
    · rw [upd_ne hb] at e; exact r.bh b u e
  · by_cases hb : b = p
    · subst hb; exact .inr hg
    · rw [upd_ne hb] at e; exact r.nb b u e
  · have hb : b ≠ p := fun z => by subst z; rw [hh] at e; cases e
    obtain ⟨h1, h2⟩ := r.hd b u (by show upd Γ.hid p o b = some u; rw [upd_ne hb]; exact e)
    exact ⟨h1, by rw [upd_ne hb]; exact h2⟩
  · obtain ⟨v, h1, h2⟩ := r.pu j d q
    exact ⟨v, h1, h2.mono sB⟩
  · obtain ⟨a, u, h1, h2, h3, h4, h5, h6⟩ := r.ow j p' c q
    have h5 : upd Γ.hid p o a = none := h5
    have ha : a ≠ p := fun z => by subst z; rw [upd_same] at h5; cases h5
    rw [upd_ne ha] at h5
    exact ⟨a, u, h1, h2, h3.mono sB, by rw [upd_ne ha]; exact h4, h5, h6⟩
abbrev Ga.lock (Γ : Ga) (p : Addr) (F u : HO) : Ga := { Γ with hid := upd Γ.hid p F, J := fun H => Γ.J (upd H p u) }
theorem Mq.reJ {J : Hp → Prop} (m : Mq K Γ B H) : Mq K { Γ with J := J } B H := ⟨m.ok, m.nm, m.hh⟩
theorem Mq.unlk {p : Addr} {F u : HO} (m : Mq K (Γ.lock p F u) B H) : Mq K (Γ.hide p F) B H := ⟨m.ok, m.nm, m.hh⟩
theorem upd_twice {H : Hp} {p : Addr} {a b : HO} : upd (upd H p a) p b = upd H p b := by
  funext x
  by_cases hx : x = p
  · subst hx; rw [upd_same, upd_same]
  · rw [upd_ne hx, upd_ne hx, upd_ne hx]
theorem upd_self {H : Hp} {p : Addr} {a : HO} (h : H p = some a) : upd H p a = H := by
  funext x
  by_cases hx : x = p
  · subst hx; rw [upd_same, h]
  · rw [upd_ne hx]
theorem Rl.lock {p : Addr} {F u : HO} (r : Rl K (Γ.hide p u) B ρ σ H) (hg : Γ.H p = none) : Rl K (Γ.lock p F u) B ρ σ (upd H p F) := by
  have hp := r.hd p u upd_same
  have nB : ∀ b x, B b = some x → b ≠ p := fun b x e z => by subst z; rw [hp.2] at e; cases e
  refine ⟨fun b x e => by rw [upd_ne (nB b x e)]; exact r.bh b x e, r.bb, fun b x e n nm => ?_, r.nb, fun b e => ?_, fun b x e => ?_, r.len, r.pu, fun i q c z => ?_, r.ne, fun H1 H2 hs hj => ?_, ?_, (Mq.hide (o := F) (r.mm.write (o := F) r.mm.noHid).unhide r.mm.noHid).reJ⟩
  · have : b ≠ p := fun z => by subst z; rw [show Γ.H b = none from hg] at e; cases e
    rw [upd_ne this]
    exact r.fr b x e n nm
  · by_cases hb : b = p
    · subst hb; exact hg
    · rw [upd_ne hb] at e; exact r.dm b e
  · have e : upd Γ.hid p F b = some x := e
    by_cases hb : b = p
    · subst hb
      rw [upd_same] at e
      exact ⟨by rw [upd_same]; exact e, hp.2⟩
    · rw [upd_ne hb] at e ⊢
      exact r.hd b x (by show upd Γ.hid p u b = some x; rw [upd_ne hb]; exact e)
  · obtain ⟨a, x, h1, h2, h3, h4, h5, h6⟩ := r.ow i q c z
    have h5 : upd Γ.hid p u a = none := h5
    have : a ≠ p := fun w => by subst w; rw [upd_same] at h5; cases h5
    rw [upd_ne this] at h5
    exact ⟨a, x, h1, by rw [upd_ne this]; exact h2, h3, h4, by show upd Γ.hid p F a = none; rw [upd_ne this]; exact h5, h6⟩
  · refine r.st (upd H1 p u) (upd H2 p u) (fun b x e n1 n2 n3 n4 => ?_) hj
    by_cases hb : b = p
    · subst hb
      rw [upd_same] at e ⊢
      exact e
    · rw [upd_ne hb] at e ⊢
      exact hs b x e n1 n2 n3 n4
  · show Γ.J (upd (upd H p F) p u)
    rw [upd_twice, upd_self hp.1]
    exact r.jj
theorem Rl.unlock {p : Addr} {F u : HO} (r : Rl K (Γ.lock p F u) B ρ σ H) (st : Stable Γ.J) (hg : Γ.H p = none) : Rl K (Γ.hide p u) B ρ σ (upd H p u) := by
  have hp := r.hd p F upd_same
  have nB : ∀ b x, B b = some x → b ≠ p := fun b x e z => by subst z; rw [hp.2] at e; cases e
  refine ⟨fun b x e => by rw [upd_ne (nB b x e)]; exact r.bh b x e, r.bb, fun b x e n nm => ?_, r.nb, fun b e => ?_, fun b x e => ?_, r.len, r.pu, fun i q c z => ?_, r.ne, st, r.jj, Mq.hide (o := u) ((Mq.unlk r.mm).write (o := u) (Mq.unlk r.mm).noHid).unhide (Mq.unlk r.mm).noHid⟩
  · have : b ≠ p := fun z => by subst z; rw [show Γ.H b = none from hg] at e; cases e
    rw [upd_ne this]
    exact r.fr b x e n nm
  · by_cases hb : b = p
    · subst hb; exact hg
    · rw [upd_ne hb] at e; exact r.dm b e
  · have e : upd Γ.hid p u b = some x := e
    by_cases hb : b = p
    · subst hb
      rw [upd_same] at e
      exact ⟨by rw [upd_same]; exact e, hp.2⟩
    · rw [upd_ne hb] at e ⊢
      exact r.hd b x (by show upd Γ.hid p F b = some x; rw [upd_ne hb]; exact e)
  · obtain ⟨a, x, h1, h2, h3, h4, h5, h6⟩ := r.ow i q c z
    have h5 : upd Γ.hid p F a = none := h5
    have : a ≠ p := fun w => by subst w; rw [upd_same] at h5; cases h5
    rw [upd_ne this] at h5
    exact ⟨a, x, h1, by rw [upd_ne this]; exact h2, h3, h4, by show upd Γ.hid p u a = none; rw [upd_ne this]; exact h5, h6⟩
theorem Fre.ofLock {p a : Addr} {F u : HO} (f : Fre (Γ.lock p F u) B ρ σ a) : Fre (Γ.hide p u) B ρ σ a ∧ a ≠ p := by
  have h : upd Γ.hid p F a = none := f.h
  have ha : a ≠ p := fun z => by subst z; rw [upd_same] at h; cases h
  rw [upd_ne ha] at h
  exact ⟨⟨f.b, f.g, by show upd Γ.hid p u a = none; rw [upd_ne ha]; exact h, f.s⟩, ha⟩
/-- self.f = {..}, the dict raw, aside -/
theorem set_raw {tv : TE} {pf : PFx} {i : Nat} {f : Str} {E : Ends} [hv : RfF K W0 tv pf] (φ : List (Key × D) → Ab → Prop) {C : Addr} {gs : List (Str × D)} {b : Bool} (r : Rl K Γ B ρ σ H) (c : Cls K C) (n : NoAtM K C f) (hl : gs.length < 1000)
    (h : pf ρ X0 fun x ρ1 => ∃ es, x = .dK es ∧ ρ1[i]? = some (some (.ow b (.ins C gs))) ∧ φ es ρ1)
    (k : ∀ p kvs es B1 ρ1 H1, φ es ρ1 → DrK K B1 kvs es → Same B B1 → Γ.H p = none → Γ.hid p = none → Rl K (Γ.hide p (.dK kvs)) B1 (ρ1.set i (some (.ow b (.ins C (putFD f (.raw p) gs))))) σ H1 → E.nx σ H1) : sFld K (tVar i) tv f E σ H :=
  hv.run Γ B ρ σ H _ X0 _ r xat0 h fun p o x B1 H1 ρ1 r1 s1 fr hp oc ⟨es, ex, e, q⟩ => by
    subst ex
    obtain ⟨kvs, rfl, dk⟩ : ∃ kvs, o = .dK kvs ∧ DrK K B1 kvs es := by cases oc; exact ⟨_, rfl, by assumption⟩
    obtain ⟨a, o2, g1, g2, g3, _⟩ := r1.ow i b _ e
    obtain ⟨dx, fs, rfl, g4, nm4⟩ := g3.ins_inv
    have r2 := (r1.aside fr hp fun _ z => nomatch z).write e g1 (OCr.ins (C := C) (dx := dx) (g4.put (f := f) (v := .ref p) (d := .raw p) (.raw p)) (put_nm n.m nm4))
    exact ⟨.ref a, g1, a, C, dx, fs, rfl, g2, c, n.n, by rw [g4.length]; exact hl, k p kvs es B1 ρ1 _ q dk s1 fr.g fr.h r2⟩
/-- self.f[k] = v, the dict raw -/
theorem put_raw {tv td ty : TE} {pv pd py : PEx} {E : Ends} [hv : RfE K W0 tv pv] [hd : RfE K W0 td pd] [hy : RfE K W0 ty py] (φ : Key → D → Ab → Prop) {p : Addr} {kvs : List (Key × V)} {es : List (Key × D)} (r : Rl K (Γ.hide p (.dK kvs)) B ρ σ H) (dk : DrK K B kvs es) (hg : Γ.H p = none) (hl : es.length < 100000)
    (h : pv ρ X0 fun d ρ1 => pd ρ1 X0 fun x ρ2 => x = .raw p ∧ py ρ2 X0 fun y ρ3 => ∃ k, y.key = some k ∧ φ k d ρ3)
    (q : ∀ k d kvs' B' ρ' H', φ k d ρ' → DrK K B' kvs' (putKD es k d) → Same B B' → Rl K (Γ.hide p (.dK kvs')) B' ρ' σ H' → E.nx σ H') : sDPut td ty tv E σ H :=
  hv.run _ B ρ σ H _ X0 _ r xat0 h fun v d B1 H1 ρ1 r1 s1 dv h1 => hd.run _ B1 ρ1 σ H1 _ X0 _ r1 xat0 h1 fun x dx B2 H2 ρ2 r2 s2 drx ⟨ex, h2⟩ => hy.run _ B2 ρ2 σ H2 _ X0 _ r2 xat0 h2 fun y dy B3 H3 ρ3 r3 s3 dry ⟨k, ek, h3⟩ => by
    subst ex
    obtain rfl : x = .ref p := by cases drx; rfl
    have hp := (r3.hd p (.dK kvs) upd_same).1
    have ky := dry.key_inv ek
    subst ky
    have s13 := (s1.trans s2).trans s3
    exact ⟨p, _, rfl, DPut.k hp (by rw [dk.length]; exact szlt hl), q k d _ B3 ρ3 _ h3 ((dk.mono s13).put (dv.mono (s2.trans s3))) s13 (r3.rehideK hg ⟨_, rfl⟩)⟩
/-- the pairs of a dict -/
def keyD : Key → D
  | .inl i => .int i
  | .inr x => .str x
theorem dr_key {k : Key} : Dr K B (kV k) (keyD k) := by
  cases k with
  | inl i => exact .int i
  | inr x => exact .str x
theorem DrK.get' {kvs : List (Key × V)} {es : List (Key × D)} (h : DrK K B kvs es) : ∀ {i : Nat} {k : Key} {v : V}, kvs[i]? = some (k, v) → ∃ d, es[i]? = some (k, d) ∧ Dr K B v d := by
  induction es generalizing kvs with
  | nil =>
    cases h
    intro i k v e
    cases e
  | cons c es ih =>
    cases h with
    | cons h1 h2 =>
      intro i k v e
      match i with
      | 0 =>
        cases e
        exact ⟨_, rfl, h1⟩
      | i + 1 => exact ih h2 e
/-- {.. for k, v in self.f.items()}, the dict raw and locked -/
theorem dc_items {i0 : Nat} {f : Str} {g : TG} {tt : TT} {tk tv : TE} {vs : List Nat} {pg : PGx} {js : List Nat} {pt : PTx} {pk pv : PEx} [hg : RfG K g pg js] [ht : RfT K W0 tt pt] [hk : RfE K W0 tk pk] [hv : RfE K W0 tv pv] [hs : SubN js vs]
    {p : Addr} {od : Obj} {kvs : List (Key × V)} {es : List (Key × D)} {Q : VK} {Φ : OC → Ab → Prop} {b : Bool} {C : Addr} {gs : List (Str × D)} (r : Rl K Γ B ρ σ H) (hF : Γ.hid p = some (.frz od (.dK kvs))) (dk : DrK K B kvs es)
    (e0 : ρ[i0]? = some (some (.ow b (.ins C gs)))) (c : Cls K C) (n : NoAttr K C f) (lk : gs.lookup f = some (.raw p))
    (Iv : Nat → List (Key × D) → Ab → Prop) (iv0 : Iv 0 [] (pwipe ρ vs))
    (turn : ∀ i k d acc ρ, es[i]? = some (k, d) → Iv i acc ρ → pg (.tup [keyD k, d]) ρ fun ρ2 => pt ρ2 X0 fun b ρ3 => if b = true then pk ρ3 X0 fun y ρ4 => pv ρ4 X0 fun z ρ5 => ∃ k, y.key = some k ∧ acc.length < 100000 ∧ Iv (i + 1) (putKD acc k z) (pwipe ρ5 vs) else Iv (i + 1) acc (pwipe ρ3 vs))
    (fin : ∀ acc ρ, Iv es.length acc ρ → Φ (.dK acc) (pwipe ρ vs)) (po : PoF K Γ B σ Q Φ) : tDc (iItems (tFld K (tVar i0) f)) g tt tk tv vs σ H Q := by
  have hp := r.hd p _ hF
  obtain ⟨a, o, g1, g2, g3, _⟩ := r.ow i0 b _ e0
  obtain ⟨dx, fs, rfl, g4, nm4⟩ := g3.ins_inv
  obtain ⟨w, h5, h6⟩ := g4.look lk
  obtain rfl : w = .ref p := by cases h6; rfl
  refine ⟨_, g1, a, C, dx, fs, _, rfl, g2, c, n, h5, p, od, kvs, rfl, hp.1, fun D hD => ?_⟩
  have fD := r.fre hD
  have Dp : D ≠ p := fun z => by subst z; rw [hp.1] at hD; cases hD
  have hF' : ∀ o, (Γ.hide D o).hid p = some (.frz od (.dK kvs)) := fun o => by show upd Γ.hid D o p = _; rw [upd_ne (Ne.symm Dp)]; exact hF
  have ln : kvs.length = es.length := dk.length
  refine ⟨fun i m H' => m = es.length - i ∧ i ≤ es.length ∧ ∃ B' ρ' acc av, Rl K (Γ.hide D (.dK av)) B' ρ' (wipe σ vs) H' ∧ Same B B' ∧ DrK K B' av acc ∧ Iv i acc ρ', ⟨_, rfl, Nat.zero_le _, B, pwipe ρ vs, [], [], (r.hide (o := .dK []) hD).wipes _ vs (wipe_length σ vs) (fun i hi => wipe_ne hi), Same.refl _, .nil, iv0⟩, ?_⟩
  rintro i m H2 ⟨rfl, hl, B2, ρ2, acc, av, r2, s2, da, iv⟩
  have hp2 := (r2.hd p _ (hF' _)).1
  by_cases hlt : i < es.length
  · refine .inr ⟨⟨hp2, by rw [ln]; exact hlt⟩, fun H' => ∃ B' ρ' acc av, Rl K (Γ.hide D (.dK av)) B' ρ' (wipe σ vs) H' ∧ Same B B' ∧ DrK K B' av acc ∧ Iv (i + 1) acc ρ', fun H' ⟨B', ρ', a', v', q1, q2, q3, q4⟩ => ⟨es.length - (i + 1), by omega, rfl, hlt, B', ρ', a', v', q1, q2, q3, q4⟩, fun x H3 y => ?_⟩
    obtain ⟨T, k, v, ek, rfl, hT, rfl⟩ := y
    obtain ⟨d, ed, dv⟩ := dk.get' ek
    have al := Al.new (K := K) (o := .tup [kV k, v]) r2.bh hT
    have s3 : Same (upd B2 T (.tup [kV k, v])) (upd H2 T (.tup [kV k, v])) := Same.up2 r2.bh
    have dr : Dr K (upd B2 T (.tup [kV k, v])) (.ref T) (.tup [keyD k, d]) := .tup (SqT.of upd_same) (.cons dr_key (.cons ((dv.mono s2).mono al.b) .nil))
    have r3 := r2.al al s3
    refine hg.run _ _ ρ2 (wipe σ vs) _ _ _ _ _ r3 dr (turn i k d acc ρ2 ed iv) fun B4 ρ4 σ4 H4 r4 s4 w4 q4 => ?_
    have ew : wipe σ4 vs = wipe σ vs := by
      rw [w4 vs hs.sub]
      apply List.ext_getElem?
      intro j
      rw [wipe_get]
      by_cases hj : j ∈ vs
      · rw [if_pos hj, wipe_get, if_pos hj, wipe_length]
      · rw [if_neg hj]
    have el : (wipe σ vs).length = σ4.length := by rw [← ew, wipe_length]
    refine ⟨ew.trans (by rfl), ?_⟩
    refine ht.run _ B4 ρ4 σ4 H4 _ X0 _ r4 xat0 q4 fun b B5 H5 ρ5 r5 s5 q5 => ?_
    have fin5 : ∀ {o : HO} {B6 H6 ρ6}, Rl K (Γ.hide D o) B6 ρ6 σ4 H6 → Rl K (Γ.hide D o) B6 (pwipe ρ6 vs) (wipe σ vs) H6 := fun r => r.wipes _ vs el (fun j hj => by rw [← ew, wipe_ne hj])
    cases b with
    | true =>
      refine hk.run _ B5 ρ5 σ4 H5 _ X0 _ r5 xat0 q5 fun y dy B6 H6 ρ6 r6 s6 dry q6 => ?_
      refine hv.run _ B6 ρ6 σ4 H6 _ X0 _ r6 xat0 q6 fun z dz B7 H7 ρ7 r7 s7 drz q7 => ?_
      obtain ⟨k', ek', hz, q7⟩ := q7
      have s27 : Same B2 B7 := (((al.b.trans s4).trans s5).trans s6).trans s7
      refine ⟨av, k', dry.key_inv ek', (r7.hd D _ upd_same).1, by rw [da.length]; exact szlt hz, B7, _, putKD acc k' dz, putK av k' z, ?_, s2.trans s27, (da.mono s27).put drz, q7⟩
      exact (fin5 r7).rehideK fD.g ⟨_, rfl⟩
    | false =>
      have s25 : Same B2 B5 := (al.b.trans s4).trans s5
      exact ⟨B5, _, acc, av, fin5 r5, s2.trans s25, da.mono s25, q5⟩
  · have e : i = es.length := by omega
    subst e
    refine .inl ⟨⟨hp2, by omega⟩, ?_⟩
    have hpD := r2.hd D (.dK av) upd_same
    have r2' : Rl K (Γ.hide D (.dK av)) B2 (pwipe ρ2 vs) σ H2 := r2.wipes σ vs (wipe_length σ vs).symm (fun j hj => (wipe_ne hj).symm)
    exact po D (.dK av) (.dK acc) B2 H2 _ (r2'.unhide fD.h) s2 ⟨hpD.2, fD.g, fD.h, fun j p e q z => by
      obtain ⟨x, u, h1, h2, h3, h4, h5, h6⟩ := r2'.ow j p e q
      rw [h1] at z
      cases z
      have h5 : upd Γ.hid D (.dK av) D = none := h5
      rw [upd_same] at h5
      cases h5⟩ hpD.1 (.dK da) (fin acc ρ2 iv)
/-- self.g = {.. for k, v in self.f.items()} -/
theorem set_items {i0 : Nat} {f f2 : Str} {g : TG} {tt : TT} {tk tv : TE} {vs : List Nat} {pg : PGx} {js : List Nat} {pt : PTx} {pk pv : PEx} {E : Ends} [hg : RfG K g pg js] [ht : RfT K W0 tt pt] [hk : RfE K W0 tk pk] [hv : RfE K W0 tv pv] [hs : SubN js vs]
    (φ : List (Key × D) → Ab → Prop) {p : Addr} {kvs : List (Key × V)} {es : List (Key × D)} {b : Bool} {C : Addr} {gs : List (Str × D)} (r : Rl K (Γ.hide p (.dK kvs)) B ρ σ H) (hg0 : Γ.H p = none) (hh : Γ.hid p = none) (dk : DrK K B kvs es)
    (e0 : ρ[i0]? = some (some (.ow b (.ins C gs)))) (c : Cls K C) (n : NoAttr K C f) (n2 : NoAtM K C f2) (lk : gs.lookup f = some (.raw p)) (hl : gs.length < 1000)
    (Iv : Nat → List (Key × D) → Ab → Prop) (iv0 : Iv 0 [] (pwipe ρ vs))
    (turn : ∀ i k d acc ρ, es[i]? = some (k, d) → Iv i acc ρ → pg (.tup [keyD k, d]) ρ fun ρ2 => pt ρ2 X0 fun b ρ3 => if b = true then pk ρ3 X0 fun y ρ4 => pv ρ4 X0 fun z ρ5 => ∃ k, y.key = some k ∧ acc.length < 100000 ∧ Iv (i + 1) (putKD acc k z) (pwipe ρ5 vs) else Iv (i + 1) acc (pwipe ρ3 vs))
    (fin : ∀ acc ρ, Iv es.length acc ρ → φ acc (pwipe ρ vs) ∧ (pwipe ρ vs)[i0]? = some (some (.ow b (.ins C gs))))
    (q : ∀ acc B' ρ' H', φ acc ρ' → Same B B' → Rl K (Γ.hide p (.dK kvs)) B' (ρ'.set i0 (some (.ow b (.ins C (putFD f2 (.dic acc) gs))))) σ H' → E.nx σ H') :
    sFld K (tVar i0) (tLockE (tDc (iItems (tFld K (tVar i0) f)) g tt tk tv vs)) f2 E σ H := by
  have hp := r.hd p _ upd_same
  refine ⟨p, .dK kvs, hp.1, trivial, fun od => ?_⟩
  have r1 := r.lock (F := .frz od (.dK kvs)) hg0
  refine dc_items (Φ := fun x ρ' => ∃ acc, x = .dK acc ∧ φ acc ρ' ∧ ρ'[i0]? = some (some (.ow b (.ins C gs)))) r1 upd_same dk e0 c n lk Iv iv0 turn (fun acc ρ h => ⟨acc, rfl, fin acc ρ h⟩) fun D o x B1 H1 ρ1 r2 s1 fr hD oc hq => ?_
  obtain ⟨acc, rfl, hφ, e1⟩ := hq
  have hp2 := r2.hd p _ upd_same
  refine ⟨hp2.1, ?_⟩
  have r3 := r2.unlock r.st hg0
  obtain ⟨fr', nD⟩ := fr.ofLock (u := .dK kvs)
  have hD' : upd H1 p (.dK kvs) D = some o := by rw [upd_ne nD]; exact hD
  obtain ⟨r4, s4, dr4⟩ := r3.adopt fr' hD' oc
  obtain ⟨a, o2, g1, g2, g3, _⟩ := r4.ow i0 b _ e1
  obtain ⟨dx, fs, rfl, g4, nm4⟩ := g3.ins_inv
  exact ⟨.ref a, g1, a, C, dx, fs, rfl, g2, c, n2.n, by rw [g4.length]; exact hl, q acc _ ρ1 _ hφ (s1.trans s4) (r4.write e1 g1 (OCr.ins (C := C) (dx := dx) (g4.put (f := f2) (v := .ref D) (d := .dic acc) dr4) (put_nm n2.m nm4)))⟩
end
end Dx
set_option synthInstance.maxSize 100000
set_option synthInstance.maxHeartbeats 4000000
set_option Elab.async false
set_option linter.all false
set_option maxRecDepth 100000
set_option maxHeartbeats 4000000
set_option autoImplicit false
/-! Ey7: a class called with positional arguments alone. -/
namespace Dx
open PySem L2
section
variable {K : PySem.W.Frag} {W : WX} {Γ : Ga} {B B' : Hp} {ρ : Ab} {σ : L2.St} {H H' : Hp}
instance rf_makeP {C : Addr} {kk : Nat} {P : Pm} {ta : TA} {pa : PAx} [ha : RfA K W ta pa] :
    RfE K W (tMake C (spD K kk P) [] (fun _ _ _ => False) ta) (fun ρ Ξ Φ => pa ρ Ξ fun as ρ2 => ∃ ds, as = ds.map .pu ∧ kk = ds.length + 1 ∧
      P (some (.ow true (.ins C [])) :: pus (ds ++ [])) X0 fun d ρc => d = .non ∧ ∃ gs, ρc.head? = some (some (.ow true (.ins C gs))) ∧ Φ (.obj C gs) ρ2) where
  run := fun Γ B ρ σ H Q Ξ Φ r xo h po => ha.run Γ B ρ σ H _ Ξ _ r xo h fun vs as B2 H2 ρ2 r2 s2 aso hq2 => by
    obtain ⟨ds, rfl, hkk, hp⟩ := hq2
    have da := aso.pure
    refine fun x dx hx hdx hne => ?_
    have r3 := r2.al (Al.side (K := K) (o := .own x) hdx) (fun b u e => by rw [upd_ne (ne_of_none (r2.bh b u e) hdx)]; exact r2.bh b u e)
    have hx3 : upd H2 dx (.own x) x = none := by rw [upd_ne hne.symm]; exact hx
    have f := r3.fre hx3
    have r4 := r3.al (Al.side (K := K) (o := .ins C dx []) hx3) (fun b u e => by rw [upd_ne (ne_of_none (r3.bh b u e) hx3)]; exact r3.bh b u e)
    have r5 := r4.push (c := .ins C []) f upd_same (.ins .nil fun _ _ => rfl)
    have e0 : (ρ2 ++ [some (Sl.ow false (.ins C []))])[ρ2.length]? = some (some (.ow false (.ins C []))) := by rw [List.getElem?_append_right (Nat.le_refl _), Nat.sub_self]; rfl
    have hσ : (σ ++ [some (V.ref x)])[ρ2.length]? = some (some (.ref x)) := by rw [r2.len, List.getElem?_append_right (Nat.le_refl _), Nat.sub_self]; rfl
    have dab : DrA K B2 (vs ++ []) (ds ++ []) := da.append .nil
    have ars : ArsOk K B2 (ρ2 ++ [some (.ow false (.ins C []))]) (σ ++ [some (.ref x)]) (.ref x :: (vs ++ [])) (.sl ρ2.length :: (ds ++ []).map .pu) := .cons ⟨hσ, _, _, e0⟩ (arsOk_pu dab)
    have nd : (slots (.sl ρ2.length :: (ds ++ []).map .pu)).Nodup := by
      show (ρ2.length :: slots ((ds ++ []).map .pu)).Nodup
      rw [slots_pu]
      simp
    have st := call_start r5 ars nd
    have es1 : (Ar.sl ρ2.length :: (ds ++ []).map .pu).map (slOf (ρ2 ++ [some (.ow false (.ins C []))])) = some (.ow true (.ins C [])) :: pus (ds ++ []) := by
      rw [List.map_cons, slOf_sl e0, slOf_pu]
      rfl
    have fin : ∀ {B' H' ρc}, Fin K (gaOf B2 (upd (upd H2 dx (.own x)) x (.ins C dx [])) (some (.ow true (.ins C [])) :: pus (ds ++ [])) (.ref x :: (vs ++ [])) Γ.J) B' ρc H' → Rl K Γ B' ρ2 σ H' ∧ ∀ gs, ρc.head? = some (some (.ow true (.ins C gs))) → ∃ B'', Rl K Γ B'' ρ2 σ H' ∧ Same B' B'' ∧ Dr K B'' (.ref x) (.obj C gs) := fun {B' H' ρc} fi => by
      have ce := call_end r5 ars nd (ρc := ρc) (by rw [es1]; exact fi)
      refine ⟨?_, fun gs hg => ?_⟩
      · have : ∃ y, back (ρ2 ++ [some (.ow false (.ins C []))]) (.sl ρ2.length :: (ds ++ []).map .pu) ρc = ρ2 ++ [y] := by
          unfold back
          rw [back_pu]
          split
          · exact ⟨_, by rw [List.set_append_right _ _ (Nat.le_refl _), Nat.sub_self]; rfl⟩
          · exact ⟨_, by rw [List.set_append_right _ _ (Nat.le_refl _), Nat.sub_self]; rfl⟩
        obtain ⟨y, ey⟩ := this
        rw [ey] at ce
        exact ce.pop
      · have ey : back (ρ2 ++ [some (.ow false (.ins C []))]) (.sl ρ2.length :: (ds ++ []).map .pu) ρc = ρ2 ++ [some (.ow false (.ins C gs))] := by
          unfold back
          rw [back_pu, e0, hg]
          show (ρ2 ++ [some (Sl.ow false (.ins C []))]).set ρ2.length (some (.ow false (.ins C gs))) = _
          rw [List.set_append_right _ _ (Nat.le_refl _), Nat.sub_self]
          rfl
        rw [ey] at ce
        have e1 : (ρ2 ++ [some (Sl.ow false (.ins C gs))])[ρ2.length]? = some (some (.ow false (.ins C gs))) := by rw [List.getElem?_append_right (Nat.le_refl _), Nat.sub_self]; rfl
        obtain ⟨a, o, k1, k2, k3, k4, k5⟩ := ce.freeze e1
        rw [hσ] at k1
        cases k1
        rw [List.set_append_right _ _ (Nat.le_refl _), Nat.sub_self] at k5
        exact ⟨_, k5.pop, k3, k4⟩
    rw [es1] at st
    refine ⟨Γ.J, B2, some (.ow true (.ins C [])) :: pus (ds ++ []), _, _, ?_, st, hp, fun v d B' H' ρ' fi dr q => ?_, fun C' od gs B' H' ρ' fi x q => q.elim⟩
    · unfold pus
      rw [List.length_cons, List.length_map, List.append_nil]
      omega
    · obtain ⟨rfl, gs, hg, q⟩ := q
      obtain ⟨B'', k1, k2, k3⟩ := (fin fi).2 gs hg
      exact ⟨dr.non_inv, po _ _ _ _ _ k1 (s2.trans (fi.bb.trans k2)) k3 q⟩
theorem set_raw_seq {u : TS} {tv : TE} {pf : PFx} {i : Nat} {f : Str} {E : Ends} [hv : RfF K W0 tv pf] (φ : List (Key × D) → Ab → Prop) {C : Addr} {gs : List (Str × D)} {b : Bool} (r : Rl K Γ B ρ σ H) (c : Cls K C) (n : NoAtM K C f) (hl : gs.length < 1000)
    (h : pf ρ X0 fun x ρ1 => ∃ es, x = .dK es ∧ ρ1[i]? = some (some (.ow b (.ins C gs))) ∧ φ es ρ1)
    (k : ∀ p kvs es B1 ρ1 H1, φ es ρ1 → DrK K B1 kvs es → Same B B1 → Γ.H p = none → Γ.hid p = none → Rl K (Γ.hide p (.dK kvs)) B1 (ρ1.set i (some (.ow b (.ins C (putFD f (.raw p) gs))))) σ H1 → u E σ H1) : tSeq (sFld K (tVar i) tv f) u E σ H := set_raw (E := { E with nx := u E }) φ r c n hl h k
theorem put_raw_seq {u : TS} {tv td ty : TE} {pv pd py : PEx} {E : Ends} [hv : RfE K W0 tv pv] [hd : RfE K W0 td pd] [hy : RfE K W0 ty py] (φ : Key → D → Ab → Prop) {p : Addr} {kvs : List (Key × V)} {es : List (Key × D)} (r : Rl K (Γ.hide p (.dK kvs)) B ρ σ H) (dk : DrK K B kvs es) (hg : Γ.H p = none) (hl : es.length < 100000)
    (h : pv ρ X0 fun d ρ1 => pd ρ1 X0 fun x ρ2 => x = .raw p ∧ py ρ2 X0 fun y ρ3 => ∃ k, y.key = some k ∧ φ k d ρ3)
    (q : ∀ k d kvs' B' ρ' H', φ k d ρ' → DrK K B' kvs' (putKD es k d) → Same B B' → Rl K (Γ.hide p (.dK kvs')) B' ρ' σ H' → u E σ H') : tSeq (sDPut td ty tv) u E σ H := put_raw (E := { E with nx := u E }) φ r dk hg hl h q
theorem set_items_seq {u : TS} {i0 : Nat} {f f2 : Str} {g : TG} {tt : TT} {tk tv : TE} {vs : List Nat} {pg : PGx} {js : List Nat} {pt : PTx} {pk pv : PEx} {E : Ends} [hg : RfG K g pg js] [ht : RfT K W0 tt pt] [hk : RfE K W0 tk pk] [hv : RfE K W0 tv pv] [hs : SubN js vs]
    (φ : List (Key × D) → Ab → Prop) {p : Addr} {kvs : List (Key × V)} {es : List (Key × D)} {b : Bool} {C : Addr} {gs : List (Str × D)} (r : Rl K (Γ.hide p (.dK kvs)) B ρ σ H) (hg0 : Γ.H p = none) (hh : Γ.hid p = none) (dk : DrK K B kvs es)
    (e0 : ρ[i0]? = some (some (.ow b (.ins C gs)))) (c : Cls K C) (n : NoAttr K C f) (n2 : NoAtM K C f2) (lk : gs.lookup f = some (.raw p)) (hl : gs.length < 1000)
    (Iv : Nat → List (Key × D) → Ab → Prop) (iv0 : Iv 0 [] (pwipe ρ vs))
    (turn : ∀ i k d acc ρ, es[i]? = some (k, d) → Iv i acc ρ → pg (.tup [keyD k, d]) ρ fun ρ2 => pt ρ2 X0 fun b ρ3 => if b = true then pk ρ3 X0 fun y ρ4 => pv ρ4 X0 fun z ρ5 => ∃ k, y.key = some k ∧ acc.length < 100000 ∧ Iv (i + 1) (putKD acc k z) (pwipe ρ5 vs) else Iv (i + 1) acc (pwipe ρ3 vs))
    (fin : ∀ acc ρ, Iv es.length acc ρ → φ acc (pwipe ρ vs) ∧ (pwipe ρ vs)[i0]? = some (some (.ow b (.ins C gs))))
    (q : ∀ acc B' ρ' H', φ acc ρ' → Same B B' → Rl K (Γ.hide p (.dK kvs)) B' (ρ'.set i0 (some (.ow b (.ins C (putFD f2 (.dic acc) gs))))) σ H' → u E σ H') :
    tSeq (sFld K (tVar i0) (tLockE (tDc (iItems (tFld K (tVar i0) f)) g tt tk tv vs)) f2) u E σ H := set_items (E := { E with nx := u E }) φ r hg0 hh dk e0 c n n2 lk hl Iv iv0 turn fin q
end
end Dx
set_option synthInstance.maxSize 100000
set_option synthInstance.maxHeartbeats 4000000
set_option Elab.async false
set_option linter.all false
set_option maxRecDepth 100000
set_option maxHeartbeats 4000000
set_option autoImplicit false
/-! Ey8: a list of one's own is compared, and asked for its type. -/
namespace Dx
open PySem L2
section
variable {K : PySem.W.Frag} {W : WX}
def pOpV (q : D → D → (D → Prop) → Prop) (i : Nat) (pb : PEx) : PEx := fun ρ Ξ Φ => ∃ s, ρ[i]? = some (some s) ∧ match s with
  | .pu d => pb ρ Ξ fun y ρ2 => q d y fun z => Φ z ρ2
  | .ow p c => pb ρ Ξ fun y ρ2 => ρ2[i]? = some (some (.ow p c)) ∧ Pl c.data ∧ Pl y ∧ q c.data y fun z => ∃ b, z = .bl b ∧ Φ z ρ2
instance (priority := high) rf_opOwn {r : R2} {q : D → D → (D → Prop) → Prop} {i : Nat} {tb : TE} {pb : PEx} [ho : RfO K r q] [hb : RfE K W tb pb] : RfE K W (tOp r (tVar i) tb) (pOpV q i pb) where
  run := fun Γ B ρ σ H Q Ξ Φ r xo h po => by
    obtain ⟨s, e, h⟩ := h
    match s, e, h with
    | .pu d, e, h =>
      obtain ⟨v, h1, dr⟩ := r.pu i d e
      exact ⟨v, h1, hb.run Γ B ρ σ H _ Ξ _ r xo h fun v2 d2 B2 H2 ρ2 r2 s2 dr2 hq2 =>
        ho.run B2 H2 v v2 d d2 Q _ r2.sm (dr.mono s2) dr2 hq2 fun v3 d3 B3 H3 al s3 dr3 q3 => po v3 d3 B3 H3 ρ2 (r2.al al s3) (s2.trans al.b) dr3 q3⟩
    | .ow p c, e, h =>
      obtain ⟨a, o, h1, _⟩ := r.ow i p c e
      refine ⟨.ref a, h1, hb.run Γ B ρ σ H _ Ξ _ r xo h fun v2 d2 B2 H2 ρ2 r2 s2 dr2 ⟨e2, pl1, pl2, hq2⟩ => ?_⟩
      obtain ⟨a', o', g1, g2, g3, g4, _⟩ := r2.ow i p c e2
      rw [h1] at g1
      cases g1
      have sB : Same B2 (upd B2 a o') := Same.upd' g4
      have dr0 := pl1.dr ((g3.mono sB).dr (a := a) upd_same)
      have dr1 := pl2.dr (dr2.mono sB)
      have sH : Same (noIns (upd B2 a o')) H2 := fun b u eb => by
        have eb := (noIns_inv eb).1
        by_cases hb : b = a
        · subst hb; rw [upd_same] at eb; rw [← eb]; exact g2
        · rw [upd_ne hb] at eb; exact r2.bh b u eb
      refine ho.run (noIns (upd B2 a o')) H2 (.ref a) v2 c.data d2 Q _ ⟨sH, noIns_mm⟩ dr0 dr1 hq2 fun v3 d3 B3 H3 al s3 dr3 q3 => ?_
      obtain ⟨b, rfl, q3⟩ := q3
      have same : Same H2 H3 := fun p o e => al.h p o e noIns_Mm
      have r3 : Rl K Γ B2 ρ2 σ H3 := r2.later same
      obtain rfl : v3 = .bl b := by cases dr3; rfl
      exact po _ _ B2 H3 ρ2 r3 s2 (.bl b) q3
instance (priority := high) rf_isiOwn {i : Nat} {n : String} : RfE K W (tCB (rIsi K) (tCons (tVar i) (tCons (tC (.ty n)) tNil))) (fun ρ Ξ Φ => ∃ p ds, ρ[i]? = some (some (.ow p (.lst ds))) ∧ n = "list" ∧ Φ (.bl true) ρ) where
  run := fun Γ B ρ σ H Q Ξ Φ r xo h po => by
    obtain ⟨p, ds, e, rfl, h⟩ := h
    obtain ⟨a, o, h1, h2, h3, _⟩ := r.ow i p _ e
    obtain ⟨xs, rfl, _⟩ := h3.lst_inv
    exact ⟨.ref a, h1, .ref a, .ty "list", .type "list", .type "list", true, rfl, .ty _, .base (.lst h2), kit_ty (by decide +kernel), po _ _ _ _ _ r (Same.refl _) (.bl true) h⟩
end
end Dx
set_option synthInstance.maxSize 100000
set_option synthInstance.maxHeartbeats 4000000
set_option Elab.async false
set_option linter.all false
set_option maxRecDepth 100000
set_option maxHeartbeats 4000000
set_option autoImplicit false
/-! Ey9: a list of one's own: its length, an item taken out of it. -/
namespace Dx
open PySem L2
section
variable {K : PySem.W.Frag} {W : WX} {B : Hp}
def pLenV (i : Nat) : PEx := fun ρ Ξ Φ => ∃ s, ρ[i]? = some (some s) ∧ match s with
  | .pu d => ∃ es, d.items = some es ∧ Φ (.int es.length) ρ
  | .ow _ c => ∃ ds, c = .lst ds ∧ Φ (.int ds.length) ρ
instance (priority := high) rf_lenOwn {i : Nat} : RfE K W (tCB (fun xs H Q => ∃ p ys, xs = [.ref p] ∧ (SqL K H p ys ∨ SqT K H p ys) ∧ Q (.int ys.length) H) (tCons (tVar i) tNil)) (pLenV i) where
  run := fun Γ B ρ σ H Q Ξ Φ r xo h po => by
    obtain ⟨s, e, h⟩ := h
    match s, e, h with
    | .pu d, e, ⟨es, ei, h⟩ =>
      obtain ⟨v, h1, dr⟩ := r.pu i d e
      obtain ⟨a, xs, rfl, g1, g2⟩ := dr.items_inv ei
      refine ⟨_, h1, a, xs, rfl, ?_, ?_⟩
      · exact g1.imp r.bh.seq (Same.sqT r.bh)
      · rw [g2.length]
        exact po _ _ _ _ _ r (Same.refl _) (.int _) h
    | .ow p c, e, ⟨ds, ec, h⟩ =>
      subst ec
      obtain ⟨a, o, h1, h2, h3, _⟩ := r.ow i p _ e
      obtain ⟨xs, rfl, g2⟩ := h3.lst_inv
      refine ⟨_, h1, a, xs, rfl, .inl (SqL.of h2), ?_⟩
      rw [g2.length]
      exact po _ _ _ _ _ r (Same.refl _) (.int _) h
theorem DrA.at_ {xs : List V} {ds : List D} (h : DrA K B xs ds) : ∀ {k : Nat} {d : D}, ds[k]? = some d → ∃ v, xs[k]? = some v ∧ Dr K B v d := by
  induction ds generalizing xs with
  | nil =>
    intro k d e
    cases e
  | cons c ds ih =>
    cases h with
    | cons h1 h2 =>
      intro k d e
      match k with
      | 0 =>
        cases e
        exact ⟨_, rfl, h1⟩
      | k + 1 => exact ih h2 e
theorem DrA.erase {xs : List V} {ds : List D} (h : DrA K B xs ds) : ∀ k : Nat, DrA K B (xs.eraseIdx k) (ds.eraseIdx k) := by
  induction ds generalizing xs with
  | nil =>
    intro k
    cases h
    exact .nil
  | cons c ds ih =>
    cases h with
    | cons h1 h2 =>
      intro k
      match k with
      | 0 => exact h2
      | k + 1 => exact .cons h1 (ih h2 k)
def pPopV (i : Nat) (pe : PEx) : PEx := fun ρ Ξ Φ => (∃ p ds, ρ[i]? = some (some (.ow p (.lst ds)))) ∧ pe ρ Ξ fun y ρ2 => ∃ p ds k d, ρ2[i]? = some (some (.ow p (.lst ds))) ∧ y = .int ((k : Nat) : Int) ∧ ds[k]? = some d ∧ k < 2 ^ 62 ∧ Φ d (ρ2.set i (some (.ow p (.lst (ds.eraseIdx k)))))
instance (priority := high) rf_popOwn {i : Nat} {te : TE} {pe : PEx} [he : RfE K W te pe] : RfE K W (tBM K "list" rPopAt (tVar i) (tCons te tNil)) (pPopV i pe) where
  run := fun Γ B ρ σ H Q Ξ Φ r xo h po => by
    obtain ⟨⟨p, ds, e⟩, h⟩ := h
    obtain ⟨a, o, h1, h2, h3, _⟩ := r.ow i p _ e
    obtain ⟨xs, rfl, g2⟩ := h3.lst_inv
    refine ⟨_, h1, .inl ⟨rfl, _, SqL.of h2⟩, he.run Γ B ρ σ H _ Ξ _ r xo h fun y dy B2 H2 ρ2 r2 s2 dry hq => ?_⟩
    obtain ⟨p2, ds2, k, d, e2, rfl, ek, hk, hq⟩ := hq
    obtain ⟨a2, o2, j1, j2, j3, _⟩ := r2.ow i p2 _ e2
    rw [h1] at j1
    cases j1
    obtain ⟨xs2, rfl, j4⟩ := j3.lst_inv
    obtain ⟨v, ev, dv⟩ := j4.at_ ek
    have hl := lt_of_some ev
    obtain rfl : y = .int (k : Int) := dry.int_inv
    exact ⟨a, xs2, (k : Int), k, v, rfl, rfl, j2, by omega, by omega, by rw [seqIndex_of (by omega) (by omega)]; rfl, ev, po _ _ B2 _ _ (r2.write e2 h1 (.lst (j4.erase k))) s2 dv hq⟩
end
end Dx
set_option synthInstance.maxSize 100000
set_option synthInstance.maxHeartbeats 4000000
set_option Elab.async false
set_option linter.all false
set_option maxRecDepth 100000
set_option maxHeartbeats 4000000
set_option autoImplicit false
/-! Ey10: an int's place in a list of ints. -/
namespace Dx
open PySem L2
theorem mt_indexI {X : Cx} {K : PySem.W.Frag} (h : X.K = K := by rfl) : MtR X "list.index" (rIndex K) := h ▸ mt_index
section
variable {K : PySem.W.Frag} {W : WX}
theorem eqV_ints (i j : Int) : eqV (.int i) (.int j) = decide (i = j) := by
  show (i == j) = _
  exact Bool.beq_eq_decide_eq i j
def pIdxI (po pe : PEx) : PEx := fun ρ Ξ Φ => po ρ Ξ fun d ρ1 => (∃ es, d.seq = some es) ∧ pe ρ1 Ξ fun y ρ2 => ∃ (ns : List Int) (j : Nat) (i : Int), d.seq = some (ns.map D.int) ∧ y = .int i ∧ ns[j]? = some i ∧ (∀ m, m < j → ns[m]? ≠ some i) ∧ Φ (.int ((j : Nat) : Int)) ρ2
instance rf_idxI {to te : TE} {po pe : PEx} [ho : RfE K W to po] [he : RfE K W te pe] : RfE K W (tBM K "list" (rIndex K) to (tCons te tNil)) (pIdxI po pe) where
  run := fun Γ B ρ σ H Q Ξ Φ r xo h pq => ho.run Γ B ρ σ H _ Ξ _ r xo h fun v d B1 H1 ρ1 r1 s1 dr ⟨⟨es, e0⟩, h1⟩ => by
    obtain ⟨a, ys, rfl, h3, h4⟩ := dr.seq_inv e0
    refine ⟨.inl ⟨rfl, _, r1.bh.seq h3⟩, he.run Γ B1 ρ1 σ H1 _ Ξ _ r1 (xo.mono s1) h1 fun y dy B2 H2 ρ2 r2 s2 dry hq => ?_⟩
    obtain ⟨ns, j, i, e1, rfl, ej, eb, q⟩ := hq
    rw [e0] at e1
    cases e1
    have ey := dra_ints_inv h4
    subst ey
    obtain rfl : y = .int i := dry.int_inv
    refine ⟨a, _, .int i, j, .int i, rfl, rfl, r2.bh.seq (s2.seq h3), rfl, flat_ints ns, ?_, ?_, fun m z' hm hz => ?_, pq _ _ _ _ _ r2 (s1.trans s2) (.int _) q⟩
    · rw [List.getElem?_map, ej]
      rfl
    · rw [eqV_ints]
      exact decide_eq_true rfl
    · rw [List.getElem?_map] at hz
      obtain ⟨n, hn, rfl⟩ := Option.map_eq_some_iff.mp hz
      rw [eqV_ints]
      exact decide_eq_false fun z => eb m hm (by rw [hn, z])
end
end Dx
set_option synthInstance.maxSize 100000
set_option synthInstance.maxHeartbeats 4000000
set_option Elab.async false
set_option linter.all false
set_option maxRecDepth 100000
set_option maxHeartbeats 4000000
set_option autoImplicit false
/-! Ez1: methods that keep what they found once. -/
namespace Dx
open PySem PySem.Spec PyProof.Rows L2
section
variable {X : Cx} {i o e value : Expr} {pos pos' : Pos} {ty td tv : TE} {K : PySem.W.Frag}
theorem Inv.kfun {pins : List (Addr × Obj)} {σ : L2.St} {H : Hp} {s : Shared} (I : Inv X pins σ H s) : KFun X.K H := fun a o e => (I.bs a o (I.mod.kin a o e)).2
/-- key not in dict, the module's own things being apart -/
def tDNotInF (K : PySem.W.Frag) (ty td : TE) : TE := fun σ H Q => ty σ H fun y H1 => td σ H1 fun x H2 => KFun K H2 → ∃ a o, x = .ref a ∧ DGet H2 a y o ∧ Q (.bl (!o.isSome)) H2
theorem pc_dnotinF (hu : X.A.units + 1 < cLine) (hi : PE X i ty) (ho : PE X o td) (hk : X.K = K := by rfl) : PC X .NotIn i o (tDNotInF K ty td) := by
  subst hk
  refine ⟨fun pins s σ H Q I h => ?_⟩
  refine thn (hi.run pins s σ H _ I h) fun iv s1 ⟨y, H1, I1, ry, q1⟩ => thn (ho.run pins s1 σ H1 _ I1 q1) fun u s2 ⟨x, H2, I2, rx, q⟩ => ?_
  obtain ⟨a, ov, ex, g, q2⟩ := q (Inv.kfun I2)
  subst ex
  obtain rfl : u = Value.ref a := rx
  exact d_notIn hu I2 g ry fun s3 I3 => ⟨.bl (!ov.isSome), H2, I3, rfl, q2⟩
def sDPutF (K : PySem.W.Frag) (td ty tv : TE) : TS := fun D σ H => tv σ H fun v H1 => td σ H1 fun x H2 => ty σ H2 fun y H3 => KFun K H3 → ∃ a H4, x = .ref a ∧ DPut H3 a y v H4 ∧ D.nx σ H4
theorem ps_dputF (hu : X.A.units + 1 < cLine) (ho : PE X o td) (hi : PE X i ty) (hv : PE X value tv) (hs : swapsWith value (some (.Subscript o i pos')) pos.line X.env = pure false) (hk : X.K = K := by rfl) :
    PS X (.Assign [.Subscript o i pos'] value pos) (sDPutF K td ty tv) := by
  subst hk
  refine ⟨fun pins s σ H D I h => ?_⟩
  refine wpAny_Assign_Subscript (thn (hv.run pins s σ H _ I h) fun r s1 ⟨v, H1, I1, rv, q1⟩ => thn (ho.run pins s1 σ H1 _ I1 q1) fun u s2 ⟨x, H2, I2, rx, q2⟩ => thn (hi.run pins s2 σ H2 _ I2 q2) fun iv s3 ⟨y, H3, I3, ry, q⟩ => ?_) hs
  obtain ⟨a, H4, ex, g, q3⟩ := q (Inv.kfun I3)
  subst ex
  obtain rfl : u = Value.ref a := rx
  exact d_setItem hu I3 g ry rv fun s4 I4 => ⟨σ, H4, I4, q3⟩
theorem PSs.assoc {sts : List Stmt} {a b c : TS} (h : PSs X sts (tSeq a (tSeq b c))) : PSs X sts (tSeq (tSeq a b) c) := h
theorem PSs.pre {sts : List Stmt} {u : TS} (h : PSs X sts u) : PSs X sts (tSeq tNext u) := h
end
section
variable {K : PySem.W.Frag} {W : WX} {Γ : Ga} {B B' : Hp} {ρ : Ab} {σ : L2.St} {H H' : Hp}
/-- a tuple of ints and texts, as a key -/
def keysT : List D → Option (List Key)
  | [] => some []
  | .int i :: ds => (keysT ds).map (.inl i :: ·)
  | .str x :: ds => (keysT ds).map (.inr x :: ·)
  | _ => none
theorem keysT_at : ∀ {ds : List D} {ks : List Key} {xs : List V}, keysT ds = some ks → DrA K B xs ds → xs = ks.map kV
  | [], ks, xs, e, h => by
    cases e
    cases h
    rfl
  | .int i :: ds, ks, xs, e, h => by
    cases h with
    | cons h1 h2 =>
      cases h1
      have e : (keysT ds).map (Sum.inl i :: ·) = some ks := e
      obtain ⟨ks', e', rfl⟩ := Option.map_eq_some_iff.mp e
      rw [keysT_at e' h2]
      rfl
  | .str x :: ds, ks, xs, e, h => by
    cases h with
    | cons h1 h2 =>
      cases h1
      have e : (keysT ds).map (Sum.inr x :: ·) = some ks := e
      obtain ⟨ks', e', rfl⟩ := Option.map_eq_some_iff.mp e
      rw [keysT_at e' h2]
      rfl
theorem valV_mem {kvs : List (List Key × V)} {k : List Key} {v : V} (h : valV kvs k = some v) : (k, v) ∈ kvs := by
  unfold valV at h
  obtain ⟨p, h1, h2⟩ := Option.map_eq_some_iff.mp h
  have h3 := List.find?_some h1
  have h4 := List.mem_of_find?_eq_some h1
  have h5 : p.1 = k := of_decide_eq_true h3
  rw [← h5, ← h2]
  exact h4
theorem valV_none {kvs : List (List Key × V)} {k : List Key} (h : valV kvs k = none) : k ∉ kvs.map (·.1) := fun z => by
  obtain ⟨p, h1, h2⟩ := List.mem_map.mp z
  unfold valV at h
  rw [Option.map_eq_none_iff, List.find?_eq_none] at h
  exact h p h1 (decide_eq_true h2)
theorem keyT_get {ks : List D} {k : List Key} {v : V} (h : Dr K B v (.trk ks)) (e : keysT ks = some k) : ∃ b, v = .ref b ∧ B b = some (.tup (k.map kV)) := by
  cases h with
  | trk h1 h2 => exact ⟨_, rfl, by rw [h1, keysT_at e h2]⟩
/-- one's own dict of things found once is met -/
theorem memo_at (r : Rl K Γ B ρ σ H) {C : Addr} {gs : List (Str × D)} {f : Str} {m : Addr} {v : V} (dr : Dr K B v (.obj C gs)) (lk : gs.lookup f = some (.raw m)) (mn : memoName f = true) :
    ∃ a dx fs kvs, v = .ref a ∧ B a = some (.ins C dx fs) ∧ DrF K B fs gs ∧ fs.lookup f = some (.ref m) ∧ H m = some (.dT kvs) ∧ B m = none ∧ MemoOk K B fs f kvs := by
  cases dr with
  | obj h1 h2 =>
    obtain ⟨u, h3, h4⟩ := h2.look lk
    cases h4
    obtain ⟨m', e, q1, kvs, q2, q3⟩ := r.mm.ok.ok _ _ _ _ _ _ h1 mn h3
    cases e
    exact ⟨_, _, _, kvs, rfl, h1, h2, h3, q2, q1, q3⟩
/-- what was found once is kept -/
theorem Rl.memo (r : Rl K Γ B ρ σ H) {a C dx : Addr} {fs : List (Str × V)} {f : Str} {m : Addr} {kvs kvs' : List (List Key × V)} (h1 : B a = some (.ins C dx fs)) (mn : memoName f = true) (h3 : fs.lookup f = some (.ref m)) (ok : MemoOk K B fs f kvs') (h : H m = some (.dT kvs)) :
    Rl K Γ B ρ σ (upd H m (.dT kvs')) := by
  have mm : Mm B m := ⟨a, C, dx, fs, f, h1, mn, h3⟩
  obtain ⟨_, _, hb⟩ := r.mm.ok.at mm
  have nB : ∀ b u, B b = some u → b ≠ m := fun b u e z => by subst z; rw [hb] at e; cases e
  refine ⟨fun b u e => by rw [upd_ne (nB b u e)]; exact r.bh b u e, r.bb, fun b u e n nm => ?_, r.nb, fun b e => ?_, fun b u e => ?_, r.len, r.pu, fun i p c e => ?_, r.ne, r.st, r.st _ _ (fun b u e n1 n2 n3 n4 => ?_) r.jj, ⟨⟨fun b C' dx' fs' f' v g1 g2 g3 => ?_, r.mm.ok.inj⟩, r.mm.nm, r.mm.hh⟩⟩
  · rw [upd_ne (fun z => by subst z; exact r.noMm e nm mm)]
    exact r.fr b u e n nm
  · by_cases q : b = m
    · subst q; rw [upd_same] at e; cases e
    · rw [upd_ne q] at e; exact r.dm b e
  · obtain ⟨g1, g2⟩ := r.hd b u e
    exact ⟨by rw [upd_ne (fun z => by subst z; exact r.noHid e mm)]; exact g1, g2⟩
  · obtain ⟨x, u, g1, g2, g3, g4⟩ := r.ow i p c e
    exact ⟨x, u, g1, by rw [upd_ne (fun z => by subst z; rw [h] at g2; exact g3.ndT _ (Option.some.inj g2).symm)]; exact g2, g3, g4⟩
  · rw [upd_ne (fun z => by subst z; rw [h] at e; exact n4 _ (Option.some.inj e).symm)]
    exact e
  · obtain ⟨m', e, q1, kvs0, q2, q3⟩ := r.mm.ok.ok b C' dx' fs' f' v g1 g2 g3
    subst e
    refine ⟨m', rfl, q1, ?_⟩
    by_cases q : m' = m
    · subst q
      obtain ⟨rfl, rfl⟩ := r.mm.ok.inj b C' dx' fs' f' a C dx fs f _ g1 g2 g3 h1 mn h3
      rw [h1] at g1
      cases g1
      exact ⟨_, upd_same, ok⟩
    · exact ⟨kvs0, by rw [upd_ne q]; exact q2, q3⟩
theorem MemoOk.few {fs : List (Str × V)} {f : Str} {kvs : List (List Key × V)} (h : MemoOk K B fs f kvs) : kvs.length < sizeLine := by
  obtain ⟨gs, _, _, nd, h⟩ := h
  have := keys_fewO nd fun k hk => by
    obtain ⟨p, hp, rfl⟩ := List.mem_map.mp hk
    exact (h p.1 p.2 hp).1
  rw [List.length_map] at this
  exact Nat.lt_of_le_of_lt this (by decide)
theorem MemoOk.put {fs : List (Str × V)} {f : Str} {kvs : List (List Key × V)} {gs : List (Str × D)} {k : List Key} {v : V} {d : D} (h : MemoOk K B fs f kvs) (kf : KFun K B) (dr : DrF K B fs gs) (w : memoWf f gs) (hk : keyOk f gs k) (hd : Dr K B v d) (s : memoSpec f gs k d) :
    MemoOk K B fs f (putK kvs k v) := by
  obtain ⟨gs0, h1, h2, nd, h3⟩ := h
  have s0 := memo_trans kf dr h1 w h2 s
  have hk := key_trans kf dr h1 w h2 hk
  cases q : valV kvs k with
  | none =>
    rw [putK_new v q]
    refine ⟨gs0, h1, h2, ?_, fun k' v' hm => ?_⟩
    · rw [List.map_append, List.nodup_append]
      refine ⟨nd, by simp, fun x hx y hy z => ?_⟩
      obtain rfl : y = k := by simpa using hy
      subst z
      exact valV_none q hx
    · rcases List.mem_append.mp hm with hm | hm
      · exact h3 k' v' hm
      · have : (k', v') = (k, v) := by simpa using hm
        cases this
        exact ⟨hk, d, hd, s0⟩
  | some u =>
    have e : putK kvs k v = kvs.map fun kv => if kv.1 = k then (kv.1, v) else kv := by
      unfold putK
      rw [valV_any, q]
      exact if_pos rfl
    rw [e]
    refine ⟨gs0, h1, h2, ?_, fun k' v' hm => ?_⟩
    · rw [List.map_map]
      have : kvs.map ((·.1) ∘ fun kv => if kv.1 = k then (kv.1, v) else kv) = kvs.map (·.1) := List.map_congr_left fun p _ => by
        show (if p.1 = k then (p.1, v) else p).1 = p.1
        split <;> rfl
      rw [this]
      exact nd
    · obtain ⟨p, hp, e⟩ := List.mem_map.mp hm
      by_cases z : p.1 = k
      · rw [if_pos z] at e
        cases e
        rw [z]
        exact ⟨hk, d, hd, s0⟩
      · rw [if_neg z] at e
        subst e
        exact h3 _ _ hp
def pMemo (K : PySem.W.Frag) (f : Str) (i : Nat) (pb : PSx) (pe : PEx) : PSx := fun Δ ρ => ∃ C gs m ks k, ρ[0]? = some (some (.pu (.obj C gs))) ∧ Cls K C ∧ NoAttr K C f ∧ memoName f = true ∧ gs.lookup f = some (.raw m) ∧ ρ[i]? = some (some (.pu (.trk ks))) ∧ keysT ks = some k ∧ keyOk f gs k ∧ memoWf f gs ∧
  (∀ d, memoSpec f gs k d → Δ.rt d ρ) ∧
  pb (Δ.on fun ρ1 => pe ρ1 Δ.ex fun d ρ2 => ρ2[0]? = some (some (.pu (.obj C gs))) ∧ ρ2[i]? = some (some (.pu (.trk ks))) ∧ memoSpec f gs k d ∧ Δ.rt d ρ2) ρ
instance (priority := high) rs_memo {f : Str} {i : Nat} {tb : TS} {te : TE} {pb : PSx} {pe : PEx} [hb : RfS K W tb pb] [he : RfE K W te pe] :
    RfS K W (tSeq (tIfS (tB (tDNotInF K (tVar i) (tFld K (tVar 0) f))) (tSeq tb (sDPutF K (tFld K (tVar 0) f) (tVar i) te)) tNext) (tRet (tDGet (tFld K (tVar 0) f) (tVar i)))) (pMemo K f i pb pe) where
  run := fun Γ B ρ σ H E Δ r sim h => by
    obtain ⟨C, gs, m, ks, k, e0, hc, na, mn, lk, ei, ek, hk, wf, there, new⟩ := h
    obtain ⟨v0, s0, d0⟩ := r.pu 0 _ e0
    obtain ⟨vi, si, di⟩ := r.pu i _ ei
    obtain ⟨b, rfl, hb'⟩ := keyT_get di ek
    obtain ⟨a, dx, fs, kvs, rfl, h1, h2, h3, h4, h5, h6⟩ := memo_at r d0 lk mn
    refine ⟨.ref b, si, .ref a, s0, a, C, dx, fs, .ref m, rfl, r.bh _ _ h1, hc, na, h3, fun kf => ?_⟩
    have kfB : KFun K B := fun x o e => r.bh.free (kf x o e)
    refine ⟨m, valV kvs k, rfl, .inr ⟨kvs, k, b, .inl h4, rfl, r.bh _ _ hb', rfl⟩, ?_⟩
    cases q : valV kvs k with
    | some v =>
      refine ⟨false, rfl, ?_⟩
      show tRet (tDGet (tFld K (tVar 0) f) (tVar i)) E σ H
      refine ⟨.ref a, s0, a, C, dx, fs, .ref m, rfl, r.bh _ _ h1, hc, na, h3, .ref b, si, m, v, rfl, .inr ⟨kvs, k, b, .inl h4, rfl, r.bh _ _ hb', q.symm⟩, ?_⟩
      obtain ⟨gs0, g1, g2, nd, g3⟩ := h6
      obtain ⟨_, d, dr, sp⟩ := g3 k v (valV_mem q)
      exact sim.rt v d B ρ σ H r (Same.refl _) dr (there d (memo_trans kfB g1 h2 g2 wf sp))
    | none =>
      refine ⟨true, rfl, ?_⟩
      show tSeq tb (sDPutF K (tFld K (tVar 0) f) (tVar i) te) { E with nx := tRet (tDGet (tFld K (tVar 0) f) (tVar i)) E } σ H
      refine hb.run Γ B ρ σ H _ (Δ.on fun ρ1 => pe ρ1 Δ.ex fun d ρ2 => ρ2[0]? = some (some (.pu (.obj C gs))) ∧ ρ2[i]? = some (some (.pu (.trk ks))) ∧ memoSpec f gs k d ∧ Δ.rt d ρ2) r ⟨fun B1 ρ1 σ1 H1 r1 s1 hq => ?_, fun v d B1 ρ1 σ1 H1 r1 s1 dr hq => sim.rt v d B1 ρ1 σ1 H1 r1 s1 dr hq, fun B1 ρ1 σ1 H1 r1 s1 hq => sim.bk B1 ρ1 σ1 H1 r1 s1 hq, fun B1 ρ1 σ1 H1 r1 s1 hq => sim.ct B1 ρ1 σ1 H1 r1 s1 hq, sim.ex⟩ new
      refine he.run Γ B1 ρ1 σ1 H1 _ Δ.ex _ r1 ((sim.ex.mono s1).at _) hq fun v d B2 H2 ρ2 r2 s2 dr ⟨e0', ei', sp, hrt⟩ => ?_
      obtain ⟨v0', s0', d0'⟩ := r2.pu 0 _ e0'
      obtain ⟨vi', si', di'⟩ := r2.pu i _ ei'
      obtain ⟨b', rfl, hb2⟩ := keyT_get di' ek
      obtain ⟨a', dx', fs', kvs', rfl, g1, g2, g3, g4, g5, g6⟩ := memo_at r2 d0' lk mn
      refine ⟨.ref a', s0', a', C, dx', fs', .ref m, rfl, r2.bh _ _ g1, hc, na, g3, .ref b', si', fun kf2 => ?_⟩
      have kf2B : KFun K B2 := fun x o e => r2.bh.free (kf2 x o e)
      refine ⟨m, _, rfl, .inr ⟨kvs', k, b', g4, rfl, r2.bh _ _ hb2, g6.few, rfl⟩, ?_⟩
      have ok := g6.put kf2B g2 wf hk dr sp
      have r3 := r2.memo g1 mn g3 ok g4
      refine ⟨.ref a', s0', a', C, dx', fs', .ref m, rfl, r3.bh _ _ g1, hc, na, g3, .ref b', si', m, v, rfl, .inr ⟨_, k, b', .inl upd_same, rfl, r3.bh _ _ hb2, ?_⟩, ?_⟩
      · rw [valV_put, if_pos rfl]
      · exact sim.rt v d B2 ρ2 σ1 _ r3 (s1.trans s2) dr hrt
end
end Dx
set_option synthInstance.maxSize 100000
set_option synthInstance.maxHeartbeats 4000000
set_option Elab.async false
set_option linter.all false
set_option maxRecDepth 100000
set_option maxHeartbeats 4000000
set_option autoImplicit false
/-! Ez2: classes whose instances keep what they found once; tuples that may be keys. -/
namespace Dx
open PySem PySem.Spec PyProof.Rows L2
section
variable {K : PySem.W.Frag} {W : WX} {Γ : Ga} {B B' : Hp} {ρ : Ab} {σ : L2.St} {H H' : Hp}
/-- an instance gets its dicts of things found once -/
structure Born (a C dx : Addr) (fs : List (Str × V)) (ps : List (Str × Addr)) (H1 H' : Hp) : Prop where
  here : H' a = some (.ins C dx (fs ++ ps.map fun p => (p.1, .ref p.2)))
  new : ∀ p ∈ ps, H1 p.2 = none ∧ H' p.2 = some (.dT [])
  oth : ∀ b, b ≠ a → (∀ p ∈ ps, p.2 ≠ b) → H' b = H1 b
  nd : (ps.map (·.2)).Nodup
theorem Born.nil {a C dx : Addr} {fs : List (Str × V)} (h : H a = some (.ins C dx fs)) : Born a C dx fs [] H H :=
  ⟨by rw [List.map_nil, List.append_nil]; exact h, fun p hp => absurd hp (by simp), fun _ _ _ => rfl, List.nodup_nil⟩
theorem putF_app {f : Str} {v : V} : ∀ {fs : List (Str × V)}, fs.lookup f = none → putF f v fs = fs ++ [(f, v)]
  | [], _ => rfl
  | (g, x) :: r, e => by
    rw [List.lookup_cons] at e
    unfold putF
    by_cases q : g = f
    · subst q
      rw [beq_self_eq_true] at e
      cases e
    · rw [if_neg q]
      rw [show (f == g) = false from beq_eq_false_iff_ne.mpr (Ne.symm q)] at e
      rw [putF_app e]
      rfl
theorem look_ps {f : Str} : ∀ {ps : List (Str × Addr)}, f ∉ ps.map (·.1) → List.lookup f (ps.map fun p => (p.1, V.ref p.2)) = none
  | [], _ => rfl
  | p :: ps, n => by
    rw [List.map_cons, List.lookup_cons, show (f == p.1) = false from beq_eq_false_iff_ne.mpr (fun z => n (by rw [List.map_cons, z]; exact List.mem_cons_self))]
    exact look_ps fun z => n (by rw [List.map_cons]; exact List.mem_cons_of_mem _ z)
theorem look_app {α : Type} {f : Str} {ps qs : List (Str × α)} (h : ps.lookup f = none) : (ps ++ qs).lookup f = qs.lookup f := by
  rw [List.lookup_append, h]
  rfl
/-- self.f = {} -/
theorem memo_one {E : Ends} {u : TS} {i : Nat} {f : Str} {a C dx : Addr} {fs : List (Str × V)} {ps : List (Str × Addr)} {H1 H : Hp} (b : Born a C dx fs ps H1 H) (hs : σ[i]? = some (some (.ref a))) (c : Cls K C) (n : NoAttr K C f) (hn : fs.lookup f = none) (hp : f ∉ ps.map (·.1)) (hl : fs.length + ps.length < 1000)
    (k : ∀ p H2, Born a C dx fs (ps ++ [(f, p)]) H1 H2 → u E σ H2) : tSeq (sFld K (tVar i) tDNewT f) u E σ H := by
  intro p hpn
  have na : a ≠ p := ne_of_none b.here hpn
  refine ⟨.ref a, hs, a, C, dx, _, rfl, by rw [upd_ne na]; exact b.here, c, n, by rw [List.length_append, List.length_map]; exact hl, k p _ ⟨?_, fun q hq => ?_, fun x h1 h2 => ?_, ?_⟩⟩
  · rw [upd_same, putF_app (by rw [look_app hn]; exact look_ps hp), List.map_append, List.append_assoc]
    rfl
  · rcases List.mem_append.mp hq with hq | hq
    · obtain ⟨g1, g2⟩ := b.new q hq
      have n1 : q.2 ≠ a := fun z => by rw [z, b.here] at g2; cases g2
      have n2 : q.2 ≠ p := ne_of_none g2 hpn
      exact ⟨g1, by rw [upd_ne n1, upd_ne n2]; exact g2⟩
    · obtain rfl : q = (f, p) := by simpa using hq
      refine ⟨?_, by rw [upd_ne (Ne.symm na)]; exact upd_same⟩
      by_cases hm : ∀ q ∈ ps, q.2 ≠ p
      · rw [← b.oth p (Ne.symm na) hm]; exact hpn
      · exfalso
        apply hm
        intro q hq z
        have := (b.new q hq).2
        rw [z, hpn] at this
        cases this
  · rw [upd_ne h1, upd_ne (fun z => h2 (f, p) (List.mem_append.mpr (.inr (by simp))) z.symm)]
    exact b.oth x h1 fun q hq => h2 q (List.mem_append.mpr (.inl hq))
  · rw [List.map_append, List.nodup_append]
    refine ⟨b.nd, by simp, fun x hx y hy z => ?_⟩
    obtain rfl : y = p := by simpa using hy
    subst z
    obtain ⟨q, hq, e⟩ := List.mem_map.mp hx
    have := (b.new q hq).2
    rw [e, hpn] at this
    cases this
theorem memo_last {E : Ends} {i : Nat} {f : Str} {a C dx : Addr} {fs : List (Str × V)} {ps : List (Str × Addr)} {H1 H : Hp} (b : Born a C dx fs ps H1 H) (hs : σ[i]? = some (some (.ref a))) (c : Cls K C) (n : NoAttr K C f) (hn : fs.lookup f = none) (hp : f ∉ ps.map (·.1)) (hl : fs.length + ps.length < 1000)
    (k : ∀ p H2, Born a C dx fs (ps ++ [(f, p)]) H1 H2 → E.nx σ H2) : sFld K (tVar i) tDNewT f E σ H := memo_one (u := tNext) b hs c n hn hp hl k
/-- the data of such an instance -/
def memD (C : Addr) (gs : List (Str × D)) (ps : List (Str × Addr)) : D := .obj C (gs ++ ps.map fun p => (p.1, .raw p.2))
theorem DrF.app {fs fs' : List (Str × V)} {gs gs' : List (Str × D)} (h : DrF K B fs gs) (g : DrF K B fs' gs') : DrF K B (fs ++ fs') (gs ++ gs') := by
  induction gs generalizing fs with
  | nil => cases h; exact g
  | cons c gs ih => cases h with | cons h1 h2 => exact .cons h1 (ih h2)
theorem DrF.raws : ∀ {ps : List (Str × Addr)}, DrF K B (ps.map fun p => (p.1, V.ref p.2)) (ps.map fun p => (p.1, D.raw p.2))
  | [] => .nil
  | p :: ps => .cons (.raw p.2) DrF.raws
theorem look_in {f : Str} {v : V} : ∀ {ps : List (Str × Addr)}, List.lookup f (ps.map fun p => (p.1, V.ref p.2)) = some v → ∃ m, v = .ref m ∧ (f, m) ∈ ps
  | p :: ps, e => by
    rw [List.map_cons, List.lookup_cons] at e
    cases q : (f == p.1) with
    | true =>
      rw [q] at e
      cases e
      exact ⟨p.2, rfl, by rw [eq_of_beq q]; exact List.mem_cons_self⟩
    | false =>
      rw [q] at e
      obtain ⟨m, h1, h2⟩ := look_in e
      exact ⟨m, h1, List.mem_cons_of_mem _ h2⟩
/-- such an instance becomes data -/
theorem Rl.born (r : Rl K Γ B ρ σ H) {a C dx : Addr} {fs : List (Str × V)} {gs : List (Str × D)} {ps : List (Str × Addr)} (fr : Fre Γ B ρ σ a) (ha : H a = some (.ins C dx fs)) (dr : DrF K B fs gs) (nm : ∀ f, memoName f = true → gs.lookup f = none) (b : Born a C dx fs ps H H') (names : ∀ p ∈ ps, memoName p.1 = true) (nd : (ps.map (·.1)).Nodup)
    (wf : ∀ p ∈ ps, memoWf p.1 (gs ++ ps.map fun p => (p.1, .raw p.2))) :
    Rl K Γ (upd B a (.ins C dx (fs ++ ps.map fun p => (p.1, .ref p.2)))) ρ σ H' ∧ Same B (upd B a (.ins C dx (fs ++ ps.map fun p => (p.1, .ref p.2)))) ∧ Dr K (upd B a (.ins C dx (fs ++ ps.map fun p => (p.1, .ref p.2)))) (.ref a) (memD C gs ps) := by
  have sB : Same B (upd B a (.ins C dx (fs ++ ps.map fun p => (p.1, .ref p.2)))) := Same.upd' fr.b
  have keep : ∀ c u, H c = some u → c ≠ a → H' c = some u := fun c u e n => by
    rw [b.oth c n fun p hp z => by rw [← z, (b.new p hp).1] at e; cases e]
    exact e
  have dom : ∀ c, H' c = none → H c = none := fun c e => by
    cases q : H c with
    | none => rfl
    | some u =>
      by_cases hc : c = a
      · subst hc; rw [b.here] at e; cases e
      · rw [keep c u q hc] at e; cases e
  have mm := r.mm.ok
  have noa : ¬ Mm B a := mm.no ha fun _ z => nomatch z
  have fnm : ∀ f, memoName f = true → fs.lookup f = none := fun f h => dr.lookN (nm f h)
  have dr' : DrF K (upd B a (.ins C dx (fs ++ ps.map fun p => (p.1, .ref p.2)))) (fs ++ ps.map fun p => (p.1, .ref p.2)) (gs ++ ps.map fun p => (p.1, .raw p.2)) := (dr.mono sB).app DrF.raws
  have mmem : ∀ {c C' dx' fs' f v}, upd B a (.ins C dx (fs ++ ps.map fun p => (p.1, .ref p.2))) c = some (.ins C' dx' fs') → memoName f = true → fs'.lookup f = some v → (c = a ∧ fs' = fs ++ ps.map (fun p => (p.1, .ref p.2)) ∧ ∃ m, v = .ref m ∧ (f, m) ∈ ps) ∨ (c ≠ a ∧ B c = some (.ins C' dx' fs')) := fun {c C' dx' fs' f v} h1 h2 h3 => by
    by_cases hc : c = a
    · subst hc
      rw [upd_same] at h1
      cases h1
      rw [look_app (fnm f h2)] at h3
      exact .inl ⟨rfl, rfl, look_in h3⟩
    · rw [upd_ne hc] at h1
      exact .inr ⟨hc, h1⟩
  have newB : ∀ p ∈ ps, B p.2 = none := fun p hp => r.bh.free (b.new p hp).1
  have pna : ∀ p ∈ ps, p.2 ≠ a := fun p hp z => by have := (b.new p hp).1; rw [z, ha] at this; cases this
  have mm' : MmOk K (upd B a (.ins C dx (fs ++ ps.map fun p => (p.1, .ref p.2)))) H' := ⟨fun c C' dx' fs' f v h1 h2 h3 => by
    rcases mmem h1 h2 h3 with ⟨rfl, rfl, m, rfl, hm⟩ | ⟨hc, g1⟩
    · exact ⟨m, rfl, by rw [upd_ne (pna _ hm)]; exact newB _ hm, [], (b.new _ hm).2, _, dr', wf _ hm, List.nodup_nil, fun k v h => absurd h (by simp)⟩
    · obtain ⟨m, e, q1, kvs, q2, q3⟩ := mm.ok c C' dx' fs' f v g1 h2 h3
      subst e
      have hma : m ≠ a := fun z => by subst z; rw [ha] at q2; cases q2
      exact ⟨m, rfl, by rw [upd_ne hma]; exact q1, kvs, keep m _ q2 hma, q3.mono sB⟩, fun c C1 dx1 fs1 f1 c2 C2 dx2 fs2 f2 m h1 h2 h3 g1 g2 g3 => by
    rcases mmem h1 h2 h3 with ⟨rfl, rfl, m1, e1, hm1⟩ | ⟨hc1, k1⟩
    · cases e1
      rcases mmem g1 g2 g3 with ⟨rfl, rfl, m2, e2, hm2⟩ | ⟨hc2, k2⟩
      · cases e2
        refine ⟨rfl, ?_⟩
        have key : ∀ {l : List (Str × Addr)}, (l.map (·.2)).Nodup → (f1, m) ∈ l → (f2, m) ∈ l → f1 = f2 := by
          intro l
          induction l with
          | nil => intro _ h; cases h
          | cons x l ih =>
            intro nd h h'
            rw [List.map_cons, List.nodup_cons] at nd
            rcases List.mem_cons.mp h with h | h <;> rcases List.mem_cons.mp h' with h' | h'
            · rw [← h] at h'; exact (Prod.mk.inj h').1.symm
            · exact absurd (List.mem_map.mpr ⟨_, h', by rw [← h]⟩) nd.1
            · exact absurd (List.mem_map.mpr ⟨_, h, by rw [← h']⟩) nd.1
            · exact ih nd.2 h h'
        exact key b.nd hm1 hm2
      · obtain ⟨m', e, q1, kvs, q2, _⟩ := mm.ok _ _ _ _ _ _ k2 g2 g3
        cases e
        rw [(b.new _ hm1).1] at q2
        cases q2
    · rcases mmem g1 g2 g3 with ⟨rfl, rfl, m2, e2, hm2⟩ | ⟨hc2, k2⟩
      · cases e2
        obtain ⟨m', e, q1, kvs, q2, _⟩ := mm.ok _ _ _ _ _ _ k1 h2 h3
        cases e
        rw [(b.new _ hm2).1] at q2
        cases q2
      · exact mm.inj _ _ _ _ _ _ _ _ _ _ _ k1 h2 h3 k2 g2 g3⟩
  have mms : ∀ q, Mm (upd B a (.ins C dx (fs ++ ps.map fun p => (p.1, .ref p.2)))) q → Mm B q ∨ H q = none := fun q ⟨c, C', dx', fs', f, h1, h2, h3⟩ => by
    rcases mmem h1 h2 h3 with ⟨rfl, rfl, m, e, hm⟩ | ⟨hc, g1⟩
    · cases e; exact .inr (b.new _ hm).1
    · exact .inl ⟨c, C', dx', fs', f, g1, h2, h3⟩
  refine ⟨⟨fun c u e => ?_, r.bb.trans sB, fun c u e n m => ?_, fun c u e => ?_, fun c e => r.dm c (dom c e), fun c u e => ?_, r.len, fun i d e => ?_, fun i p c e => ?_, r.ne, r.st, r.st _ _ (fun c u e n1 n2 n3 n4 => keep c u e fun z => by subst z; rw [ha] at e; exact n3 _ _ _ (Option.some.inj e).symm) r.jj, ⟨mm', fun q x => (mms q x).elim (r.mm.nm q) fun y => .inr (r.dm q y), fun q x => (mms q x).elim (r.mm.hh q) fun y => (r.gone y).2⟩⟩, sB, .obj upd_same dr'⟩
  · by_cases hc : c = a
    · subst hc; rw [upd_same] at e; rw [← e]; exact b.here
    · rw [upd_ne hc] at e; exact keep c u (r.bh c u e) hc
  · have hc : c ≠ a := fun z => by subst z; rw [fr.g] at e; cases e
    exact keep c u (r.fr c u e n m) hc
  · by_cases hc : c = a
    · subst hc; exact .inr fr.g
    · rw [upd_ne hc] at e; exact r.nb c u e
  · have hc : c ≠ a := fun z => by subst z; rw [fr.h] at e; cases e
    obtain ⟨g1, g2⟩ := r.hd c u e
    exact ⟨keep c u g1 hc, by rw [upd_ne hc]; exact g2⟩
  · obtain ⟨v, g1, g2⟩ := r.pu i d e
    exact ⟨v, g1, g2.mono sB⟩
  · obtain ⟨x, u, g1, g2, g3, g4, g5⟩ := r.ow i p c e
    have hx : x ≠ a := fun z => by subst z; exact fr.s i p c e g1
    exact ⟨x, u, g1, keep x u g2 hx, g3.mono sB, by rw [upd_ne hx]; exact g4, g5⟩
/-- the promise of an __init__ whose instance keeps what it found once -/
abbrev PmM := Ab → (D → Prop) → Prop
def spM (K : PySem.W.Frag) (n : Nat) (P : PmM) (C : Addr) (ms : List Str) : Sp := fun vs H Q E => ∃ (J : Hp → Prop) (B : Hp) (ρ : Ab) (Φ : D → Prop), ρ.length = n ∧ Rl K (gaOf B H ρ vs J) B ρ (vs.map some) H ∧ P ρ Φ ∧
  ∀ a dx fs gs ps B1 H1 ρ1 H', vs.head? = some (.ref a) → Fin K (gaOf B H ρ vs J) B1 ρ1 H1 → ρ1.head? = some (some (.ow true (.ins C gs))) → H1 a = some (.ins C dx fs) → DrF K B1 fs gs → (∀ f, memoName f = true → gs.lookup f = none) → ps.map (·.1) = ms → Born a C dx fs ps H1 H' → (∀ p ∈ ps, memoWf p.1 (gs ++ ps.map fun p => (p.1, .raw p.2))) → Φ (memD C gs ps) → Q .non H'
theorem spM_len {n : Nat} {P : PmM} {C : Addr} {ms : List Str} {vs : List V} {H : Hp} {Q : VK} {E : XK} (h : spM K n P C ms vs H Q E) : vs.length = n := by
  obtain ⟨J, B, ρ, Φ, h1, h2, _⟩ := h
  have := h2.len
  rw [List.length_map] at this
  omega
class MemoNames (ms : List Str) : Prop where
  all : ∀ f ∈ ms, memoName f = true
  nd : ms.Nodup
instance rf_makeM {C : Addr} {kk : Nat} {P : PmM} {ms : List Str} {ta : TA} {pa : PAx} [ha : RfA K W ta pa] [mn : MemoNames ms] :
    RfE K W (tMake C (spM K kk P C ms) [] (fun _ _ _ => False) ta) (fun ρ Ξ Φ => pa ρ Ξ fun as ρ2 => ∃ ds, as = ds.map .pu ∧ kk = ds.length + 1 ∧ P (some (.ow true (.ins C [])) :: pus ds) fun d => Φ d ρ2) where
  run := fun Γ B ρ σ H Q Ξ Φ r xo h po => ha.run Γ B ρ σ H _ Ξ _ r xo h fun vs as B2 H2 ρ2 r2 s2 aso hq2 => by
    obtain ⟨ds, rfl, hkk, hp⟩ := hq2
    have da := aso.pure
    refine fun x dx hx hdx hne => ?_
    rw [List.append_nil]
    have r3 := r2.al (Al.side (K := K) (o := .own x) hdx) (fun b u e => by rw [upd_ne (ne_of_none (r2.bh b u e) hdx)]; exact r2.bh b u e)
    have hx3 : upd H2 dx (.own x) x = none := by rw [upd_ne hne.symm]; exact hx
    have f := r3.fre hx3
    have r4 := r3.al (Al.side (K := K) (o := .ins C dx []) hx3) (fun b u e => by rw [upd_ne (ne_of_none (r3.bh b u e) hx3)]; exact r3.bh b u e)
    have r5 := r4.push (c := .ins C []) f upd_same (.ins .nil fun _ _ => rfl)
    have e0 : (ρ2 ++ [some (Sl.ow false (.ins C []))])[ρ2.length]? = some (some (.ow false (.ins C []))) := by rw [List.getElem?_append_right (Nat.le_refl _), Nat.sub_self]; rfl
    have hσ : (σ ++ [some (V.ref x)])[ρ2.length]? = some (some (.ref x)) := by rw [r2.len, List.getElem?_append_right (Nat.le_refl _), Nat.sub_self]; rfl
    have ars : ArsOk K B2 (ρ2 ++ [some (.ow false (.ins C []))]) (σ ++ [some (.ref x)]) (.ref x :: vs) (.sl ρ2.length :: ds.map .pu) := .cons ⟨hσ, _, _, e0⟩ (arsOk_pu da)
    have nd : (slots (.sl ρ2.length :: ds.map .pu)).Nodup := by
      show (ρ2.length :: slots (ds.map .pu)).Nodup
      rw [slots_pu]
      simp
    have st := call_start r5 ars nd
    have es1 : (Ar.sl ρ2.length :: ds.map .pu).map (slOf (ρ2 ++ [some (.ow false (.ins C []))])) = some (.ow true (.ins C [])) :: pus ds := by
      rw [List.map_cons, slOf_sl e0, slOf_pu]
      rfl
    rw [es1] at st
    refine ⟨Γ.J, B2, some (.ow true (.ins C [])) :: pus ds, _, ?_, st, hp, fun a dx' fs gs ps B1 H1 ρ1 H' ha fi hg hi dr nm hms born wf q => ?_⟩
    · unfold pus
      rw [List.length_cons, List.length_map]
      omega
    · cases ha
      have ce := call_end r5 ars nd (ρc := ρ1) (by rw [es1]; exact fi)
      have ey : back (ρ2 ++ [some (.ow false (.ins C []))]) (.sl ρ2.length :: ds.map .pu) ρ1 = ρ2 ++ [some (.ow false (.ins C gs))] := by
        unfold back
        rw [back_pu, e0, hg]
        show (ρ2 ++ [some (Sl.ow false (.ins C []))]).set ρ2.length (some (.ow false (.ins C gs))) = _
        rw [List.set_append_right _ _ (Nat.le_refl _), Nat.sub_self]
        rfl
      rw [ey] at ce
      have e1 : (ρ2 ++ [some (Sl.ow false (.ins C gs))])[ρ2.length]? = some (some (.ow false (.ins C gs))) := by rw [List.getElem?_append_right (Nat.le_refl _), Nat.sub_self]; rfl
      obtain ⟨a', o', k1, k2, k3, k4, k5, k6, k7⟩ := ce.ow _ _ _ e1
      rw [hσ] at k1
      cases k1
      have fre : Fre Γ B1 ρ2 σ x := ⟨k4, k7 rfl, k5, fun j p e z w => by
        have hj := lt_of_some z
        have := ce.ne j ρ2.length p false e (.ins C gs) (by rw [List.getElem?_append_left hj]; exact z) e1 (by rw [hσ, List.getElem?_append_left (by rw [← r2.len]; exact hj)]; exact w)
        omega⟩
      obtain ⟨z1, z2, z3⟩ := ce.pop.born fre hi dr nm born (fun p hp => mn.all _ (by rw [← hms]; exact List.mem_map.mpr ⟨p, hp, rfl⟩)) (by rw [hms]; exact mn.nd) wf
      exact ⟨rfl, po _ _ _ _ _ z1 (s2.trans (fi.bb.trans z2)) z3 q⟩
end
end Dx
set_option synthInstance.maxSize 100000
set_option synthInstance.maxHeartbeats 4000000
set_option Elab.async false
set_option linter.all false
set_option maxRecDepth 100000
set_option maxHeartbeats 4000000
set_option autoImplicit false
/-! Ez3: list(zip(..)). -/
namespace PySem
open Sem (wp)
/-- a zip whose last tuple is held elsewhere -/
abbrev IsZipF (h : Heap) (z TI TO a : Addr) (f : Bool) : Prop :=
  h.get? z = some { cls := .type "zip", dict := none, data := .fields #[rawInt a, .bool f, .bool false, .ref TI, .ref TO], slots := #[] }
section
variable {prog : Program} {w : World} {A : Around} {E : Value → Shared → Prop} {s : Shared} {z TI TO i1 i2 i3 a : Addr} {fp1 fp2 fp3 : List Addr} {n1 n2 n3 i : Nat} {P1 P2 P3 : Nat → Value → Prop} {St1 St2 St3 : Nat → Heap → Prop} {f : Bool} {oa : Obj}
theorem zip3_out_item {Q : Value → Shared → Prop} (S : ZipSep3 z TI TO i1 i2 i3 fp1 fp2 fp3) (D1 : Draws prog w A i1 fp1 n1 P1 St1) (D2 : Draws prog w A i2 fp2 n2 P2 St2) (D3 : Draws prog w A i3 fp3 n3 P3 St3)
    (hz : IsZipF s.heap z TI TO a f) (ha : s.heap.get? a = some oa) (haz : a ≠ z) (hTI : IsTupOf3 s.heap TI (.ref i1) (.ref i2) (.ref i3)) (st1 : St1 i s.heap) (st2 : St2 i s.heap) (st3 : St3 i s.heap) (hlt1 : i < n1) (hlt2 : i < n2) (hlt3 : i < n3)
    (hQ : ∀ x1 x2 x3 h' tk, P1 i x1 → P2 i x2 → P3 i x3 → IsZipF h' z TI TO a true → St1 (i + 1) h' → St2 (i + 1) h' → St3 (i + 1) h' → IsTupOf3 h' s.heap.objs.size x1 x2 x3 → h'.objs.size = s.heap.objs.size + 1 →
      (∀ c o, c ≠ z → c ≠ i1 → c ≠ i2 → c ≠ i3 → s.heap.get? c = some o → h'.get? c = some o) → Q (.ref s.heap.objs.size) { s with heap := h', toks := tk }) :
    wpAny (model prog w) A (Builtin.«zip.__next__» ⟨[.ref z], []⟩) (fun fin s' => ∃ v, fin = .done (.ret v) ∧ Q v s') E s := by
  obtain ⟨hp, g, d, tk0, os⟩ := s
  show wpAny _ _ (field (.ref z) 2 >>= _) _ _ _
  refine wpAny_bind (wpAny_field hz rfl (x := .bool false) rfl ?_)
  show wpAny _ _ (field (.ref z) 3 >>= _) _ _ _
  refine wpAny_bind (wpAny_field hz rfl (x := .ref TI) rfl ?_)
  refine wpAny_bind (wpAny_seqItems hTI rfl ?_)
  show wpAny _ _ (Builtin.SmallTypes.ownedTupleIsFree (.ref z) >>= _) _ _ _
  refine wpAny_bind ?_
  unfold Builtin.SmallTypes.ownedTupleIsFree
  refine wpAny_bind (wpAny_field hz rfl (x := rawInt a) rfl ?_)
  show wpAny _ _ (loadIfAlive ((a : Int).toNat) >>= _) _ _ _
  rw [Int.toNat_natCast]
  refine wpAny_bind (PySem.W.kdx_alive ha ?_)
  simp only [Option.isNone_some, Bool.false_eq_true, if_false]
  refine wpAny_bind (wpAny_field hz rfl (x := .bool f) rfl ?_)
  refine wpAny_mono (Q := fun (b : Bool) (s1 : Shared) => b = false ∧ ∃ g0 : Heap, s1 = ⟨g0, g, d, tk0, os⟩ ∧ IsZipF g0 z TI TO a true ∧ Heap.SameBut z hp g0) ?_ (fun b s1 hb => ?_) (fun _ _ e => e)
  · cases f with
    | true =>
      rw [if_neg (show ¬ ((Value.bool true != Value.bool true) = true) from Bool.false_ne_true)]
      exact wpAny_pure ⟨rfl, hp, rfl, hz, Heap.SameBut.refl _ _⟩
    | false =>
      rw [if_pos (show (Value.bool false != Value.bool true) = true from rfl)]
      refine wpAny_bind (wpAny_setField_rec hz (by simp) fun h₃ he₃ hs₃ => ?_)
      exact wpAny_pure ⟨rfl, h₃, rfl, he₃, hs₃⟩
  obtain ⟨rfl, g0, rfl, hz0, hs0⟩ := hb
  simp only [Bool.false_eq_true, if_false, List.forIn_toArray, List.forIn_cons, List.forIn_nil]
  refine wpAny_bind (wpAny_bind (wpAny_bind (wpAny_holding ?_)))
  show wpAny _ _ (Builtin.SmallTypes.nextOf (.ref i1) >>= _) _ _ ⟨g0, g, d, tk0, os⟩
  refine wpAny_bind (D1.item i _ _ _ hlt1 (D1.over st1 hs0 S.zf1) fun x1 p1 tk1 hx1 sn1 hp1 => wpAny_pure (wpAny_pure ?_))
  replace hp1 : Heap.SameBut i1 g0 p1 := hp1
  refine wpAny_bind (wpAny_bind (wpAny_holding ?_))
  show wpAny _ _ (Builtin.SmallTypes.nextOf (.ref i2) >>= _) _ _ ⟨p1, g, d, tk1, os⟩
  refine wpAny_bind (D2.item i _ _ _ hlt2 (D2.over (D2.over st2 hs0 S.zf2) hp1 S.sep1_2) fun x2 p2 tk2 hx2 sn2 hp2 => wpAny_pure (wpAny_pure ?_))
  replace hp2 : Heap.SameBut i2 p1 p2 := hp2
  refine wpAny_bind (wpAny_bind (wpAny_holding ?_))
  show wpAny _ _ (Builtin.SmallTypes.nextOf (.ref i3) >>= _) _ _ ⟨p2, g, d, tk2, os⟩
  refine wpAny_bind (D3.item i _ _ _ hlt3 (D3.over (D3.over (D3.over st3 hs0 S.zf3) hp1 S.sep1_3) hp2 S.sep2_3) fun x3 p3 tk3 hx3 sn3 hp3 => wpAny_pure (wpAny_pure (wpAny_pure ?_)))
  replace hp3 : Heap.SameBut i3 p2 p3 := hp3
  refine wpAny_bind (wpAny_newTuple ?_ (hsz := by show 3 ≤ sizeLine; decide))
  have hsz : p3.objs.size = hp.objs.size := by rw [hp3.1, hp2.1, hp1.1, hs0.1]
  have hkk : ∀ c o, c ≠ z → c ≠ i1 → c ≠ i2 → c ≠ i3 → hp.get? c = some o → p3.get? c = some o := fun c o cz c1 c2 c3 e =>
    (hp3.extBut _ _ c3 (hp2.extBut _ _ c2 (hp1.extBut _ _ c1 (hs0.extBut _ _ cz e))))
  have hj1 : St1 (i + 1) p3 := D1.over (D1.over sn1 hp2 S.sep2_1) hp3 S.sep3_1
  have hj2 : St2 (i + 1) p3 := D2.over sn2 hp3 S.sep3_2
  have hzz : IsZipF p3 z TI TO a true := hp3.extBut _ _ S.zi3 (hp2.extBut _ _ S.zi2 (hp1.extBut _ _ S.zi1 hz0))
  refine wpAny_pure ⟨_, rfl, ?_⟩
  show Q (.ref p3.objs.size) ⟨p3.push { cls := .type "tuple", data := .seq #[x1, x2, x3] }, g, d, tk3, os⟩
  have up : ∀ c o, p3.get? c = some o → (p3.push { cls := .type "tuple", data := .seq #[x1, x2, x3] }).get? c = some o := fun c o e => Heap.get?_push_of_some _ e
  have hT : IsTupOf3 (p3.push { cls := .type "tuple", data := .seq #[x1, x2, x3] }) p3.objs.size x1 x2 x3 := Heap.get?_push_size _ rfl
  rw [hsz] at hT ⊢
  exact hQ x1 x2 x3 _ tk3 hx1 hx2 hx3 (up _ _ hzz) (D1.frame _ _ _ hj1 fun b hb o e => up b o e) (D2.frame _ _ _ hj2 fun b hb o e => up b o e) (D3.frame _ _ _ sn3 fun b hb o e => up b o e) hT (by rw [Heap.size_push, hsz]) fun c o cz c1 c2 c3 e => up c o (hkk c o cz c1 c2 c3 e)
theorem zip3_out_end {Q : Fin → Shared → Prop} (S : ZipSep3 z TI TO i1 i2 i3 fp1 fp2 fp3) (D1 : Draws prog w A i1 fp1 n1 P1 St1) (D2 : Draws prog w A i2 fp2 n2 P2 St2) (D3 : Draws prog w A i3 fp3 n3 P3 St3)
    (hz : IsZipF s.heap z TI TO a f) (ha : s.heap.get? a = some oa) (hTI : IsTupOf3 s.heap TI (.ref i1) (.ref i2) (.ref i3)) (st1 : St1 i s.heap) (st2 : St2 i s.heap) (st3 : St3 i s.heap) (hle1 : i ≤ n1) (hle2 : i ≤ n2) (hle3 : i ≤ n3) (hend : i = n1 ∨ i = n2 ∨ i = n3)
    (hE : ∀ h' tk e, (∀ c o, c ≠ z → c ≠ i1 → c ≠ i2 → c ≠ i3 → s.heap.get? c = some o → h'.get? c = some o) → (∃ o, h'.get? e = some o ∧ o.cls = .type "StopIteration") → E (.ref e) { s with heap := h', toks := tk }) :
    wpAny (model prog w) A (Builtin.«zip.__next__» ⟨[.ref z], []⟩) Q E s := by
  obtain ⟨hp, g, d, tk0, os⟩ := s
  show wpAny _ _ (field (.ref z) 2 >>= _) _ _ _
  refine wpAny_bind (wpAny_field hz rfl (x := .bool false) rfl ?_)
  show wpAny _ _ (field (.ref z) 3 >>= _) _ _ _
  refine wpAny_bind (wpAny_field hz rfl (x := .ref TI) rfl ?_)
  refine wpAny_bind (wpAny_seqItems hTI rfl ?_)
  show wpAny _ _ (Builtin.SmallTypes.ownedTupleIsFree (.ref z) >>= _) _ _ _
  refine wpAny_bind ?_
  unfold Builtin.SmallTypes.ownedTupleIsFree
  refine wpAny_bind (wpAny_field hz rfl (x := rawInt a) rfl ?_)
  show wpAny _ _ (loadIfAlive ((a : Int).toNat) >>= _) _ _ _
  rw [Int.toNat_natCast]
  refine wpAny_bind (PySem.W.kdx_alive ha ?_)
  simp only [Option.isNone_some, Bool.false_eq_true, if_false]
  refine wpAny_bind (wpAny_field hz rfl (x := .bool f) rfl ?_)
  refine wpAny_mono (Q := fun (b : Bool) (s1 : Shared) => b = false ∧ ∃ g0 : Heap, s1 = ⟨g0, g, d, tk0, os⟩ ∧ IsZipF g0 z TI TO a true ∧ Heap.SameBut z hp g0) ?_ (fun b s1 hb => ?_) (fun _ _ e => e)
  · cases f with
    | true =>
      rw [if_neg (show ¬ ((Value.bool true != Value.bool true) = true) from Bool.false_ne_true)]
      exact wpAny_pure ⟨rfl, hp, rfl, hz, Heap.SameBut.refl _ _⟩
    | false =>
      rw [if_pos (show (Value.bool false != Value.bool true) = true from rfl)]
      refine wpAny_bind (wpAny_setField_rec hz (by simp) fun h₃ he₃ hs₃ => ?_)
      exact wpAny_pure ⟨rfl, h₃, rfl, he₃, hs₃⟩
  obtain ⟨rfl, g0, rfl, hz0, hs0⟩ := hb
  simp only [Bool.false_eq_true, if_false, List.forIn_toArray, List.forIn_cons, List.forIn_nil]
  refine wpAny_bind (wpAny_bind (wpAny_bind (wpAny_holding ?_)))
  show wpAny _ _ (Builtin.SmallTypes.nextOf (.ref i1) >>= _) _ _ ⟨g0, g, d, tk0, os⟩
  by_cases hlt1 : i < n1
  · refine wpAny_bind (D1.item i _ _ _ hlt1 (D1.over st1 hs0 S.zf1) fun x1 p1 tk1 hx1 sn1 hp1 => wpAny_pure (wpAny_pure ?_))
    replace hp1 : Heap.SameBut i1 g0 p1 := hp1
    refine wpAny_bind (wpAny_bind (wpAny_holding ?_))
    show wpAny _ _ (Builtin.SmallTypes.nextOf (.ref i2) >>= _) _ _ ⟨p1, g, d, tk1, os⟩
    by_cases hlt2 : i < n2
    · refine wpAny_bind (D2.item i _ _ _ hlt2 (D2.over (D2.over st2 hs0 S.zf2) hp1 S.sep1_2) fun x2 p2 tk2 hx2 sn2 hp2 => wpAny_pure (wpAny_pure ?_))
      replace hp2 : Heap.SameBut i2 p1 p2 := hp2
      have hi3 : i = n3 := by omega
      refine wpAny_bind (wpAny_bind (wpAny_holding ?_))
      show wpAny _ _ (Builtin.SmallTypes.nextOf (.ref i3) >>= _) _ _ ⟨p2, g, d, tk2, os⟩
      refine wpAny_bind (D3.done ⟨p2, g, d, tk2, os⟩ _ _ (by rw [← hi3]; exact D3.over (D3.over (D3.over st3 hs0 S.zf3) hp1 S.sep1_3) hp2 S.sep2_3) fun q e hq he => ?_)
      exact hE q tk2 e (fun c o cz c1 c2 c3 x => hq _ _ c3 (hp2.extBut _ _ c2 (hp1.extBut _ _ c1 (hs0.extBut _ _ cz x)))) he
    · have hi2 : i = n2 := by omega
      refine wpAny_bind (D2.done ⟨p1, g, d, tk1, os⟩ _ _ (by rw [← hi2]; exact D2.over (D2.over st2 hs0 S.zf2) hp1 S.sep1_2) fun q e hq he => ?_)
      exact hE q tk1 e (fun c o cz c1 c2 c3 x => hq _ _ c2 (hp1.extBut _ _ c1 (hs0.extBut _ _ cz x))) he
  · have hi1 : i = n1 := by omega
    refine wpAny_bind (D1.done ⟨g0, g, d, tk0, os⟩ _ _ (by rw [← hi1]; exact D1.over st1 hs0 S.zf1) fun q e hq he => ?_)
    exact hE q tk0 e (fun c o cz c1 c2 c3 x => hq _ _ c1 (hs0.extBut _ _ cz x)) he
/-- a zip of three as list() walks it: its tuples stay -/
def Z3St (S0 z TI TO i1 i2 i3 : Addr) (i : Nat) (h : Heap) : Prop := (i = 0 ∧ IsZip h z TI TO .none ∧ (∃ a b c, IsTupOf3 h TO a b c) ∧ IsTupOf3 h TI (.ref i1) (.ref i2) (.ref i3)) ∨
  ∃ a f oa, IsZipF h z TI TO a f ∧ h.get? a = some oa ∧ a ≠ z ∧ a ≠ S0 ∧ a ≠ i1 ∧ a ≠ i2 ∧ a ≠ i3 ∧ IsTupOf3 h TI (.ref i1) (.ref i2) (.ref i3)
theorem zip3_next {S0 : Addr} {Q : Option Value → Shared → Prop} (S : ZipSep3 z TI TO i1 i2 i3 fp1 fp2 fp3) (D1 : Draws prog w A.in1 i1 fp1 n1 P1 St1) (D2 : Draws prog w A.in1 i2 fp2 n2 P2 St2) (D3 : Draws prog w A.in1 i3 fp3 n3 P3 St3)
    (hz : Z3St S0 z TI TO i1 i2 i3 i s.heap) (hS : S0 < s.heap.objs.size) (st1 : St1 i s.heap) (st2 : St2 i s.heap) (st3 : St3 i s.heap) (hlt1 : i < n1) (hlt2 : i < n2) (hlt3 : i < n3)
    (hQ : ∀ x1 x2 x3 h' tk, P1 i x1 → P2 i x2 → P3 i x3 → Z3St S0 z TI TO i1 i2 i3 (i + 1) h' → St1 (i + 1) h' → St2 (i + 1) h' → St3 (i + 1) h' → IsTupOf3 h' s.heap.objs.size x1 x2 x3 → h'.objs.size = s.heap.objs.size + 1 →
      (∀ c o, c ≠ z → c ≠ TO → c ≠ i1 → c ≠ i2 → c ≠ i3 → s.heap.get? c = some o → h'.get? c = some o) → Q (some (.ref s.heap.objs.size)) { s with heap := h', toks := tk }) :
    wpAny (model prog w) A (pyNext (.ref z)) Q E s := by
  rcases hz with ⟨rfl, hz, ⟨a1, a2, a3, hTO⟩, hTI⟩ | ⟨a, f, oa, hz, ha, haz, haS, ha1, ha2, ha3, hTI⟩
  · refine wpAny_pyNext_zipD3_item S D1 D2 D3 hz hTI hTO st1 st2 st3 hlt1 hlt2 hlt3 fun x1 x2 x3 h' tk y1 y2 y3 b1 b2 d1 d2 d3 b5 b6 hk => ?_
    have lt : ∀ {c o}, s.heap.get? c = some o → s.heap.objs.size ≠ c := fun e => Nat.ne_of_gt (Heap.lt_size e)
    have l1 : s.heap.objs.size ≠ i1 := by obtain ⟨_, e⟩ := D1.live _ _ st1; exact lt e
    have l2 : s.heap.objs.size ≠ i2 := by obtain ⟨_, e⟩ := D2.live _ _ st2; exact lt e
    have l3 : s.heap.objs.size ≠ i3 := by obtain ⟨_, e⟩ := D3.live _ _ st3; exact lt e
    exact hQ x1 x2 x3 h' tk y1 y2 y3 (.inr ⟨_, false, _, b1, b5, lt hz, Nat.ne_of_gt hS, l1, l2, l3, hk _ _ S.TIz S.TITO S.TIi1 S.TIi2 S.TIi3 hTI⟩) d1 d2 d3 b5 b6 hk
  · have hT : s.TypeIs (.ref z) "zip" := ⟨_, hz, rfl⟩
    unfold pyNext
    exact wpAny_bind (wpAny_attempt (wpAny_callSpecial?_slot (name := Str.ofString "__next__") hT F.slot_zip_next
      (wpAny_call_entry F.slot_zip_next hT F.entry_zip_next
        (zip3_out_item S D1 D2 D3 hz ha haz hTI st1 st2 st3 hlt1 hlt2 hlt3 fun x1 x2 x3 h' tk y1 y2 y3 b1 d1 d2 d3 b5 b6 hk => wpAny_pure (hQ x1 x2 x3 h' tk y1 y2 y3
          (.inr ⟨a, true, oa, b1, hk _ _ haz ha1 ha2 ha3 ha, haz, haS, ha1, ha2, ha3, hk _ _ S.TIz S.TIi1 S.TIi2 S.TIi3 hTI⟩) d1 d2 d3 b5 b6 fun c o cz _ c1 c2 c3 e => hk c o cz c1 c2 c3 e)) (F.args_zip_next_1 _))))
theorem zip3_done {S0 : Addr} {Q : Option Value → Shared → Prop} (S : ZipSep3 z TI TO i1 i2 i3 fp1 fp2 fp3) (D1 : Draws prog w A.in1 i1 fp1 n1 P1 St1) (D2 : Draws prog w A.in1 i2 fp2 n2 P2 St2) (D3 : Draws prog w A.in1 i3 fp3 n3 P3 St3)
    (hz : Z3St S0 z TI TO i1 i2 i3 i s.heap) (st1 : St1 i s.heap) (st2 : St2 i s.heap) (st3 : St3 i s.heap) (hle1 : i ≤ n1) (hle2 : i ≤ n2) (hle3 : i ≤ n3) (hend : i = n1 ∨ i = n2 ∨ i = n3)
    (hQ : ∀ h' tk, (∀ c o, c ≠ z → c ≠ TO → c ≠ i1 → c ≠ i2 → c ≠ i3 → s.heap.get? c = some o → h'.get? c = some o) → Q none { s with heap := h', toks := tk }) : wpAny (model prog w) A (pyNext (.ref z)) Q E s := by
  rcases hz with ⟨rfl, hz, ⟨a1, a2, a3, hTO⟩, hTI⟩ | ⟨a, f, oa, hz, ha, haz, haS, ha1, ha2, ha3, hTI⟩
  · exact wpAny_pyNext_zipD3_end S D1 D2 D3 hz hTI hTO st1 st2 st3 hle1 hle2 hle3 hend hQ
  · have hT : s.TypeIs (.ref z) "zip" := ⟨_, hz, rfl⟩
    unfold pyNext
    refine wpAny_bind (wpAny_attempt (wpAny_callSpecial?_slot (name := Str.ofString "__next__") hT F.slot_zip_next
      (wpAny_call_entry F.slot_zip_next hT F.entry_zip_next (zip3_out_end S D1 D2 D3 hz ha hTI st1 st2 st3 hle1 hle2 hle3 hend fun h' tk e hk he => ?_) (F.args_zip_next_1 _))))
    obtain ⟨o, ho, hc⟩ := he
    refine wpAny_bind (wpAny_isInstance (T := "StopIteration") (b := true) ⟨o, ho, hc⟩ isSubtype_stop ?_)
    exact wpAny_pure (hQ _ _ fun c o cz _ c1 c2 c3 e => hk c o cz c1 c2 c3 e)
/-- the tuples so far -/
structure Z3G (P1 P2 P3 : Nat → Value → Prop) (S0 : Addr) (h : Heap) (as : List Addr) : Prop where
  above : ∀ a ∈ as, S0 < a
  here : ∀ (j : Nat) (a : Addr), as[j]? = some a → ∃ x1 x2 x3, P1 j x1 ∧ P2 j x2 ∧ P3 j x3 ∧ IsTupOf3 h a x1 x2 x3
end
section
variable {prog : Program} {w : World} {A : Around} {s : Shared} {R : Result → Shared → Prop} {z TI TO i1 i2 i3 : Addr} {fp1 fp2 fp3 : List Addr} {n1 n2 n3 n : Nat} {P1 P2 P3 : Nat → Value → Prop} {St1 St2 St3 : Nat → Heap → Prop}
theorem z3_loop {S0 : Addr} (S : ZipSep3 z TI TO i1 i2 i3 fp1 fp2 fp3) (D1 : Draws prog w A.in1.in1 i1 fp1 n1 P1 St1) (D2 : Draws prog w A.in1.in1 i2 fp2 n2 P2 St2) (D3 : Draws prog w A.in1.in1 i3 fp3 n3 P3 St3) (hn : n = min n1 (min n2 n3)) (hsz : n ≤ sizeLine)
    (low : z < S0 ∧ TI < S0 ∧ TO < S0 ∧ i1 < S0 ∧ i2 < S0 ∧ i3 < S0) (f1 : S0 ∉ fp1) (f2 : S0 ∉ fp2) (f3 : S0 ∉ fp3) (res : Value) {h₁ : Heap}
    (hR : ∀ h' tk acc c as, (∀ b o, b ≠ S0 → b ≠ z → b ≠ TO → b ≠ i1 → b ≠ i2 → b ≠ i3 → h₁.get? b = some o → h'.get? b = some o) → h'.get? S0 = some { cls := .type "list", dict := none, data := .seq acc c, slots := #[] } → as.length = n → Z3G P1 P2 P3 S0 h' as →
      acc.toList = as.map Value.ref → R (.ok (.ret res)) { s with heap := h', toks := tk }) :
    ∀ (k i : Nat) (h : Heap) (tk c : Nat) (acc : Array Value) (as : List Addr), n - i = k → i ≤ n → Z3St S0 z TI TO i1 i2 i3 i h → St1 i h → St2 i h → St3 i h → (∀ b o, b ≠ S0 → b ≠ z → b ≠ TO → b ≠ i1 → b ≠ i2 → b ≠ i3 → h₁.get? b = some o → h.get? b = some o) →
      h.get? S0 = some { cls := .type "list", dict := none, data := .seq acc c, slots := #[] } → acc.toList = as.map Value.ref → as.length = i → Z3G P1 P2 P3 S0 h as →
      codeAny (model prog w) A (.builtin "list.extend.loop" ⟨[.ref S0, .ref z, res], []⟩) R { s with heap := h, toks := tk } := by
  obtain ⟨l1, l2, l3, l4, l5, l6⟩ := low
  have ne : S0 ≠ z ∧ S0 ≠ TO ∧ S0 ≠ i1 ∧ S0 ≠ i2 ∧ S0 ≠ i3 := ⟨Nat.ne_of_gt l1, Nat.ne_of_gt l3, Nat.ne_of_gt l4, Nat.ne_of_gt l5, Nat.ne_of_gt l6⟩
  have hi : ∀ b, S0 < b → b ≠ z ∧ b ≠ TO ∧ b ≠ i1 ∧ b ≠ i2 ∧ b ≠ i3 := fun b hb => ⟨Nat.ne_of_gt (Nat.lt_trans l1 hb), Nat.ne_of_gt (Nat.lt_trans l3 hb), Nat.ne_of_gt (Nat.lt_trans l4 hb), Nat.ne_of_gt (Nat.lt_trans l5 hb), Nat.ne_of_gt (Nat.lt_trans l6 hb)⟩
  intro k
  induction k with
  | zero =>
    intro i h tk c acc as hk hi0 hst s1 s2 s3 hkeep hS hacc hal hG
    have hin : i = n := by omega
    refine codeAny_builtin PySem.F.entry_extend_loop ?_
    rw [Around.under_plainId PySem.F.plain_extend_loop _]
    show wpAny _ A.in1 (pyNext (.ref z) >>= _) _ _ _
    refine wpAny_bind (zip3_done (s := { s with heap := h, toks := tk }) (A := A.in1) S D1 D2 D3 hst s1 s2 s3 (by omega) (by omega) (by omega) (by omega) fun h' tk' he => ?_)
    refine wpAny_pure (hR h' tk' acc c as (fun b o h0 h1 h2 h3 h4 h5 e => he b o h1 h2 h3 h4 h5 (hkeep b o h0 h1 h2 h3 h4 h5 e)) (he S0 _ ne.1 ne.2.1 ne.2.2.1 ne.2.2.2.1 ne.2.2.2.2 hS) (by omega) ⟨hG.above, fun j a hj => ?_⟩ hacc)
    obtain ⟨x1, x2, x3, e1, e2, e3, e4⟩ := hG.here j a hj
    obtain ⟨q1, q2, q3, q4, q5⟩ := hi a (hG.above a (List.mem_of_getElem? hj))
    exact ⟨x1, x2, x3, e1, e2, e3, he a _ q1 q2 q3 q4 q5 e4⟩
  | succ k ih =>
    intro i h tk c acc as hk hi0 hst s1 s2 s3 hkeep hS hacc hal hG
    have hlt : i < n := by omega
    have hsz' : acc.size = i := by rw [← Array.length_toList, hacc, List.length_map, hal]
    have hSl : S0 < h.objs.size := Heap.lt_size hS
    refine codeAny_builtin PySem.F.entry_extend_loop ?_
    rw [Around.under_plainId PySem.F.plain_extend_loop _]
    show wpAny _ A.in1 (pyNext (.ref z) >>= _) _ _ _
    refine wpAny_bind (zip3_next (s := { s with heap := h, toks := tk }) (A := A.in1) S D1 D2 D3 hst hSl s1 s2 s3 (by omega) (by omega) (by omega) fun x1 x2 x3 h' tk' y1 y2 y3 hst' s1' s2' s3' ht hz hkp => ?_)
    dsimp only at ht hz hkp ⊢
    have hS' := hkp S0 _ ne.1 ne.2.1 ne.2.2.1 ne.2.2.2.1 ne.2.2.2.2 hS
    have up : ∀ b o, b ≠ S0 → h'.get? b = some o → (h'.update S0 (Obj.mapSeq (·.push (Value.ref h.objs.size)))).get? b = some o := fun b o hb e => (Heap.get?_update_other _ _ (Ne.symm hb)).trans e
    have hst2 : Z3St S0 z TI TO i1 i2 i3 (i + 1) (h'.update S0 (Obj.mapSeq (·.push (Value.ref h.objs.size)))) := by
      rcases hst' with ⟨e, _⟩ | ⟨a, f, oa, g1, g2, g3, g4, g5, g6, g7, g8⟩
      · omega
      · exact .inr ⟨a, f, oa, up _ _ ne.1.symm g1, up _ _ g4 g2, g3, g4, g5, g6, g7, up _ _ (Nat.ne_of_lt l2) g8⟩
    show wpAny _ A.in1 (updateSeq S0 (·.push (Value.ref h.objs.size)) >>= _) _ _ _
    refine wpAny_bind ?_
    refine wpAny_updateSeq hS' rfl (wpAny_pure ⟨plainId_quiet PySem.F.plain_extend_loop _, ih (i + 1) _ tk' _ (acc.push (Value.ref h.objs.size)) (as ++ [h.objs.size]) (by omega) hlt hst2 (D1.frame _ _ _ s1' fun b hb o e => up b o (fun q => f1 (q ▸ hb)) e) (D2.frame _ _ _ s2' fun b hb o e => up b o (fun q => f2 (q ▸ hb)) e) (D3.frame _ _ _ s3' fun b hb o e => up b o (fun q => f3 (q ▸ hb)) e)
      (fun b o h0 h1 h2 h3 h4 h5 e => up b o h0 (hkp b o h1 h2 h3 h4 h5 (hkeep b o h0 h1 h2 h3 h4 h5 e))) (Heap.get?_update_self _ hS' rfl) (by rw [Array.toList_push, hacc, List.map_append]; rfl) (by rw [List.length_append, hal]; rfl) ⟨?_, ?_⟩⟩) (by rw [hsz']; omega) (by show (acc.push (Value.ref h.objs.size)).size ≤ sizeLine + 1; rw [Array.size_push, hsz']; omega)
    · intro a ha
      rcases List.mem_append.mp ha with ha | ha
      · exact hG.above a ha
      · rw [List.mem_singleton.mp ha]; exact hSl
    · intro j b hj
      rcases Nat.lt_trichotomy j as.length with h1 | h1 | h1
      · rw [List.getElem?_append_left h1] at hj
        obtain ⟨v1, v2, v3, e1, e2, e3, e4⟩ := hG.here j b hj
        have hb := hG.above b (List.mem_of_getElem? hj)
        obtain ⟨q1, q2, q3, q4, q5⟩ := hi b hb
        exact ⟨v1, v2, v3, e1, e2, e3, up b _ (Nat.ne_of_gt hb) (hkp b _ q1 q2 q3 q4 q5 e4)⟩
      · subst h1
        have hb : h.objs.size = b := by simpa using hj
        subst hb
        exact ⟨x1, x2, x3, by rw [hal]; exact y1, by rw [hal]; exact y2, by rw [hal]; exact y3, up _ _ (Nat.ne_of_gt hSl) ht⟩
      · have hnone : (as ++ [h.objs.size])[j]? = none := List.getElem?_eq_none (by rw [List.length_append, List.length_singleton]; omega)
        rw [hnone] at hj; cases hj
end
theorem F.zip_no_len : typeLookup (.type "zip") "__len__" = pure none := by rw [typeLookup_type, builtinLookup_eq_fast]; kernel_rfl
theorem F.zip_no_hint : typeLookup (.type "zip") "__length_hint__" = pure none := by rw [typeLookup_type, builtinLookup_eq_fast]; kernel_rfl
section
variable {prog : Program} {w : World} {A : Around} {E : Value → Shared → Prop} {s : Shared} {R : Result → Shared → Prop} {z TI TO i1 i2 i3 : Addr} {fp1 fp2 fp3 : List Addr} {n1 n2 n3 n : Nat} {P1 P2 P3 : Nat → Value → Prop} {St1 St2 St3 : Nat → Heap → Prop} {b1 b2 b3 : Value}
theorem z3_extend {S0 : Addr} (S : ZipSep3 z TI TO i1 i2 i3 fp1 fp2 fp3) (D1 : Draws prog w A.in1.in1 i1 fp1 n1 P1 St1) (D2 : Draws prog w A.in1.in1 i2 fp2 n2 P2 St2) (D3 : Draws prog w A.in1.in1 i3 fp3 n3 P3 St3) (hn : n = min n1 (min n2 n3)) (hsz : n ≤ sizeLine)
    (low : z < S0 ∧ TI < S0 ∧ TO < S0 ∧ i1 < S0 ∧ i2 < S0 ∧ i3 < S0) (f1 : S0 ∉ fp1) (f2 : S0 ∉ fp2) (f3 : S0 ∉ fp3) (res : Value) (c₀ : Nat)
    (hz : IsZip s.heap z TI TO .none) (hTI : IsTupOf3 s.heap TI (.ref i1) (.ref i2) (.ref i3)) (hTO : IsTupOf3 s.heap TO b1 b2 b3) (st1 : St1 0 s.heap) (st2 : St2 0 s.heap) (st3 : St3 0 s.heap)
    (hS : s.heap.get? S0 = some { cls := .type "list", data := .seq #[] c₀ })
    (hR : ∀ h' tk acc c as, (∀ b o, b ≠ S0 → b ≠ z → b ≠ TO → b ≠ i1 → b ≠ i2 → b ≠ i3 → s.heap.get? b = some o → h'.get? b = some o) → h'.get? S0 = some { cls := .type "list", dict := none, data := .seq acc c, slots := #[] } → as.length = n → Z3G P1 P2 P3 S0 h' as →
      acc.toList = as.map Value.ref → R (.ok (.ret res)) { s with heap := h', toks := tk }) :
    wpAny (model prog w) A.in1 (Builtin.List.listExtendWith (.ref S0) (.ref z) res)
      (fun fin s' => match fin with | .done f => R (.ok f) s' | .again c' => c'.quiet = true ∧ codeAny (model prog w) A c' R s') (fun e s' => R (.error e) s') s := by
  have hT : s.TypeIs (.ref z) "zip" := ⟨_, hz, rfl⟩
  have hSz : S0 ≠ z := Nat.ne_of_gt low.1
  unfold Builtin.List.listExtendWith
  refine wpAny_bind (wpAny_typeOf hT ?_)
  have h1 : Builtin.List.listSameRef (.ref S0) (.ref z) = false := by simp [Builtin.List.listSameRef, hSz]
  have h2 : (Value.type "zip" == Value.type "list") = false := by decide
  have h3 : (Value.type "zip" == Value.type "tuple") = false := by decide
  simp only [h1, h2, h3, Bool.or_false, Bool.false_eq_true, if_false]
  refine wpAny_bind (wpAny_pyIter_zip hz ?_)
  refine wpAny_bind (wpAny_holding ?_)
  unfold Builtin.List.listLengthHint
  refine wpAny_bind (wpAny_specialOf hT F.zip_no_len ?_)
  show wpAny _ A.in1 (specialOf (Value.ref z) (Str.ofString "__length_hint__") >>= _) _ _ _
  refine wpAny_bind (wpAny_specialOf hT F.zip_no_hint ?_)
  refine wpAny_pure ?_
  show wpAny _ A.in1 (rule "list.extend.makes-room" >>= fun _ => Builtin.List.listTouch (.ref S0) >>= fun _ =>
    again (.builtin "list.extend.loop" ⟨[.ref S0, .ref z, res], []⟩)) _ _ _
  refine wpAny_bind (wpAny_rule ?_)
  refine wpAny_bind ?_
  show wpAny _ A.in1 (updateSeq S0 (·.push .none) >>= fun _ => updateSeq S0 (·.pop)) _ _ _
  refine wpAny_bind (wpAny_updateSeq hS rfl ?_)
  have hS₂ := Heap.get?_update_self (Obj.mapSeq (·.push Value.none)) hS rfl
  refine wpAny_updateSeq (hz := by seq_fits) hS₂ rfl ?_
  have hS₃ := Heap.get?_update_self (Obj.mapSeq (·.pop)) hS₂ rfl
  have oth : ∀ b o, b ≠ S0 → s.heap.get? b = some o → ((s.heap.update S0 (Obj.mapSeq (·.push Value.none))).update S0 (Obj.mapSeq (·.pop))).get? b = some o :=
    fun b o hb e => (Heap.get?_update_other _ _ (Ne.symm hb)).trans ((Heap.get?_update_other _ _ (Ne.symm hb)).trans e)
  refine wpAny_pure ⟨plainId_quiet F.plain_extend_loop _, z3_loop (h₁ := s.heap) S D1 D2 D3 hn hsz low f1 f2 f3 res hR n 0 _ s.toks _ #[] [] (by omega) (Nat.zero_le _)
    (.inl ⟨rfl, oth _ _ hSz.symm hz, ⟨_, _, _, oth _ _ (Nat.ne_of_lt low.2.2.1) hTO⟩, oth _ _ (Nat.ne_of_lt low.2.1) hTI⟩) (D1.frame _ _ _ st1 fun b hb o e => oth b o (fun q => f1 (q ▸ hb)) e) (D2.frame _ _ _ st2 fun b hb o e => oth b o (fun q => f2 (q ▸ hb)) e) (D3.frame _ _ _ st3 fun b hb o e => oth b o (fun q => f3 (q ▸ hb)) e)
    (fun b o h0 _ _ _ _ _ e => oth b o h0 e) hS₃ rfl rfl ⟨(fun _ ha => nomatch ha), fun j a hj => by simp at hj⟩⟩
theorem z3_list {Q : Value → Shared → Prop} (S : ZipSep3 z TI TO i1 i2 i3 fp1 fp2 fp3) (D1 : Draws prog w A.in1.in1.in1 i1 fp1 n1 P1 St1) (D2 : Draws prog w A.in1.in1.in1 i2 fp2 n2 P2 St2) (D3 : Draws prog w A.in1.in1.in1 i3 fp3 n3 P3 St3) (hn : n = min n1 (min n2 n3)) (hsz : n ≤ sizeLine)
    (g1 : ∀ b ∈ fp1, b < s.heap.objs.size) (g2 : ∀ b ∈ fp2, b < s.heap.objs.size) (g3 : ∀ b ∈ fp3, b < s.heap.objs.size)
    (hz : IsZip s.heap z TI TO .none) (hTI : IsTupOf3 s.heap TI (.ref i1) (.ref i2) (.ref i3)) (hTO : IsTupOf3 s.heap TO b1 b2 b3) (st1 : St1 0 s.heap) (st2 : St2 0 s.heap) (st3 : St3 0 s.heap)
    (hQ : ∀ h' tk acc c as, (∀ b o, b ≠ z → b ≠ TO → b ≠ i1 → b ≠ i2 → b ≠ i3 → s.heap.get? b = some o → h'.get? b = some o) → h'.get? s.heap.objs.size = some { cls := .type "list", dict := none, data := .seq acc c, slots := #[] } → as.length = n → Z3G P1 P2 P3 s.heap.objs.size h' as →
      acc.toList = as.map Value.ref → Q (.ref s.heap.objs.size) { s with heap := h', toks := tk }) :
    wpAny (model prog w) A (call (.type "list") [.ref z]) Q E s := by
  refine callType_codes (Q₁ := fun obj s₁ => obj = .ref s.heap.objs.size ∧ s₁ = { s with heap := s.heap.push { cls := .type "list", data := .seq #[] } }) F.called_list (F.typeCall_list_1 _) F.entry_list_init
    (code_list_new _ ⟨rfl, rfl⟩) fun obj s₁ h₁ => ?_
  obtain ⟨rfl, rfl⟩ := h₁
  have hS : (s.heap.push { cls := .type "list", data := .seq #[] }).get? s.heap.objs.size = some { cls := .type "list", data := .seq #[] } := Heap.get?_push_size _ rfl
  refine ⟨⟨_, hS, rfl⟩, F.args_list_init_2 _ _, ?_⟩
  show wpAny _ A.in1.in1 (do let old ← Builtin.List.listItems (.ref s.heap.objs.size); Builtin.List.listUpdate (.ref s.heap.objs.size) (fun _ => #[]); letGo old.toList.reverse; Builtin.List.listExtendWith (.ref s.heap.objs.size) (.ref z) .none) _ _ _
  refine wpAny_bind ?_
  unfold Builtin.List.listItems
  refine wpAny_bind (wpAny_seqItems hS rfl (wpAny_pure ?_))
  show wpAny _ A.in1.in1 (updateSeq s.heap.objs.size (fun _ => #[]) >>= fun _ => letGo (#[] : Array Value).toList.reverse >>= fun _ => Builtin.List.listExtendWith (.ref s.heap.objs.size) (.ref z) .none) _ _ _
  refine wpAny_bind (wpAny_updateSeq hS rfl ?_)
  have hS₂ := Heap.get?_update_self (Obj.mapSeq (fun _ => (#[] : Array Value))) hS rfl
  have oth : ∀ b o, b ≠ s.heap.objs.size → s.heap.get? b = some o → ((s.heap.push { cls := .type "list", data := .seq #[] }).update s.heap.objs.size (Obj.mapSeq (fun _ => (#[] : Array Value)))).get? b = some o :=
    fun b o hb e => (Heap.get?_update_other _ _ (Ne.symm hb)).trans (Heap.get?_push_of_some _ e)
  have lt : ∀ {b o}, s.heap.get? b = some o → b < s.heap.objs.size := fun e => Heap.lt_size e
  have li1 : i1 < s.heap.objs.size := g1 _ S.mem1
  have li2 : i2 < s.heap.objs.size := g2 _ S.mem2
  have li3 : i3 < s.heap.objs.size := g3 _ S.mem3
  have f1 : s.heap.objs.size ∉ fp1 := fun h => Nat.lt_irrefl _ (g1 _ h)
  have f2 : s.heap.objs.size ∉ fp2 := fun h => Nat.lt_irrefl _ (g2 _ h)
  have f3 : s.heap.objs.size ∉ fp3 := fun h => Nat.lt_irrefl _ (g3 _ h)
  refine wpAny_bind (wpAny_letGo ?_)
  refine z3_extend (A := A.in1) (n := n) S D1 D2 D3 hn hsz ⟨lt hz, lt hTI, lt hTO, li1, li2, li3⟩ f1 f2 f3 .none _ (oth _ _ (Nat.ne_of_lt (lt hz)) hz) (oth _ _ (Nat.ne_of_lt (lt hTI)) hTI) (oth _ _ (Nat.ne_of_lt (lt hTO)) hTO)
    (D1.frame _ _ _ st1 fun b hb o e => oth b o (fun q => f1 (q ▸ hb)) e) (D2.frame _ _ _ st2 fun b hb o e => oth b o (fun q => f2 (q ▸ hb)) e) (D3.frame _ _ _ st3 fun b hb o e => oth b o (fun q => f3 (q ▸ hb)) e) hS₂ fun h' tk acc c as hk hS' hl hG hacc => ?_
  exact ⟨rfl, hQ h' tk acc c as (fun b o h1 h2 h3 h4 h5 e => hk b o (Nat.ne_of_lt (lt e)) h1 h2 h3 h4 h5 (oth b o (Nat.ne_of_lt (lt e)) e)) hS' hl hG hacc⟩
end
end PySem
set_option synthInstance.maxSize 100000
set_option synthInstance.maxHeartbeats 4000000
set_option Elab.async false
set_option linter.all false
set_option maxRecDepth 100000
set_option maxHeartbeats 4000000
set_option autoImplicit false
/-! Ez4: list(zip(..)) as a rule, over data. -/
namespace Dx
open PySem PySem.Spec PyProof.Rows L2
section
variable {X : Cx} {pins : List (Addr × Obj)} {σ : L2.St} {H H2 : Hp} {s : Shared} {h' : Heap}
/-- several new objects are tracked -/
theorem Inv.laidM {t' : Nat} (I : Inv X pins σ H s) (k : ∀ b u, s.heap.get? b = some u → h'.get? b = some u) (sm : Same H H2) (old : ∀ b, b < s.heap.objs.size → H2 b = H b) (new : ∀ b o, s.heap.objs.size ≤ b → H2 b = some o → ObjOk X.prog X.w H2 h' b o) :
    Inv X pins σ H2 { s with heap := h', toks := t' } :=
  I.un ⟨fun b u q _ _ _ => k b u q, fun b u q _ _ _ => ⟨u.slots, k b u q⟩, fun b u q n _ => by rw [old b (Heap.lt_size q)]; exact n, fun b u q _ => ⟨u, k b u q⟩, fun b xs q => sm _ _ q, fun b u xs q => sm _ _ q, fun b ps q => ⟨#[], by rw [sm _ _ q]; simp⟩⟩
    fun b o e => by
      rcases Nat.lt_or_ge b s.heap.objs.size with hb | hb
      · rw [old b hb] at e
        exact (I.hok b o e).stay (fun c u _ q => k c u q) (fun c q => sm _ _ q) fun c xs q => sm _ _ q
      · exact new b o hb e
theorem relV_fun {x y : V} {u : Value} (h : RelV x u) (g : RelV y u) : x = y := by
  have e := h.abs
  rw [g.abs] at e
  exact (Option.some.inj e).symm
theorem valsGet : ∀ {xs : List V} {us : List Value} {i : Nat} {u : Value}, Vals xs us → us[i]? = some u → ∃ x, xs[i]? = some x ∧ RelV x u
  | [], _, i, u, h, e => by cases h; simp at e
  | x :: xs, _, i, u, h, e => by
    cases h with
    | cons h1 h2 =>
      cases i with
      | zero => simp at e; subst e; exact ⟨x, rfl, h1⟩
      | succ i =>
        obtain ⟨y, a, b⟩ := valsGet h2 (by simpa using e)
        exact ⟨y, by simpa using a, b⟩
def tListZip3 (K : PySem.W.Frag) (ta : TA) : TE := fun σ H Q => ta σ H fun vs H1 => ∃ a b c xs ys zs, vs = [.ref a, .ref b, .ref c] ∧ SqL K H1 a xs ∧ SqL K H1 b ys ∧ SqL K H1 c zs ∧
  ∀ (p : Addr) (as : List Addr) (H2 : Hp), Same H1 H2 → H1 p = none → H2 p = some (.lst (as.map V.ref)) → as.length = min xs.length (min ys.length zs.length) →
    (∀ (j : Nat) (t : Addr), as[j]? = some t → H1 t = none ∧ t ≠ p ∧ ∃ x y z, xs[j]? = some x ∧ ys[j]? = some y ∧ zs[j]? = some z ∧ H2 t = some (.tup [x, y, z])) → (∀ b, b ≠ p → b ∉ as → H2 b = H1 b) → Q (.ref p) H2
theorem pe_listZip3 {K : PySem.W.Frag} {e1 e2 e3 : Expr} {ta : TA} {p p2 pos pos2 : Pos} (hc : X.calm = true) (hg : Gl X "list") (hm : X.mg "list" = none) (hg2 : Gl X "zip") (hm2 : X.mg "zip" = none) (ha : PA X [e1, e2, e3] ta)
    (na : starEach [Expr.Call (.Name "zip" p2) [e1, e2, e3] [] pos2] X.env = (false, eval (Expr.Call (.Name "zip" p2) [e1, e2, e3] [] pos2) X.env) :: starEach [] X.env := by rfl)
    (hs : starEach [e1, e2, e3] X.env = (false, eval e1 X.env) :: starEach [e2, e3] X.env := by rfl) (hpl : (backTo pos2 (starEach [e2, e3] X.env)).any (·.1) = false := by rfl) (hk : X.K = K := by rfl) :
    PE X (.Call (.Name "list" p) [.Call (.Name "zip" p2) [e1, e2, e3] [] pos2] [] pos) (tListZip3 K ta) := by
  subst hk
  refine ⟨fun pins s σ H Q I h => ?_⟩
  refine Call_ (ld_blt I hg hm boot_list (PyProof.Rows.callWith_type1 (args_cons (Call_ (ld_blt I hg2 hm2 PyProof.Rows.boot_zip (PyProof.Rows.callWith_type1 (thn (ha.run pos2 pins s σ H _ I h) fun us s1 ⟨vs, H1, I1, r1, q1⟩ => ?_) hs hpl))) na) na))
  obtain ⟨a, b, c, xs, ys, zs, rfl, hqx, hqy, hqz, q⟩ := q1
  cases r1 with
  | cons r rr =>
  cases rr with
  | cons r' rr =>
  cases rr with
  | cons r'' rr =>
  cases rr
  cases r
  cases r'
  cases r''
  obtain ⟨its, rv, pl, hz1⟩ := I1.list hqx
  obtain ⟨its2, rv2, pl2, hz2⟩ := I1.list hqy
  obtain ⟨its3, rv3, pl3, hz3⟩ := I1.list hqz
  have hl := pl.isList
  have hl2 := pl2.isList
  have hl3 := pl3.isList
  have la : a < s1.heap.objs.size := by obtain ⟨o, ho, _⟩ := hl; exact Heap.lt_size ho
  have lb : b < s1.heap.objs.size := by obtain ⟨o, ho, _⟩ := hl2; exact Heap.lt_size ho
  have lc : c < s1.heap.objs.size := by obtain ⟨o, ho, _⟩ := hl3; exact Heap.lt_size ho
  have hh : X.A.in1.handled = none := I1.ok.hd hc
  refine zip_begins3 (begins_list a its.toArray) (begins_list b its2.toArray) (begins_list c its3.toArray) hl hl2 hl3 fun g hz hTI hTO ho1 ho2 ho3 hsz hkp => args_nil ?_
  generalize hN : s1.heap.objs.size = N at hz hTI hTO ho1 ho2 ho3 hsz la lb lc
  have S : ZipSep3 (N + 5) (N + 3) (N + 4) N (N + 1) (N + 2) [N, a] [N + 1, b] [N + 2, c] := by
    have ka : ∀ k, ¬ N + k = a := fun k => Nat.ne_of_gt (Nat.lt_of_lt_of_le la (Nat.le_add_right N k))
    have kb : ∀ k, ¬ N + k = b := fun k => Nat.ne_of_gt (Nat.lt_of_lt_of_le lb (Nat.le_add_right N k))
    have kc : ∀ k, ¬ N + k = c := fun k => Nat.ne_of_gt (Nat.lt_of_lt_of_le lc (Nat.le_add_right N k))
    constructor <;> simp <;> first | omega | exact ka _ | exact kb _ | exact kc _ | exact ka 0 | exact kb 0 | exact kc 0
  have kl1 : g.IsList a its.toArray := hl.at fun o e => hkp a o e
  have kl2 : g.IsList b its2.toArray := hl2.at fun o e => hkp b o e
  have kl3 : g.IsList c its3.toArray := hl3.at fun o e => hkp c o e
  have n1 := rv.length
  have n2 := rv2.length
  have n3 := rv3.length
  refine z3_list (s := { s1 with heap := g }) (n := min its.toArray.size (min its2.toArray.size its3.toArray.size)) S (Draws.list (A := X.A.in1.in1.in1) hh N a (Nat.ne_of_lt la) its.toArray) (Draws.list (A := X.A.in1.in1.in1) hh (N + 1) b (Nat.ne_of_lt (Nat.lt_of_lt_of_le lb (Nat.le_add_right ..))) its2.toArray) (Draws.list (A := X.A.in1.in1.in1) hh (N + 2) c (Nat.ne_of_lt (Nat.lt_of_lt_of_le lc (Nat.le_add_right ..))) its3.toArray) rfl (by rw [List.size_toArray, List.size_toArray, List.size_toArray]; omega)
    (fun x hx => ?_) (fun x hx => ?_) (fun x hx => ?_) hz hTI hTO ⟨⟨_, ho1, rfl, rfl⟩, kl1⟩ ⟨⟨_, ho2, rfl, rfl⟩, kl2⟩ ⟨⟨_, ho3, rfl, rfl⟩, kl3⟩ fun h' tk acc cc as hk hS hlen hG hacc => ?_
  · show x < g.objs.size
    have : x = N ∨ x = a := by simpa using hx
    rw [hsz]
    rcases this with e | e
    · rw [e]; exact (show N < N + 6 by omega)
    · rw [e]; exact Nat.lt_of_lt_of_le la (Nat.le_add_right N 6)
  · show x < g.objs.size
    have : x = N + 1 ∨ x = b := by simpa using hx
    rw [hsz]
    rcases this with e | e
    · rw [e]; exact (show N + 1 < N + 6 by omega)
    · rw [e]; exact Nat.lt_of_lt_of_le lb (Nat.le_add_right N 6)
  · show x < g.objs.size
    have : x = N + 2 ∨ x = c := by simpa using hx
    rw [hsz]
    rcases this with e | e
    · rw [e]; exact (show N + 2 < N + 6 by omega)
    · rw [e]; exact Nat.lt_of_lt_of_le lc (Nat.le_add_right N 6)
  have hk' : ∀ d o, s1.heap.get? d = some o → h'.get? d = some o := fun d o e => by
    have hd : d < N := by rw [← hN]; exact Heap.lt_size e
    have kd : ∀ k, d ≠ N + k := fun k => Nat.ne_of_lt (Nat.lt_of_lt_of_le hd (Nat.le_add_right N k))
    exact hk d o (kd 5) (kd 4) (kd 0) (kd 1) (kd 2) (hkp d o e)
  have hN6 : s1.heap.objs.size ≤ g.objs.size := by rw [hsz, hN]; omega
  have hp : H1 g.objs.size = none := I1.hok.fresh hN6
  have above : ∀ t ∈ as, g.objs.size < t := fun t ht => hG.above t ht
  have key : ∀ t : Addr, ∃ us : List V, ∀ j, as[j]? = some t → ∃ x y z, us = [x, y, z] ∧ xs[j]? = some x ∧ ys[j]? = some y ∧ zs[j]? = some z ∧ ObjOk X.prog X.w H1 h' t (.tup [x, y, z]) := fun t => by
    by_cases ht : t ∈ as
    · obtain ⟨j, hj⟩ := List.mem_iff_getElem?.mp ht
      obtain ⟨u1, u2, u3, p1, p2, p3, p4⟩ := hG.here j t hj
      have p1 : its[j]? = some u1 := by simpa using p1
      have p2 : its2[j]? = some u2 := by simpa using p2
      have p3 : its3[j]? = some u3 := by simpa using p3
      obtain ⟨x, x1, x2⟩ := valsGet rv p1
      obtain ⟨y, y1, y2⟩ := valsGet rv2 p2
      obtain ⟨z, z1, z2⟩ := valsGet rv3 p3
      refine ⟨[x, y, z], fun k hk => ?_⟩
      obtain ⟨w1, w2, w3, q1, q2, q3, q4⟩ := hG.here k t hk
      have q1 : its[k]? = some w1 := by simpa using q1
      have q2 : its2[k]? = some w2 := by simpa using q2
      have q3 : its3[k]? = some w3 := by simpa using q3
      obtain ⟨x', x3, x4⟩ := valsGet rv q1
      obtain ⟨y', y3, y4⟩ := valsGet rv2 q2
      obtain ⟨z', z3, z4⟩ := valsGet rv3 q3
      rw [show IsTupOf3 h' t u1 u2 u3 ↔ _ from Iff.rfl] at p4
      have e : (some { cls := .type "tuple", data := .seq #[u1, u2, u3] } : Option Obj) = some { cls := .type "tuple", data := .seq #[w1, w2, w3] } := p4.symm.trans q4
      injection e with e
      injection e with _ _ e
      injection e with e
      injection e with e
      injection e with e1 e
      injection e with e2 e
      injection e with e3 e
      subst e1 e2 e3
      rw [relV_fun x4 x2] at x3
      rw [relV_fun y4 y2] at y3
      rw [relV_fun z4 z2] at z3
      exact ⟨x, y, z, rfl, x3, y3, z3, (by show 3 ≤ sizeLine; decide), [u1, u2, u3], .cons x2 (.cons y2 (.cons z2 .nil)), ⟨_, p4, rfl, 0, rfl⟩⟩
    · exact ⟨[], fun j hj => absurd (List.mem_of_getElem? hj) ht⟩
  obtain ⟨ct, hct⟩ := Classical.axiomOfChoice key
  let H2 : Hp := fun d => if d = g.objs.size then some (.lst (as.map V.ref)) else if d ∈ as then some (.tup (ct d)) else H1 d
  have hH2 : ∀ d, H2 d = if d = g.objs.size then some (.lst (as.map V.ref)) else if d ∈ as then some (.tup (ct d)) else H1 d := fun _ => rfl
  have old : ∀ d, d < g.objs.size → H2 d = H1 d := fun d hd => by
    rw [hH2, if_neg (Nat.ne_of_lt hd), if_neg (fun hm => Nat.lt_irrefl _ (Nat.lt_trans hd (above d hm)))]
  have sm : Same H1 H2 := fun d o e => by
    rw [old d (Nat.lt_of_lt_of_le (I1.hok.lt e) hN6)]
    exact e
  have hp2 : H2 g.objs.size = some (.lst (as.map V.ref)) := by rw [hH2, if_pos rfl]
  have ht2 : ∀ t ∈ as, H2 t = some (.tup (ct t)) := fun t ht => by rw [hH2, if_neg (Nat.ne_of_gt (above t ht)), if_pos ht]
  have accl : Vals (as.map V.ref) acc.toList := by
    rw [hacc]
    clear hacc hlen hG above key hct ht2 hp2 sm old hH2 H2 ct
    induction as with
    | nil => exact .nil
    | cons t as ih => exact .cons rfl ih
  have hsz0 : as.length ≤ sizeLine := by
    rw [hlen, List.size_toArray, List.size_toArray, List.size_toArray]
    omega
  have I2 : Inv X pins σ H2 { s1 with heap := h', toks := tk } := Inv.laidM I1 hk' sm (fun d hd => old d (Nat.lt_of_lt_of_le hd hN6)) fun d o hd e => by
    rw [hH2] at e
    by_cases h1 : d = g.objs.size
    · rw [if_pos h1] at e
      cases e
      subst h1
      exact ⟨by rw [List.length_map]; exact hsz0, acc.toList, cc, accl, by rw [Array.toArray_toList]; exact hS⟩
    · rw [if_neg h1] at e
      by_cases h2 : d ∈ as
      · rw [if_pos h2] at e
        cases e
        obtain ⟨j, hj⟩ := List.mem_iff_getElem?.mp h2
        obtain ⟨x, y, z, e1, _, _, _, ok⟩ := hct d j hj
        rw [e1]
        exact ok.stay (fun _ _ _ q => q) (fun c q => sm _ _ q) fun c xs q => sm _ _ q
      · rw [if_neg h2, I1.hok.fresh hd] at e
        cases e
  refine ⟨.ref g.objs.size, H2, I2, rfl, q g.objs.size as H2 sm hp hp2 (by rw [hlen, List.size_toArray, List.size_toArray, List.size_toArray]; omega) (fun j t hj => ?_) fun d h1 h2 => ?_⟩
  · have hm := List.mem_of_getElem? hj
    have ha := above t hm
    obtain ⟨x, y, z, e1, e2, e3, e4, _⟩ := hct t j hj
    exact ⟨I1.hok.fresh (Nat.le_trans hN6 (Nat.le_of_lt ha)), Nat.ne_of_gt ha, x, y, z, e2, e3, e4, by rw [ht2 t hm, e1]⟩
  · rw [hH2, if_neg h1, if_neg h2]
end
section
variable {K : PySem.W.Frag} {W : WX} {Γ : Ga} {B B' : Hp} {ρ : Ab} {σ : L2.St} {H H' : Hp}
def zip3D : List D → List D → List D → List D
  | x :: xs, y :: ys, z :: zs => .trk [x, y, z] :: zip3D xs ys zs
  | _, _, _ => []
theorem zip3D_len : ∀ {xs ys zs : List D}, (zip3D xs ys zs).length = min xs.length (min ys.length zs.length)
  | [], _, _ => by simp [zip3D]
  | _ :: _, [], _ => by simp [zip3D]
  | _ :: _, _ :: _, [] => by simp [zip3D]
  | x :: xs, y :: ys, z :: zs => by
    unfold zip3D
    rw [List.length_cons, zip3D_len, List.length_cons, List.length_cons, List.length_cons]
    omega
theorem zip3D_get : ∀ {xs ys zs : List D} {j : Nat} {x y z : D}, xs[j]? = some x → ys[j]? = some y → zs[j]? = some z → (zip3D xs ys zs)[j]? = some (.trk [x, y, z])
  | [], _, _, j, x, y, z, h, _, _ => by simp at h
  | _ :: _, [], _, j, x, y, z, _, h, _ => by simp at h
  | _ :: _, _ :: _, [], j, x, y, z, _, _, h => by simp at h
  | x' :: xs, y' :: ys, z' :: zs, 0, x, y, z, h1, h2, h3 => by
    simp at h1 h2 h3
    subst h1 h2 h3
    rfl
  | x' :: xs, y' :: ys, z' :: zs, j + 1, x, y, z, h1, h2, h3 => by
    show (zip3D xs ys zs)[j]? = _
    exact zip3D_get (by simpa using h1) (by simpa using h2) (by simpa using h3)
theorem DrA.of_get : ∀ {vs : List V} {ds : List D}, vs.length = ds.length → (∀ (j : Nat) (v : V) (d : D), vs[j]? = some v → ds[j]? = some d → Dr K B v d) → DrA K B vs ds
  | [], [], _, _ => .nil
  | [], _ :: _, h, _ => by simp at h
  | _ :: _, [], h, _ => by simp at h
  | v :: vs, d :: ds, h, k => .cons (k 0 v d rfl rfl) (DrA.of_get (by simpa using h) fun j w e h1 h2 => k (j + 1) w e (by simpa using h1) (by simpa using h2))
theorem DrA.three {vs : List V} {d e f : D} (h : DrA K B vs [d, e, f]) : ∃ v u w, vs = [v, u, w] ∧ Dr K B v d ∧ Dr K B u e ∧ Dr K B w f := by
  cases h with | cons h1 h2 => cases h2 with | cons h3 h4 => cases h4 with | cons h5 h6 => cases h6; exact ⟨_, _, _, rfl, h1, h3, h5⟩
instance rff_zip3 {ta : TA} {pa : PAx} [ha : RfA K W ta pa] : RfF K W (tListZip3 K ta) (fun ρ Ξ Φ => pa ρ Ξ fun as ρ1 => ∃ ds, as = ds.map .pu ∧ ∃ d e f xs ys zs, ds = [d, e, f] ∧ d.seq = some xs ∧ e.seq = some ys ∧ f.seq = some zs ∧ Φ (.lst (zip3D xs ys zs)) ρ1) where
  run := fun Γ B ρ σ H Q Ξ Φ r xo h po => ha.run Γ B ρ σ H _ Ξ _ r xo h fun vs as B1 H1 ρ1 r1 s1 aso hq => by
    obtain ⟨ds, rfl, d, e, f, xs, ys, zs, rfl, e1, e2, e3, hq⟩ := hq
    obtain ⟨v, u, w, rfl, d1, d2, d3⟩ := (ArsOk.pure (ds := [d, e, f]) aso).three
    obtain ⟨a, vx, rfl, a1, a2⟩ := d1.seq_inv e1
    obtain ⟨b, vy, rfl, b1, b2⟩ := d2.seq_inv e2
    obtain ⟨c, vz, rfl, c1, c2⟩ := d3.seq_inv e3
    refine ⟨a, b, c, vx, vy, vz, rfl, r1.bh.seq a1, r1.bh.seq b1, r1.bh.seq c1, fun p ts H2 sm hp hl hlen ht hr => ?_⟩
    let B2 : Hp := fun t => if t ∈ ts then H2 t else B1 t
    have hB2 : ∀ t, B2 t = if t ∈ ts then H2 t else B1 t := fun _ => rfl
    have hn : ∀ t ∈ ts, H1 t = none ∧ t ≠ p ∧ ∃ us, H2 t = some (.tup us) := fun t hm => by
      obtain ⟨j, hj⟩ := List.mem_iff_getElem?.mp hm
      obtain ⟨q1, q2, x, y, z, _, _, _, q3⟩ := ht j t hj
      exact ⟨q1, q2, _, q3⟩
    have sB : Same B1 B2 := fun t o e => by
      rw [hB2, if_neg (fun hm => by have := (hn t hm).1; rw [r1.bh t o e] at this; cases this)]
      exact e
    have s2 : Same B2 H2 := fun t o e => by
      rw [hB2] at e
      by_cases hm : t ∈ ts
      · rw [if_pos hm] at e; exact e
      · rw [if_neg hm] at e; exact sm t o (r1.bh t o e)
    have al : Al K B1 H1 B2 H2 := Al.of sB sm fun t o e => by
      rw [hB2] at e
      by_cases hm : t ∈ ts
      · rw [if_pos hm] at e
        obtain ⟨q1, q2, us, q3⟩ := hn t hm
        rw [q3] at e
        cases e
        exact .inr ⟨q1, q3, fun _ _ _ _ z => nomatch z⟩
      · rw [if_neg hm] at e; exact .inl e
    have r2 := r1.al al s2
    have fr := r1.fre hp
    refine po p (.lst (ts.map V.ref)) (.lst (zip3D xs ys zs)) B2 H2 ρ1 r2 (s1.trans sB) ⟨?_, fr.g, fr.h, fr.s⟩ hl (.lst (DrA.of_get ?_ fun j v d h1 h2 => ?_)) hq
    · rw [hB2, if_neg (fun hm => (hn p hm).2.1 rfl)]
      exact fr.b
    · rw [List.length_map, hlen, zip3D_len, a2.length, b2.length, c2.length]
    · rw [List.getElem?_map] at h1
      obtain ⟨t, hj, rfl⟩ := Option.map_eq_some_iff.mp h1
      obtain ⟨q1, q2, x, y, z, g1, g2, g3, q3⟩ := ht j t hj
      obtain ⟨dx, k1, k2⟩ := a2.get' g1
      obtain ⟨dy, k3, k4⟩ := b2.get' g2
      obtain ⟨dz, k5, k6⟩ := c2.get' g3
      rw [zip3D_get k1 k3 k5] at h2
      cases h2
      refine .trk (xs := [x, y, z]) ?_ (.cons (k2.mono sB) (.cons (k4.mono sB) (.cons (k6.mono sB) .nil)))
      rw [hB2, if_pos (List.mem_of_getElem? hj)]
      exact q3
/-- a thing of one's own is handed out -/
def tVarF (i : Nat) : TE := tVar i
theorem _root_.L2.PE.varF {X : Cx} {e : Expr} {i : Nat} (h : PE X e (tVar i)) : PE X e (tVarF i) := h
instance rff_varF {i : Nat} : RfF K W (tVarF i) (fun ρ _ Φ => ∃ c, ρ[i]? = some (some (.ow false c)) ∧ Φ c (ρ.set i none)) where
  run := fun Γ B ρ σ H Q Ξ Φ r _ h po => by
    obtain ⟨c, e, h⟩ := h
    obtain ⟨a, o, h1, h2, h3, h4, h5, h6, h7⟩ := r.ow i false c e
    refine ⟨.ref a, h1, po a o c B H _ (r.forget i) (Same.refl _) ⟨h4, h7 rfl, h5, fun j p e' z w => ?_⟩ h2 h3 h⟩
    have hj : i ≠ j := fun q => by
      subst q
      rw [List.getElem?_set_self (lt_of_some e)] at z
      cases z
    rw [List.getElem?_set_ne hj] at z
    exact hj (r.ne i j false p c e' e z (by rw [h1, w]))
end
end Dx
set_option synthInstance.maxSize 100000
set_option synthInstance.maxHeartbeats 4000000
set_option Elab.async false
set_option linter.all false
set_option maxRecDepth 100000
set_option maxHeartbeats 4000000
set_option autoImplicit false
namespace K06
open PySem L2 Dx Kd
theorem lookup_hit {f k : Str} {v : D} {t : List (Str × D)} (h : (f == k) = true) : ((k, v) :: t).lookup f = some v := by rw [List.lookup_cons, h]
theorem lookup_miss {f k : Str} {v : D} {t : List (Str × D)} {x : Option D} (h : (f == k) = false) (r : t.lookup f = x) : ((k, v) :: t).lookup f = x := by rw [List.lookup_cons, h]; exact r
/-- a rest's place, beyond the walls too -/
def pE (L : Int) (xs : List D) (i : Int) : Int := if i = -2 then -1 else if i = xs.length + 1 then L + 1 else plcI L xs i
theorem pE_lt {L : Int} {xs : List D} (hp : Pk L xs) {i j : Int} (h0 : -2 ≤ i) (h1 : i < j) (h2 : j ≤ xs.length + 1) : pE L xs i < pE L xs j := by
  obtain ⟨L0, L1, hp, _⟩ := hp
  unfold pE
  by_cases a : i = -2
  · rw [if_pos a, if_neg (by omega : ¬ j = -2)]
    by_cases b : j = xs.length + 1
    · rw [if_pos b]; omega
    · rw [if_neg b]
      have := plc_ge hp (by omega) (i := j) (by omega) (by omega)
      omega
  · rw [if_neg a, if_neg (by omega : ¬ i = (xs.length : Int) + 1), if_neg (by omega : ¬ j = -2)]
    by_cases b : j = xs.length + 1
    · rw [if_pos b]
      have := plc_le hp (by omega) (i := i) (by omega) (by omega)
      omega
    · rw [if_neg b]
      exact plc_lt hp (by omega) (by omega) h1 (by omega)
theorem pE_bd {L : Int} {xs : List D} (hp : Pk L xs) {i : Int} (h0 : -2 ≤ i) (h2 : i ≤ xs.length + 1) : -1 ≤ pE L xs i ∧ pE L xs i ≤ 1001 := by
  obtain ⟨L0, L1, hp, _⟩ := hp
  unfold pE
  split
  · omega
  · split
    · omega
    · have := plc_ge hp (by omega) (i := i) (by omega) (by omega)
      have := plc_le hp (by omega) (i := i) (by omega) (by omega)
      omega
/-- the moment at a place -/
def rampQ (p x : Rat) : Rat := if x < p then p - x else 0
def momQ (ws : List (Rat × Rat)) (p : Rat) : Rat := sumQ (ws.map fun z => z.2 * rampQ p z.1)
/-- what lies on a rest, by moments -/
def laidQ (ws : List (Rat × Rat)) (l h u : Int) : Rat := (momQ ws u - momQ ws h) / ((u - h : Int) : Rat) - (momQ ws h - momQ ws l) / ((h - l : Int) : Rat)
theorem laid_eq {ws : List (Rat × Rat)} {l h u B ml mh mu : Int} (h1 : l < h) (h2 : h < u) (hB : 0 < B) (el : (ml : Rat) = B * momQ ws l) (eh : (mh : Rat) = B * momQ ws h) (eu : (mu : Rat) = B * momQ ws u) :
    Rat.divInt ((mu - mh) * (h - l) - (mh - ml) * (u - h)) ((h - l) * (u - h) * B) = laidQ ws l h u := by
  have hb : (B : Rat) ≠ 0 := by
    have : (0 : Rat) < (B : Rat) := by exact_mod_cast hB
    grind
  have a1 : ((h - l : Int) : Rat) ≠ 0 := by
    have : (0 : Rat) < ((h - l : Int) : Rat) := by
      have : 0 < h - l := by omega
      exact_mod_cast this
    grind
  have a2 : ((u - h : Int) : Rat) ≠ 0 := by
    have : (0 : Rat) < ((u - h : Int) : Rat) := by
      have : 0 < u - h := by omega
      exact_mod_cast this
    grind
  rw [Rat.divInt_eq_div]
  unfold laidQ
  rw [Rat.intCast_sub, Rat.intCast_mul, Rat.intCast_mul, Rat.intCast_mul, Rat.intCast_mul, Rat.intCast_sub mu, Rat.intCast_sub mh, el, eh, eu]
  generalize momQ ws l = x1, momQ ws h = x2, momQ ws u = x3 at *
  generalize ((h - l : Int) : Rat) = y1, ((u - h : Int) : Rat) = y2, (B : Rat) = b at *
  clear el eh eu h1 h2 hB
  grind
def tmI (B : Int) (z : Rat × Rat) : Int := B / ((z.1.den : Int) * (z.2.den : Int))
def wtI (B : Int) (z : Rat × Rat) : Int := z.2.num * (z.1.den : Int) * tmI B z
def tnI (B : Int) (z : Rat × Rat) : Int := z.2.num * z.1.num * tmI B z
/-- a weight over the one bottom -/
def owD (B : Int) (z : Rat × Rat) : D := .tup [trkD z.1, .int (wtI B z), .int (tnI B z)]
def BtW (z : Rat × Rat) : Prop := Bt 30 20 z.1 ∧ Bt 43 30 z.2
theorem tm_bt {B : Int} {z : Rat × Rat} (h : B.natAbs < 2 ^ 52) : (tmI B z).natAbs < 2 ^ 53 := by
  unfold tmI
  have := Int.natAbs_ediv_le_natAbs B ((z.1.den : Int) * (z.2.den : Int))
  omega
theorem wt_bt {B : Int} {z : Rat × Rat} (h : B.natAbs < 2 ^ 52) (hz : BtW z) : (wtI B z).natAbs < 2 ^ 116 := abs_mul_lt (abs_mul_lt hz.2.1 (den_abs z.1 hz.1.2)) (tm_bt h)
theorem tn_bt {B : Int} {z : Rat × Rat} (h : B.natAbs < 2 ^ 52) (hz : BtW z) : (tnI B z).natAbs < 2 ^ 126 := abs_mul_lt (abs_mul_lt hz.2.1 hz.1.1) (tm_bt h)
theorem num_of (q : Rat) : q * (((q.den : Int)) : Rat) = ((q.num : Int) : Rat) := by
  have e := Rat.num_divInt_den q
  have hd : (((q.den : Int)) : Rat) ≠ 0 := by
    have : (0 : Rat) < ((q.den : Int) : Rat) := by
      have : 0 < (q.den : Int) := by have := q.den_pos; omega
      exact_mod_cast this
    grind
  rw [Rat.divInt_eq_div] at e
  generalize ((q.num : Int) : Rat) = n at *
  generalize (((q.den : Int)) : Rat) = d at *
  rw [← e]
  grind
theorem mom_step {B p : Int} {z : Rat × Rat} (hd : (z.1.den : Int) * (z.2.den : Int) ∣ B) : ((wtI B z * p - tnI B z * 1 : Int) : Rat) = (B : Rat) * (z.2 * ((p : Rat) - z.1)) := by
  have e : B = (z.1.den : Int) * (z.2.den : Int) * tmI B z := (Int.mul_ediv_cancel' hd).symm
  have e1 := num_of z.1
  have e2 := num_of z.2
  have e' : (B : Rat) = (((z.1.den : Int)) : Rat) * (((z.2.den : Int)) : Rat) * (tmI B z : Rat) := by
    rw [← Rat.intCast_mul, ← Rat.intCast_mul, ← e]
  unfold wtI tnI
  rw [Rat.intCast_sub, Rat.intCast_mul, Rat.intCast_mul, Rat.intCast_mul, Rat.intCast_mul, Rat.intCast_mul, Rat.intCast_mul, e']
  generalize (((z.1.den : Int)) : Rat) = d1 at *
  generalize (((z.2.den : Int)) : Rat) = d2 at *
  generalize ((z.1.num : Int) : Rat) = n1 at *
  generalize ((z.2.num : Int) : Rat) = n2 at *
  generalize (tmI B z : Rat) = t at *
  generalize (p : Rat) = p' at *
  clear e e' hd
  rw [← e1, ← e2]
  grind
theorem momQ_next {ws : List (Rat × Rat)} {p : Rat} {i : Nat} {z : Rat × Rat} (h : ws[i]? = some z) : momQ (ws.take (i + 1)) p = momQ (ws.take i) p + z.2 * rampQ p z.1 := by
  unfold momQ sumQ
  rw [List.take_add_one, h, List.map_append, List.foldl_append]
  rfl
/-! ### what Moments keeps -/
def mfl (B : Int) (wl : List D) (m : Addr) : List (Str × D) := [("_bottom", .int B), ("_weights", .lst wl), ("_known", .raw m)]
section
variable {B : Int} {wl : List D} {m : Addr}
theorem mlBottom : (mfl B wl m).lookup ("_bottom" : Str) = some (.int B) := lookup_hit (by decide +kernel)
theorem mlWeights : (mfl B wl m).lookup ("_weights" : Str) = some (.lst wl) := lookup_miss (by decide +kernel) (lookup_hit (by decide +kernel))
theorem mlKnown : (mfl B wl m).lookup ("_known" : Str) = some (.raw m) := lookup_miss (by decide +kernel) (lookup_miss (by decide +kernel) (lookup_hit (by decide +kernel)))
theorem mlNo {f : Str} (h1 : (f == ("_bottom" : Str)) = false) (h2 : (f == ("_weights" : Str)) = false) (h3 : (f == ("_known" : Str)) = false) : (mfl B wl m).lookup f = none := lookup_miss h1 (lookup_miss h2 (lookup_miss h3 rfl))
end
def MomOk (ws : List (Rat × Rat)) (C : Addr) (d : D) : Prop := ∃ (B : Int) (m : Addr), d = .obj C (mfl B (ws.map (owD B)) m) ∧ 0 < B ∧ B.natAbs < 2 ^ 52 ∧ ws.length ≤ 16 ∧ ∀ z ∈ ws, BtW z ∧ (z.1.den : Int) * (z.2.den : Int) ∣ B
def ows (B : Int) (ws : List (Rat × Rat)) : List ((Int × Int) × Int × Int) := ws.map fun z => ((z.1.num, (z.1.den : Int)), wtI B z, tnI B z)
theorem ow_cn {B : Int} {ws : List (Rat × Rat)} : (D.lst (ws.map (owD B))).cn = D.lst ((ows B ws).map wD) := by
  show D.lst (D.cnA (ws.map (owD B))) = _
  rw [cnA_map, List.map_map]
  unfold ows
  rw [List.map_map]
  rfl
theorem wD_inj {x y : (Int × Int) × Int × Int} (h : wD x = wD y) : x = y := by
  obtain ⟨⟨a, b⟩, c, d⟩ := x
  obtain ⟨⟨a', b'⟩, c', d'⟩ := y
  injection h with h
  injection h with h1 h2
  injection h1 with h1
  injection h1 with h3 h4
  injection h3 with h3
  injection h4 with h4 _
  injection h4 with h4
  injection h2 with h5 h6
  injection h5 with h5
  injection h6 with h6 _
  injection h6 with h6
  subst h3 h4 h5 h6
  rfl
theorem wDs_inj : ∀ {l r : List ((Int × Int) × Int × Int)}, l.map wD = r.map wD → l = r
  | [], [], _ => rfl
  | [], _ :: _, h => by cases h
  | _ :: _, [], h => by cases h
  | x :: l, y :: r, h => by
    injection h with h1 h2
    rw [wD_inj h1, wDs_inj h2]
theorem mem_known {B : Int} {ws : List (Rat × Rat)} {m : Addr} {p q : Int} {d : D} : memoSpec "_known" (mfl B (ws.map (owD B)) m) [.inl p, .inl q] d ↔ d = .int (momT (ows B ws) p q) := by
  constructor
  · intro h
    obtain ⟨p', q', e1, e2⟩ := h.1 rfl _ (ows B ws) mlWeights ow_cn
    injection e1 with e1 e3
    injection e1 with e1
    injection e3 with e3 _
    injection e3 with e3
    rw [e2, e1, e3]
  · rintro rfl
    refine ⟨fun _ d0 ws' e1 e2 => ?_, fun z => absurd z (by decide +kernel)⟩
    rw [mlWeights] at e1
    cases e1
    rw [ow_cn] at e2
    injection e2 with e2
    rw [wDs_inj e2]
    exact ⟨p, q, rfl, rfl⟩
theorem sq_frD (q : Rat) : Sq (frD q) := .tup fun d hd => by
  rcases List.mem_cons.mp hd with rfl | hd
  · exact .int _
  · rw [List.mem_singleton.mp hd]; exact .int _
theorem sq_trkD (q : Rat) : Sq (trkD q) := .trk fun d hd => by
  rcases List.mem_cons.mp hd with rfl | hd
  · exact .int _
  · rw [List.mem_singleton.mp hd]; exact .int _
theorem sq_ow {B : Int} {z : Rat × Rat} : Sq (owD B z) := .tup fun d hd => by
  rcases List.mem_cons.mp hd with rfl | hd
  · exact sq_trkD _
  · rcases List.mem_cons.mp hd with rfl | hd
    · exact .int _
    · rw [List.mem_singleton.mp hd]; exact .int _
theorem mem_wf {B : Int} {ws : List (Rat × Rat)} {m : Addr} : memoWf "_known" (mfl B (ws.map (owD B)) m) := ⟨fun _ d e => by
  rw [mlWeights] at e
  cases e
  refine .lst fun d hd => ?_
  obtain ⟨z, _, rfl⟩ := List.mem_map.mp hd
  exact sq_ow, fun z => absurd z (by decide +kernel)⟩
theorem momT_next {ws : List ((Int × Int) × Int × Int)} {p q : Int} {i : Nat} {w : (Int × Int) × Int × Int} (h : ws[i]? = some w) : momT (ws.take (i + 1)) p q = if w.1.1 * q < p * w.1.2 then momT (ws.take i) p q + (w.2.1 * p - w.2.2 * q) else momT (ws.take i) p q := by
  unfold momT
  rw [List.take_add_one, h, List.foldl_append]
  rfl
theorem ows_at {B : Int} {ws : List (Rat × Rat)} {i : Nat} {z : Rat × Rat} (h : ws[i]? = some z) : (ows B ws)[i]? = some ((z.1.num, (z.1.den : Int)), wtI B z, tnI B z) := by
  unfold ows
  rw [List.getElem?_map, h]
  rfl
theorem momT_bd {B : Int} {ws : List (Rat × Rat)} {p q : Int} (hB : B.natAbs < 2 ^ 52) (hz : ∀ z ∈ ws, BtW z) (hp : p.natAbs < 2 ^ 17) (hq : q.natAbs < 2 ^ 6) : ∀ i, i ≤ ws.length → (momT ((ows B ws).take i) p q).natAbs ≤ i * 2 ^ 140
  | 0, _ => by
    show (0 : Int).natAbs ≤ 0 * 2 ^ 140
    decide
  | i + 1, hi => by
    have h : ws[i]? = some ws[i] := List.getElem?_eq_getElem (by omega)
    have ih := momT_bd hB hz hp hq i (by omega)
    rw [momT_next (ows_at h)]
    dsimp only
    have bz := hz _ (List.getElem_mem (show i < ws.length by omega))
    split
    · have b1 : (wtI B ws[i] * p).natAbs < 2 ^ 133 := abs_mul_lt (wt_bt hB bz) hp
      have b2 : (tnI B ws[i] * q).natAbs < 2 ^ 132 := abs_mul_lt (tn_bt hB bz) hq
      have b3 := abs_sub_lt b1 (Nat.lt_of_lt_of_le b2 (show 2 ^ 132 ≤ 2 ^ 133 by decide))
      have b4 := Int.natAbs_add_le (momT ((ows B ws).take i) p q) (wtI B ws[i] * p - tnI B ws[i] * q)
      have b5 : (2 : Nat) ^ (133 + 1) ≤ 2 ^ 140 := Nat.pow_le_pow_right (by decide) (by decide)
      rw [Nat.succ_mul]
      omega
    · exact Nat.le_trans ih (Nat.mul_le_mul_right _ (Nat.le_succ i))
theorem momT_bt {B : Int} {ws : List (Rat × Rat)} {p q : Int} (hw : ws.length ≤ 16) (hB : B.natAbs < 2 ^ 52) (hz : ∀ z ∈ ws, BtW z) (hp : p.natAbs < 2 ^ 17) (hq : q.natAbs < 2 ^ 6) : (momT (ows B ws) p q).natAbs < 2 ^ 150 := by
  have h := momT_bd hB hz hp hq ws.length (Nat.le_refl _)
  have e : (ows B ws).take ws.length = ows B ws := by
    rw [show ws.length = (ows B ws).length from by unfold ows; rw [List.length_map], List.take_length]
  rw [e] at h
  have : ws.length * 2 ^ 140 ≤ 16 * 2 ^ 140 := Nat.mul_le_mul_right _ hw
  have : 16 * 2 ^ 140 < 2 ^ 150 := by decide
  omega
theorem momT_eqi {B : Int} {ws : List (Rat × Rat)} {p : Int} (hz : ∀ z ∈ ws, (z.1.den : Int) * (z.2.den : Int) ∣ B) : ∀ i, i ≤ ws.length → ((momT ((ows B ws).take i) p 1 : Int) : Rat) = (B : Rat) * momQ (ws.take i) (p : Rat)
  | 0, _ => by
    show (((0 : Int)) : Rat) = (B : Rat) * 0
    rw [Rat.mul_zero]
    rfl
  | i + 1, hi => by
    have h : ws[i]? = some ws[i] := List.getElem?_eq_getElem (by omega)
    have ih := momT_eqi (p := p) hz i (by omega)
    rw [momT_next (ows_at h), momQ_next h]
    dsimp only
    have dz := hz _ (List.getElem_mem (show i < ws.length by omega))
    have lt := lt_eq ws[i].1 (p : Rat)
    have e0 : ((p : Rat).num = p) ∧ ((p : Rat).den = 1) := ⟨rfl, rfl⟩
    rw [e0.1, e0.2] at lt
    by_cases c : ws[i].1 < (p : Rat)
    · rw [decide_eq_true c] at lt
      rw [if_pos (by simpa using of_decide_eq_true lt), Rat.intCast_add, ih, mom_step dz]
      have er : rampQ (p : Rat) ws[i].1 = (p : Rat) - ws[i].1 := if_pos c
      rw [er, Rat.mul_add]
    · rw [decide_eq_false c] at lt
      rw [if_neg (by simpa using of_decide_eq_false lt), ih]
      have er : rampQ (p : Rat) ws[i].1 = 0 := if_neg c
      rw [er, Rat.mul_zero, Rat.add_zero]
theorem momT_eq {B : Int} {ws : List (Rat × Rat)} {p : Int} (hz : ∀ z ∈ ws, (z.1.den : Int) * (z.2.den : Int) ∣ B) : ((momT (ows B ws) p 1 : Int) : Rat) = (B : Rat) * momQ ws (p : Rat) := by
  have h := momT_eqi (p := p) hz ws.length (Nat.le_refl _)
  rw [List.take_length, show ws.length = (ows B ws).length from by unfold ows; rw [List.length_map], List.take_length] at h
  exact h
def wOver (C : Addr) : Pm := fun ρ Ξ Φ => ∃ (gs : List (Str × D)) (B : Int) (z : Rat × Rat), ρ = [some (.ow true (.ins C gs)), some (.pu (trkD z.1)), some (.pu (frD z.2))] ∧ gs.lookup ("_bottom" : Str) = some (.int B) ∧ B.natAbs < 2 ^ 52 ∧ BtW z ∧
  ∀ ρ' : Ab, ρ'.head? = some (some (.ow true (.ins C gs))) → Φ (owD B z) ρ'
/-- places that are asked for -/
def PlOk (q : Rat) : Prop := -100000 ≤ q.num ∧ q.num ≤ 100000 ∧ (q.den : Int) ≤ 60
def wMom (C : Addr) : Pm := fun ρ Ξ Φ => ∃ (B : Int) (ws : List (Rat × Rat)) (m : Addr) (q : Rat), ρ = pus [.obj C (mfl B (ws.map (owD B)) m), trkD q] ∧ ws.length ≤ 16 ∧ B.natAbs < 2 ^ 52 ∧ (∀ z ∈ ws, BtW z) ∧ (PlOk q ∨ ∃ z ∈ ws, q = z.1) ∧ ∀ ρ', Φ (.int (momT (ows B ws) q.num q.den)) ρ'
theorem pl_int {p : Int} (h0 : -100000 ≤ p) (h1 : p ≤ 100000) : PlOk (p : Rat) := ⟨h0, h1, by show ((1 : Nat) : Int) ≤ 60; decide⟩
def wMLaid (C : Addr) : Pm := fun ρ Ξ Φ => ∃ (ws : List (Rat × Rat)) (d : D) (l h u : Int), ρ = pus [d, .int l, .int h, .int u] ∧ MomOk ws C d ∧ -1 ≤ l ∧ l < h ∧ h < u ∧ u ≤ 1001 ∧
  ∀ (t b : Int) (ρ' : Ab), 1 ≤ b → t.natAbs < 2 ^ 170 → b.natAbs < 2 ^ 80 → Rat.divInt t b = laidQ ws l h u → Φ (.tup [.int t, .int b]) ρ'
theorem mom_stepQ {B : Int} {q : Rat} {z : Rat × Rat} (hd : (z.1.den : Int) * (z.2.den : Int) ∣ B) : ((wtI B z * q.num - tnI B z * (q.den : Int) : Int) : Rat) = (B : Rat) * (((q.den : Int)) : Rat) * (z.2 * (q - z.1)) := by
  have e : B = (z.1.den : Int) * (z.2.den : Int) * tmI B z := (Int.mul_ediv_cancel' hd).symm
  have e1 := num_of z.1
  have e2 := num_of z.2
  have e3 := num_of q
  have e' : (B : Rat) = (((z.1.den : Int)) : Rat) * (((z.2.den : Int)) : Rat) * (tmI B z : Rat) := by
    rw [← Rat.intCast_mul, ← Rat.intCast_mul, ← e]
  unfold wtI tnI
  rw [Rat.intCast_sub, Rat.intCast_mul, Rat.intCast_mul, Rat.intCast_mul, Rat.intCast_mul, Rat.intCast_mul, Rat.intCast_mul, e']
  generalize (((z.1.den : Int)) : Rat) = d1 at *
  generalize (((z.2.den : Int)) : Rat) = d2 at *
  generalize (((q.den : Int)) : Rat) = d3 at *
  generalize ((z.1.num : Int) : Rat) = n1 at *
  generalize ((z.2.num : Int) : Rat) = n2 at *
  generalize ((q.num : Int) : Rat) = n3 at *
  generalize (tmI B z : Rat) = t at *
  clear e e' hd
  rw [← e1, ← e2, ← e3]
  grind
theorem momT_eqiQ {B : Int} {ws : List (Rat × Rat)} {q : Rat} (hz : ∀ z ∈ ws, (z.1.den : Int) * (z.2.den : Int) ∣ B) : ∀ i, i ≤ ws.length → ((momT ((ows B ws).take i) q.num q.den : Int) : Rat) = (B : Rat) * (((q.den : Int)) : Rat) * momQ (ws.take i) q
  | 0, _ => by
    show (((0 : Int)) : Rat) = (B : Rat) * (((q.den : Int)) : Rat) * 0
    rw [Rat.mul_zero]
    rfl
  | i + 1, hi => by
    have h : ws[i]? = some ws[i] := List.getElem?_eq_getElem (by omega)
    have ih := momT_eqiQ (q := q) hz i (by omega)
    rw [momT_next (ows_at h), momQ_next h]
    dsimp only
    have dz := hz _ (List.getElem_mem (show i < ws.length by omega))
    have lt := lt_eq ws[i].1 q
    by_cases c : ws[i].1 < q
    · rw [decide_eq_true c] at lt
      rw [if_pos (of_decide_eq_true lt), Rat.intCast_add, ih, mom_stepQ dz]
      have er : rampQ q ws[i].1 = q - ws[i].1 := if_pos c
      rw [er, Rat.mul_add]
    · rw [decide_eq_false c] at lt
      rw [if_neg (of_decide_eq_false lt), ih]
      have er : rampQ q ws[i].1 = 0 := if_neg c
      rw [er, Rat.mul_zero, Rat.add_zero]
theorem momT_eqQ {B : Int} {ws : List (Rat × Rat)} {q : Rat} (hz : ∀ z ∈ ws, (z.1.den : Int) * (z.2.den : Int) ∣ B) : ((momT (ows B ws) q.num q.den : Int) : Rat) = (B : Rat) * (((q.den : Int)) : Rat) * momQ ws q := by
  have h := momT_eqiQ (q := q) hz ws.length (Nat.le_refl _)
  rw [List.take_length, show ws.length = (ows B ws).length from by unfold ows; rw [List.length_map], List.take_length] at h
  exact h
theorem momT_bdW {B : Int} {ws : List (Rat × Rat)} {p q : Int} (hB : B.natAbs < 2 ^ 52) (hz : ∀ z ∈ ws, BtW z) (hp : p.natAbs < 2 ^ 30) (hq : q.natAbs < 2 ^ 20) : ∀ i, i ≤ ws.length → (momT ((ows B ws).take i) p q).natAbs ≤ i * 2 ^ 150
  | 0, _ => by
    show (0 : Int).natAbs ≤ 0 * 2 ^ 150
    decide
  | i + 1, hi => by
    have h : ws[i]? = some ws[i] := List.getElem?_eq_getElem (by omega)
    have ih := momT_bdW hB hz hp hq i (by omega)
    rw [momT_next (ows_at h)]
    dsimp only
    have bz := hz _ (List.getElem_mem (show i < ws.length by omega))
    split
    · have b1 : (wtI B ws[i] * p).natAbs < 2 ^ 146 := abs_mul_lt (wt_bt hB bz) hp
      have b2 : (tnI B ws[i] * q).natAbs < 2 ^ 146 := abs_mul_lt (tn_bt hB bz) hq
      have b3 := abs_sub_lt b1 b2
      have b4 := Int.natAbs_add_le (momT ((ows B ws).take i) p q) (wtI B ws[i] * p - tnI B ws[i] * q)
      have b5 : (2 : Nat) ^ (146 + 1) ≤ 2 ^ 150 := Nat.pow_le_pow_right (by decide) (by decide)
      rw [Nat.succ_mul]
      omega
    · exact Nat.le_trans ih (Nat.mul_le_mul_right _ (Nat.le_succ i))
theorem momT_btW {B : Int} {ws : List (Rat × Rat)} {p q : Int} (hw : ws.length ≤ 16) (hB : B.natAbs < 2 ^ 52) (hz : ∀ z ∈ ws, BtW z) (hp : p.natAbs < 2 ^ 30) (hq : q.natAbs < 2 ^ 20) : (momT (ows B ws) p q).natAbs < 2 ^ 160 := by
  have h := momT_bdW hB hz hp hq ws.length (Nat.le_refl _)
  have e : (ows B ws).take ws.length = ows B ws := by
    rw [show ws.length = (ows B ws).length from by unfold ows; rw [List.length_map], List.take_length]
  rw [e] at h
  have : ws.length * 2 ^ 150 ≤ 16 * 2 ^ 150 := Nat.mul_le_mul_right _ hw
  have : 16 * 2 ^ 150 < 2 ^ 160 := by decide
  omega
/-- how far the straight line lies above the moment, as often as the board is long -/
def aboveQ (ws : List (Rat × Rat)) (l u : Int) (q : Rat) : Rat := momQ ws l * ((u : Rat) - q) + momQ ws u * (q - (l : Rat)) - momQ ws q * (((u - l : Int)) : Rat)
theorem above_eq {ws : List (Rat × Rat)} {B l u ml mu mq : Int} {q : Rat} (el : (ml : Rat) = B * momQ ws l) (eu : (mu : Rat) = B * momQ ws u) (eq : (mq : Rat) = (B : Rat) * (((q.den : Int)) : Rat) * momQ ws q) :
    ((ml * (u * (q.den : Int) - q.num) + mu * (q.num - l * (q.den : Int)) - mq * (u - l) : Int) : Rat) = (B : Rat) * (((q.den : Int)) : Rat) * aboveQ ws l u q := by
  have e3 := num_of q
  unfold aboveQ
  rw [Rat.intCast_sub, Rat.intCast_add, Rat.intCast_mul, Rat.intCast_mul, Rat.intCast_mul, Rat.intCast_sub, Rat.intCast_sub, Rat.intCast_mul, Rat.intCast_mul, el, eu, eq]
  generalize ((u - l : Int) : Rat) = ul
  generalize (((q.den : Int)) : Rat) = d3 at *
  generalize ((q.num : Int) : Rat) = n3 at *
  generalize momQ ws (l : Rat) = x1, momQ ws (u : Rat) = x2, momQ ws q = x3 at *
  generalize ((l : Int) : Rat) = l', ((u : Int) : Rat) = u', (B : Rat) = b at *
  clear el eu eq
  rw [← e3]
  grind
def bendQ (ws : List (Rat × Rat)) (l u : Int) (q : Rat) : Rat := aboveQ ws l u q / (((u - l : Int)) : Rat)
theorem bend_eq {ws : List (Rat × Rat)} {B l u t : Int} {q : Rat} (h : l < u) (hB : 0 < B) (e : (t : Rat) = (B : Rat) * (((q.den : Int)) : Rat) * aboveQ ws l u q) : Rat.divInt t ((q.den : Int) * (u - l) * B) = bendQ ws l u q := by
  have hb : (B : Rat) ≠ 0 := by
    have : (0 : Rat) < (B : Rat) := by exact_mod_cast hB
    grind
  have a1 : ((u - l : Int) : Rat) ≠ 0 := by
    have : (0 : Rat) < ((u - l : Int) : Rat) := by
      have : 0 < u - l := by omega
      exact_mod_cast this
    grind
  have a2 : (((q.den : Int)) : Rat) ≠ 0 := by
    have : (0 : Rat) < ((q.den : Int) : Rat) := by
      have : 0 < (q.den : Int) := by have := q.den_pos; omega
      exact_mod_cast this
    grind
  rw [Rat.divInt_eq_div, e]
  unfold bendQ
  rw [Rat.intCast_mul, Rat.intCast_mul]
  generalize ((u - l : Int) : Rat) = y1 at *
  generalize (((q.den : Int)) : Rat) = d3 at *
  generalize (B : Rat) = b at *
  generalize aboveQ ws l u q = x at *
  clear e h hB
  grind
/-- a place that may be asked for -/
def wAbv (C : Addr) : Pm := fun ρ Ξ Φ => ∃ (B : Int) (ws : List (Rat × Rat)) (m : Addr) (l u : Int) (q : Rat), ρ = pus [.obj C (mfl B (ws.map (owD B)) m), .int l, .int u, trkD q] ∧ 0 < B ∧ ws.length ≤ 16 ∧ B.natAbs < 2 ^ 52 ∧ (∀ z ∈ ws, BtW z ∧ (z.1.den : Int) * (z.2.den : Int) ∣ B) ∧ (PlOk q ∨ ∃ z ∈ ws, q = z.1) ∧ -1 ≤ l ∧ l < u ∧ u ≤ 1001 ∧
  ∀ (t : Int) ρ', t.natAbs < 2 ^ 200 → (t : Rat) = (B : Rat) * (((q.den : Int)) : Rat) * aboveQ ws l u q → Φ (.tup [.int t, .int (q.den : Int)]) ρ'
def wBnd (C : Addr) : Pm := fun ρ Ξ Φ => ∃ (ws : List (Rat × Rat)) (d : D) (l u : Int) (q : Rat), ρ = pus [d, .int l, .int u, trkD q] ∧ MomOk ws C d ∧ (PlOk q ∨ ∃ z ∈ ws, q = z.1) ∧ -1 ≤ l ∧ l < u ∧ u ≤ 1001 ∧
  ∀ ρ', Φ (frD (bendQ ws l u q)) ρ'
theorem pl_bt {ws : List (Rat × Rat)} {q : Rat} (hz : ∀ z ∈ ws, BtW z) (h : PlOk q ∨ ∃ z ∈ ws, q = z.1) : Bt 30 20 q := by
  rcases h with h | ⟨z, hm, rfl⟩
  · exact ⟨by have := h.1; have := h.2.1; omega, by have := h.2.2; show q.den < 2 ^ 20; omega⟩
  · exact (hz z hm).1
/-- the greatest bend so far, and where -/
def gstep (ws : List (Rat × Rat)) (l u : Int) (s : Rat × Rat) (x : Rat) : Rat × Rat :=
  if (l : Rat) < x then (if x < (u : Rat) then (if s.1 < bendQ ws l u x then (bendQ ws l u x, x) else (if bendQ ws l u x < s.1 then s else (if x < s.2 then (bendQ ws l u x, x) else s))) else s) else s
def gfold (ws : List (Rat × Rat)) (l u : Int) (xs : List Rat) : Rat × Rat := xs.foldl (gstep ws l u) (0, (l : Rat))
def greatQ (ws : List (Rat × Rat)) (l u : Int) : Rat × Rat := gfold ws l u (ws.map fun z => z.1)
theorem gfold_next {ws : List (Rat × Rat)} {l u : Int} {xs : List Rat} {i : Nat} {x : Rat} (h : xs[i]? = some x) : gfold ws l u (xs.take (i + 1)) = gstep ws l u (gfold ws l u (xs.take i)) x := by
  unfold gfold
  rw [List.take_add_one, h, List.foldl_append]
  rfl
theorem lt_scale {c x y p q : Rat} (hc : 0 < c) (hp : p = c * x) (hq : q = c * y) : p < q ↔ x < y := by
  subst hp hq
  constructor
  · intro h
    rcases Decidable.em (x < y) with g | g
    · exact g
    · exact absurd h (Rat.not_lt.mpr (Rat.mul_le_mul_of_nonneg_left (Rat.not_lt.mp g) (Rat.le_of_lt hc)))
  · intro h
    exact Rat.mul_lt_mul_of_pos_left h hc
theorem cmp_above {B t b t' b' : Int} {y x x' : Rat} (hB : 0 < B) (hy : 0 < y) (hb : 0 < b) (hb' : 0 < b') (e : (t : Rat) = (B : Rat) * (b : Rat) * (x * y)) (e' : (t' : Rat) = (B : Rat) * (b' : Rat) * (x' * y)) : decide (t * b' < t' * b) = decide (x < x') := by
  have q1 : (0 : Rat) < (B : Rat) := by exact_mod_cast hB
  have q2 : (0 : Rat) < (b : Rat) := by exact_mod_cast hb
  have q3 : (0 : Rat) < (b' : Rat) := by exact_mod_cast hb'
  have c0 : (0 : Rat) < (B : Rat) * (b : Rat) * (b' : Rat) * y := Rat.mul_pos (Rat.mul_pos (Rat.mul_pos q1 q2) q3) hy
  have h : ((t * b' : Int) : Rat) < ((t' * b : Int) : Rat) ↔ x < x' := lt_scale c0 (by rw [Rat.intCast_mul, e]; grind) (by rw [Rat.intCast_mul, e']; grind)
  have h2 : t * b' < t' * b ↔ x < x' := by
    rw [← h]
    exact Rat.intCast_lt_intCast.symm
  exact decide_eq_decide.mpr h2
theorem above_bend {ws : List (Rat × Rat)} {l u : Int} {q : Rat} (h : l < u) : aboveQ ws l u q = bendQ ws l u q * (((u - l : Int)) : Rat) := by
  have a1 : ((u - l : Int) : Rat) ≠ 0 := by
    have : (0 : Rat) < ((u - l : Int) : Rat) := by
      have : 0 < u - l := by omega
      exact_mod_cast this
    grind
  unfold bendQ
  generalize aboveQ ws l u q = x
  generalize ((u - l : Int) : Rat) = y at *
  grind
def GrOk (B : Int) (ws : List (Rat × Rat)) (l u : Int) (s : Rat × Rat) (mo : D) : Prop := ∃ t b : Int, mo.items = some [.int t, .int b] ∧ t.natAbs < 2 ^ 200 ∧ 0 < b ∧ b.natAbs < 2 ^ 20 ∧ (t : Rat) = (B : Rat) * (b : Rat) * (s.1 * (((u - l : Int)) : Rat)) ∧ (s.2 = (l : Rat) ∨ ∃ z ∈ ws, s.2 = z.1)
def wGreat (C : Addr) : Pm := fun ρ Ξ Φ => ∃ (ws : List (Rat × Rat)) (d : D) (l u : Int), ρ = pus [d, .int l, .int u] ∧ MomOk ws C d ∧ -1 ≤ l ∧ l < u ∧ u ≤ 1001 ∧
  ∀ ρ', Φ (.tup [frD (bendQ ws l u (greatQ ws l u).2), trkD (greatQ ws l u).2]) ρ'
section
variable {P : Program} {w : World} {K : PySem.W.Frag} {mg : Str → Option Value} {a : Nat → Addr} {fd : Nat → FuncData} {tk : Nat → Tok} {base : Heap}
theorem ok_Moments__over_bottom (T : Txt K mg a fd tk) : FnOk P w K mg base CX0 1 (a 23) (fd 23) ["self", "place", "weight"] (spD K 3 (wOver (a 114))) := by
  refine ok0 T.F_Moments__over_bottom sc_Moments__over_bottom (fun _ _ _ h => h) fun cdv A outer s H E hr => ?_
  refine ⟨_, (pss_cons (ps_set (i := 3) sc_Moments__over_bottom.nd rfl (by first | exact Or.inl rfl | exact Or.inr rfl) (pe_op op_fdivW (pe_fld (pv 0) rfl) (pe_op op_mulA (pe_ix (ix_ltK (K := K)) (pv 1) pe_int (fun _ _ => rfl)) (pe_ix (ix_ltK (K := K)) (pv 2) pe_int (fun _ _ => rfl)))))
      (pss_one (ps_ret (pe_tup (pa_cons (pv 1) (pa_cons (pe_op op_mulA (pe_op op_mulA (pe_ix (ix_ltK (K := K)) (pv 2) pe_int (fun _ _ => rfl)) (pe_ix (ix_ltK (K := K)) (pv 1) pe_int (fun _ _ => rfl))) (pv 3)) (pa_cons (pe_op op_mulA (pe_op op_mulA (pe_ix (ix_ltK (K := K)) (pv 2) pe_int (fun _ _ => rfl)) (pe_ix (ix_ltK (K := K)) (pv 1) pe_int (fun _ _ => rfl))) (pv 3)) pa_nil))))))), ?_⟩
  try dsimp only [cxOf, List.map, List.length_cons, List.length_nil]
  refine ⟨_, inferInstance, ?_⟩
  rintro ρ Ξ Φ ⟨gs, B, z, rfl, lk, hB, hz, k⟩
  have d1 := den_abs z.1 hz.1.2
  have d2 := den_abs z.2 hz.2.2
  have q1 := abs_mul_lt hz.2.1 d1
  have q2 := abs_mul_lt hz.2.1 hz.1.1
  have qt := tm_bt (z := z) hB
  have dv : CDivW 0 ((z.1.den : Int) * (z.2.den : Int)) := by
    rw [← Int.natCast_mul]
    exact div_ok (Nat.mul_pos z.1.den_pos z.2.den_pos) (n := 50) (by rw [show 50 = 20 + 30 from rfl, Nat.pow_add]; exact Nat.mul_lt_mul'' hz.1.2 hz.2.2) (by decide)
  refine ⟨_, rfl, _, _, _, rfl, T.c_Moments, T.f_bottom, lk, _, rfl, _, 1, _, rfl, rfl, rfl, _, rfl, _, 1, _, rfl, rfl, rfl, _, _, rfl, rfl, mul_ok d1 d2 (by decide), _, _, rfl, rfl, dv, ?_⟩
  try simp only [pwipe1, pwipe2, back_hd, back_pu2, back_pu1, List.set_cons_succ, List.set_cons_zero]
  refine ⟨_, rfl, _, rfl, _, 0, _, rfl, rfl, rfl, _, rfl, _, 1, _, rfl, rfl, rfl, _, _, rfl, rfl, mul_ok hz.2.1 d1 (by decide), _, rfl, _, _, rfl, rfl, mul_ok q1 qt (by decide), _, rfl, _, 0, _, rfl, rfl, rfl, _, rfl, _, 0, _, rfl, rfl, rfl, _, _, rfl, rfl, mul_ok hz.2.1 hz.1.1 (by decide), _, rfl, _, _, rfl, rfl, mul_ok q2 qt (by decide), trivial, trivial, trivial, [_, _, _], rfl, (by show 3 ≤ 100000; decide), k _ rfl⟩

theorem ok_Moments__moment (T : Txt K mg a fd tk) : FnOk P w K mg base CX0 2 (a 24) (fd 24) ["self", "place"] (spD K 2 (wMom (a 114))) := by
  refine ok0 T.F_Moments__moment sc_Moments__moment (fun _ _ _ h => h) fun cdv A outer s H E hr => ?_
  refine ⟨_, (pss_cons (ps_if (pt_cmp (pc_dnotinF (hu_of hr) (pv 1) (pe_fld (pv 0) rfl))) (PSs.assoc (PSs.assoc (pss_cons (ps_asg (pv 1) (pg_tup rfl (pgs_cons (pg_name (i := 3) sc_Moments__moment.nd rfl (by first | exact Or.inl rfl | exact Or.inr rfl)) (pgs_cons (pg_name (i := 4) sc_Moments__moment.nd rfl (by first | exact Or.inl rfl | exact Or.inr rfl)) pgs_nil))))
      (pss_cons (ps_set (i := 2) sc_Moments__moment.nd rfl (by first | exact Or.inl rfl | exact Or.inr rfl) pe_int)
      (pss_cons (ps_for PassesOwn.never rfl (pi_list (pe_fld (pv 0) rfl)) (pg_tup rfl (pgs_cons (pg_name (i := 5) sc_Moments__moment.nd rfl (by first | exact Or.inl rfl | exact Or.inr rfl)) (pgs_cons (pg_name (i := 6) sc_Moments__moment.nd rfl (by first | exact Or.inl rfl | exact Or.inr rfl)) (pgs_cons (pg_name (i := 7) sc_Moments__moment.nd rfl (by first | exact Or.inl rfl | exact Or.inr rfl)) pgs_nil)))) (pss_one (ps_if (pt_val (pe_call (ok_is_below T) (hr.mono (by decide)) rfl T.n_is_below T.F_is_below.kp T.b_is_below .nil pass0 (pa_cons (pv 5) (pa_cons (pv 1) pa_nil)))) (pss_one (ps_aug (i := 2) sc_Moments__moment.nd rfl (by first | exact Or.inl rfl | exact Or.inr rfl) (pe_op op_sub (pe_op op_mulA (pv 6) (pv 3)) (pe_op op_mulA (pv 7) (pv 4))) ip_add)) pss_nil)))
      (pss_one (ps_dputF (hu_of hr) (pe_fld (pv 0) rfl) (pv 1) (pv 2) rfl))))))) pss_nil)
      (pss_one (ps_ret (pe_dget (hu_of hr) (pe_fld (pv 0) rfl) (pv 1) (fun _ _ => rfl))))), ?_⟩
  try dsimp only [cxOf, List.map, List.length_cons, List.length_nil]
  refine ⟨_, inferInstance, ?_⟩
  rintro ρ Ξ Φ ⟨B, ws, m, q, rfl, hw, hB, hz, hq, k⟩
  have hqb : Bt 30 20 q := by
    rcases hq with hq | ⟨z, hm, rfl⟩
    · exact ⟨by have := hq.1; have := hq.2.1; omega, by have := hq.2.2; show q.den < 2 ^ 20; omega⟩
    · exact (hz z hm).1
  have hqn : q.num.natAbs < 2 ^ 30 := hqb.1
  have hqd : ((q.den : Int)).natAbs < 2 ^ 20 := by have := hqb.2; omega
  have hk : keyOk "_known" (mfl B (ws.map (owD B)) m) [.inl q.num, .inl (q.den : Int)] := by
    rcases hq with hq | ⟨z, hm, rfl⟩
    · exact .inl (.inl ⟨q.num, q.den, rfl, hq.1, hq.2.1, by have := q.den_pos; omega, hq.2.2⟩)
    · exact .inr ⟨rfl, _, ows B ws, ((z.1.num, (z.1.den : Int)), wtI B z, tnI B z), mlWeights, ow_cn, by unfold ows; rw [List.length_map]; omega, List.mem_map.mpr ⟨z, hm, rfl⟩, rfl⟩
  refine ⟨_, _, m, _, [.inl q.num, .inl q.den], rfl, T.c_Moments, T.f_known, by decide +kernel, mlKnown, rfl, rfl, hk, mem_wf, fun d h => ?_, ?_⟩
  · rw [mem_known.mp h]
    exact k _
  refine ⟨_, rfl, [.int q.num, .int q.den], rfl, rfl, _, _, rfl, _, _, rfl, rfl, ?_⟩
  try simp only [pwipe1, pwipe2, back_hd, back_pu2, back_pu1, List.set_cons_succ, List.set_cons_zero]
  refine ⟨_, rfl, _, _, _, rfl, T.c_Moments, T.f_weights, mlWeights, ws.map (owD B), rfl, fun i ρ => ∃ (a5 a6 a7 : Option Sl), ρ = [some (.pu (.obj (a 114) (mfl B (ws.map (owD B)) m))), some (.pu (trkD q)), some (.pu (.int (momT ((ows B ws).take i) q.num q.den))), some (.pu (.int q.num)), some (.pu (.int q.den)), a5, a6, a7], ⟨_, _, _, rfl⟩, ?_, ?_⟩
  · rintro i e ρ hi ⟨a5, a6, a7, rfl⟩
    rw [List.getElem?_map] at hi
    obtain ⟨z, hj, rfl⟩ := Option.map_eq_some_iff.mp hi
    have bz := hz z (List.mem_of_getElem? hj)
    refine ⟨[trkD z.1, .int (wtI B z), .int (tnI B z)], rfl, rfl, _, _, rfl, _, _, rfl, _, _, rfl, rfl, ?_⟩
    try simp only [pwipe1, pwipe2, back_hd, back_pu2, back_pu1, List.set_cons_succ, List.set_cons_zero]
    refine ⟨_, rfl, _, rfl, trivial, trivial, rfl, List.nodup_nil, ⟨_, _, z.1, q, rfl, .inr rfl, .inr rfl, bz.1.mono (by decide) (by decide), hqb.mono (by decide) (by decide), fun ρ' => ?_⟩⟩
    refine ⟨_, rfl, ?_⟩
    show if decide (z.1 < q) = true then _ else _
    have nx := momT_next (p := q.num) (q := (q.den : Int)) (ows_at (B := B) hj)
    have lt := lt_eq z.1 q
    by_cases c : z.1 < q
    · rw [decide_eq_true c] at lt ⊢
      rw [if_pos (of_decide_eq_true lt)] at nx
      have w1 := wt_bt hB bz
      have t1 := tn_bt hB bz
      refine ⟨_, rfl, _, rfl, _, rfl, wtI B z, q.num, rfl, rfl, mul_ok w1 hqn (by decide), _, rfl, _, rfl, tnI B z, (q.den : Int), rfl, rfl, mul_ok t1 hqd (by decide), _, _, rfl, rfl, _, rfl, ?_⟩
      exact ⟨_, _, _, by rw [nx]; rfl⟩
    · rw [decide_eq_false c] at lt ⊢
      rw [if_neg (of_decide_eq_false lt)] at nx
      exact ⟨_, _, _, by rw [nx]; rfl⟩
  · rintro ρ ⟨a5, a6, a7, rfl⟩
    have e : (ows B ws).take (ws.map (owD B)).length = ows B ws := by
      rw [show (ws.map (owD B)).length = (ows B ws).length from by unfold ows; rw [List.length_map, List.length_map], List.take_length]
    rw [e]
    exact ⟨_, rfl, rfl, rfl, mem_known.mpr rfl, k _⟩

theorem ok_Moments_laid (T : Txt K mg a fd tk) : FnOk P w K mg base CX0 3 (a 25) (fd 25) ["self", "left", "at", "right"] (spD K 4 (wMLaid (a 114))) := by
  refine ok0 T.F_Moments_laid sc_Moments_laid (fun _ _ _ h => h) fun cdv A outer s H E hr => ?_
  refine ⟨_, (pss_cons (ps_set (i := 4) sc_Moments_laid.nd rfl (by first | exact Or.inl rfl | exact Or.inr rfl) (pe_meth (pv 0) T.c_Moments T.m_Moments__moment (ok_Moments__moment T) (hr.mono (by decide)) T.b_Moments__moment .nil pass0 (pa_cons (pe_call (ok_of_whole T) (hr.mono (by decide)) rfl T.n_of_whole T.F_of_whole.kp T.b_of_whole .nil pass0 (pa_cons (pv 2) pa_nil)) pa_nil)))
      (pss_cons (ps_set (i := 5) sc_Moments_laid.nd rfl (by first | exact Or.inl rfl | exact Or.inr rfl) (pe_op op_sub (pv 4) (pe_meth (pv 0) T.c_Moments T.m_Moments__moment (ok_Moments__moment T) (hr.mono (by decide)) T.b_Moments__moment .nil pass0 (pa_cons (pe_call (ok_of_whole T) (hr.mono (by decide)) rfl T.n_of_whole T.F_of_whole.kp T.b_of_whole .nil pass0 (pa_cons (pv 1) pa_nil)) pa_nil))))
      (pss_cons (ps_set (i := 6) sc_Moments_laid.nd rfl (by first | exact Or.inl rfl | exact Or.inr rfl) (pe_op op_sub (pe_meth (pv 0) T.c_Moments T.m_Moments__moment (ok_Moments__moment T) (hr.mono (by decide)) T.b_Moments__moment .nil pass0 (pa_cons (pe_call (ok_of_whole T) (hr.mono (by decide)) rfl T.n_of_whole T.F_of_whole.kp T.b_of_whole .nil pass0 (pa_cons (pv 3) pa_nil)) pa_nil)) (pv 4)))
      (pss_one (ps_ret (pe_tup (pa_cons (pe_op op_sub (pe_op op_mulA (pv 6) (pe_op op_sub (pv 2) (pv 1))) (pe_op op_mulA (pv 5) (pe_op op_sub (pv 3) (pv 2)))) (pa_cons (pe_op op_mulA (pe_op op_mulA (pe_op op_sub (pv 2) (pv 1)) (pe_op op_sub (pv 3) (pv 2))) (pe_fld (pv 0) rfl)) pa_nil)))))))), ?_⟩
  try dsimp only [cxOf, List.map, List.length_cons, List.length_nil]
  refine ⟨_, inferInstance, ?_⟩
  rintro ρ Ξ Φ ⟨ws, d, l, h, u, rfl, ⟨B, m, rfl, B0, B1, hw, hz⟩, l0, lh, hu, u1, k⟩
  have bz : ∀ z ∈ ws, BtW z := fun z hm => (hz z hm).1
  have dz : ∀ z ∈ ws, (z.1.den : Int) * (z.2.den : Int) ∣ B := fun z hm => (hz z hm).2
  have bm : ∀ p : Int, -1 ≤ p → p ≤ 1001 → (momT (ows B ws) p 1).natAbs < 2 ^ 150 := fun p h0 h1 => momT_bt hw B1 bz (by omega) (by decide)
  have key : ∀ (p : Int), -1 ≤ p → p ≤ 1001 → ∀ {Ψ : D → Ab → Prop}, (∀ ρ', Ψ (.int (momT (ows B ws) p 1)) ρ') → wMom (a 114) (pus [.obj (a 114) (mfl B (ws.map (owD B)) m), trkD (p : Rat)]) X0 Ψ := fun p h0 h1 Ψ hk => ⟨B, ws, m, (p : Rat), rfl, hw, B1, bz, .inl (pl_int (by omega) (by omega)), hk⟩
  refine ⟨_, rfl, _, rfl, mlNo (by decide +kernel) (by decide +kernel) (by decide +kernel), _, rfl, trivial, rfl, List.nodup_nil, [_], rfl, ⟨h, rfl⟩, fun r ρ' e => ?_⟩
  rw [e _ rfl]
  clear e
  refine ⟨trivial, rfl, List.nodup_nil, key h (by omega) (by omega) fun ρ' => ?_⟩
  try simp only [pwipe1, pwipe2, back_hd, back_pu2, back_pu1, List.set_cons_succ, List.set_cons_zero]
  refine ⟨_, rfl, _, rfl, _, rfl, mlNo (by decide +kernel) (by decide +kernel) (by decide +kernel), _, rfl, trivial, rfl, List.nodup_nil, [_], rfl, ⟨l, rfl⟩, fun r ρ' e => ?_⟩
  rw [e _ rfl]
  clear e
  refine ⟨trivial, rfl, List.nodup_nil, key l (by omega) (by omega) fun ρ' => ?_⟩
  refine ⟨_, _, rfl, rfl, ?_⟩
  try simp only [pwipe1, pwipe2, back_hd, back_pu2, back_pu1, List.set_cons_succ, List.set_cons_zero]
  refine ⟨_, rfl, _, rfl, mlNo (by decide +kernel) (by decide +kernel) (by decide +kernel), _, rfl, trivial, rfl, List.nodup_nil, [_], rfl, ⟨u, rfl⟩, fun r ρ' e => ?_⟩
  rw [e _ rfl]
  clear e
  refine ⟨trivial, rfl, List.nodup_nil, key u (by omega) (by omega) fun ρ' => ?_⟩
  refine ⟨_, rfl, _, _, rfl, rfl, ?_⟩
  try simp only [pwipe1, pwipe2, back_hd, back_pu2, back_pu1, List.set_cons_succ, List.set_cons_zero]
  have q1 : (h - l).natAbs < 2 ^ 11 := by omega
  have q2 : (u - h).natAbs < 2 ^ 11 := by omega
  have q3 := abs_sub_lt (bm u (by omega) (by omega)) (bm h (by omega) (by omega))
  have q4 := abs_sub_lt (bm h (by omega) (by omega)) (bm l (by omega) (by omega))
  have q5 : ((h - l) * (u - h)).natAbs < 2 ^ 22 := abs_mul_lt q1 q2
  have q6 : ((momT (ows B ws) u 1 - momT (ows B ws) h 1) * (h - l)).natAbs < 2 ^ 162 := abs_mul_lt q3 q1
  have q7 : ((momT (ows B ws) h 1 - momT (ows B ws) l 1) * (u - h)).natAbs < 2 ^ 162 := abs_mul_lt q4 q2
  have q8 := abs_sub_lt q6 q7
  have q9 : ((h - l) * (u - h) * B).natAbs < 2 ^ 74 := abs_mul_lt q5 B1
  have pos : 0 < (h - l) * (u - h) * B := Int.mul_pos (Int.mul_pos (by omega) (by omega)) B0
  refine ⟨_, rfl, _, rfl, _, rfl, _, _, rfl, rfl, _, _, rfl, rfl, mul_ok q3 q1 (by decide), _, rfl, _, rfl, _, rfl, _, _, rfl, rfl, _, _, rfl, rfl, mul_ok q4 q2 (by decide), _, _, rfl, rfl, _, rfl, _, rfl, _, _, rfl, rfl, _, rfl, _, rfl, _, _, rfl, rfl, _, _, rfl, rfl, mul_ok q1 q2 (by decide), _, rfl, _, _, _, rfl, T.c_Moments, T.f_bottom, mlBottom, _, _, rfl, rfl, mul_ok q5 B1 (by decide), trivial, trivial, [_, _], rfl, (by show 2 ≤ 100000; decide), ?_⟩
  exact k _ _ _ (by omega) (by omega) (by omega) (laid_eq lh hu B0 (momT_eq dz) (momT_eq dz) (momT_eq dz))

theorem ok_Moments__above (T : Txt K mg a fd tk) : FnOk P w K mg base CX0 3 (a 26) (fd 26) ["self", "left", "right", "place"] (spD K 4 (wAbv (a 114))) := by
  refine ok0 T.F_Moments__above sc_Moments__above (fun _ _ _ h => h) fun cdv A outer s H E hr => ?_
  refine ⟨_, (pss_cons (ps_asg (pv 3) (pg_tup rfl (pgs_cons (pg_name (i := 4) sc_Moments__above.nd rfl (by first | exact Or.inl rfl | exact Or.inr rfl)) (pgs_cons (pg_name (i := 5) sc_Moments__above.nd rfl (by first | exact Or.inl rfl | exact Or.inr rfl)) pgs_nil))))
      (pss_cons (ps_set (i := 6) sc_Moments__above.nd rfl (by first | exact Or.inl rfl | exact Or.inr rfl) (pe_op op_add (pe_op op_mulA (pe_meth (pv 0) T.c_Moments T.m_Moments__moment (ok_Moments__moment T) (hr.mono (by decide)) T.b_Moments__moment .nil pass0 (pa_cons (pe_call (ok_of_whole T) (hr.mono (by decide)) rfl T.n_of_whole T.F_of_whole.kp T.b_of_whole .nil pass0 (pa_cons (pv 1) pa_nil)) pa_nil)) (pe_op op_sub (pe_op op_mulA (pv 2) (pv 5)) (pv 4))) (pe_op op_mulA (pe_meth (pv 0) T.c_Moments T.m_Moments__moment (ok_Moments__moment T) (hr.mono (by decide)) T.b_Moments__moment .nil pass0 (pa_cons (pe_call (ok_of_whole T) (hr.mono (by decide)) rfl T.n_of_whole T.F_of_whole.kp T.b_of_whole .nil pass0 (pa_cons (pv 2) pa_nil)) pa_nil)) (pe_op op_sub (pv 4) (pe_op op_mulA (pv 1) (pv 5))))))
      (pss_one (ps_ret (pe_tup (pa_cons (pe_op op_sub (pv 6) (pe_op op_mulA (pe_meth (pv 0) T.c_Moments T.m_Moments__moment (ok_Moments__moment T) (hr.mono (by decide)) T.b_Moments__moment .nil pass0 (pa_cons (pv 3) pa_nil)) (pe_op op_sub (pv 2) (pv 1)))) (pa_cons (pv 5) pa_nil))))))), ?_⟩
  try dsimp only [cxOf, List.map, List.length_cons, List.length_nil]
  refine ⟨_, inferInstance, ?_⟩
  rintro ρ Ξ Φ ⟨B, ws, m, l, u, q, rfl, B0, hw, B1, hz, hq, l0, lu, u1, k⟩
  have bz : ∀ z ∈ ws, BtW z := fun z hm => (hz z hm).1
  have dz : ∀ z ∈ ws, (z.1.den : Int) * (z.2.den : Int) ∣ B := fun z hm => (hz z hm).2
  have bm : ∀ p : Int, -1 ≤ p → p ≤ 1001 → (momT (ows B ws) p 1).natAbs < 2 ^ 150 := fun p h0 h1 => momT_bt hw B1 bz (by omega) (by decide)
  have hqb := pl_bt bz hq
  have hqn : q.num.natAbs < 2 ^ 30 := hqb.1
  have hqd : ((q.den : Int)).natAbs < 2 ^ 20 := by have := hqb.2; omega
  have bq := momT_btW hw B1 bz hqn hqd
  have key : ∀ (p : Int), -1 ≤ p → p ≤ 1001 → ∀ {Ψ : D → Ab → Prop}, (∀ ρ', Ψ (.int (momT (ows B ws) p 1)) ρ') → wMom (a 114) (pus [.obj (a 114) (mfl B (ws.map (owD B)) m), trkD (p : Rat)]) X0 Ψ := fun p h0 h1 Ψ hk => ⟨B, ws, m, (p : Rat), rfl, hw, B1, bz, .inl (pl_int (by omega) (by omega)), hk⟩
  have r1 : (u * (q.den : Int)).natAbs < 2 ^ 31 := abs_mul_lt (n := 11) (by omega) hqd
  have r2 : (l * (q.den : Int)).natAbs < 2 ^ 31 := abs_mul_lt (n := 11) (by omega) hqd
  have r3 := abs_sub_lt r1 (Nat.lt_of_lt_of_le hqn (show 2 ^ 30 ≤ 2 ^ 31 by decide))
  have r4 := abs_sub_lt (Nat.lt_of_lt_of_le hqn (show 2 ^ 30 ≤ 2 ^ 31 by decide)) r2
  have r5 := abs_mul_lt (bm l (by omega) (by omega)) r3
  have r6 := abs_mul_lt (bm u (by omega) (by omega)) r4
  have r7 : (u - l).natAbs < 2 ^ 11 := by omega
  have r8 := abs_mul_lt bq r7
  have r9 := abs_add_lt r5 r6
  have r10 := abs_sub_lt r9 (Nat.lt_of_lt_of_le r8 (show 2 ^ (160 + 11) ≤ 2 ^ (150 + (31 + 1) + 1) by decide))
  refine ⟨_, rfl, [.int q.num, .int q.den], rfl, rfl, _, _, rfl, _, _, rfl, rfl, ?_⟩
  try simp only [pwipe1, pwipe2, back_hd, back_pu2, back_pu1, List.set_cons_succ, List.set_cons_zero]
  refine ⟨_, rfl, _, rfl, mlNo (by decide +kernel) (by decide +kernel) (by decide +kernel), _, rfl, trivial, rfl, List.nodup_nil, [_], rfl, ⟨l, rfl⟩, fun r ρ' e => ?_⟩
  rw [e _ rfl]
  clear e
  refine ⟨trivial, rfl, List.nodup_nil, key l (by omega) (by omega) fun ρ' => ?_⟩
  try simp only [pwipe1, pwipe2, back_hd, back_pu2, back_pu1, List.set_cons_succ, List.set_cons_zero]
  refine ⟨_, rfl, _, rfl, _, _, rfl, rfl, mul_ok (n := 11) (by omega) hqd (by decide), _, rfl, _, _, rfl, rfl, _, _, rfl, rfl, mul_ok (bm l (by omega) (by omega)) r3 (by decide), ?_⟩
  refine ⟨_, rfl, _, rfl, mlNo (by decide +kernel) (by decide +kernel) (by decide +kernel), _, rfl, trivial, rfl, List.nodup_nil, [_], rfl, ⟨u, rfl⟩, fun r ρ' e => ?_⟩
  rw [e _ rfl]
  clear e
  refine ⟨trivial, rfl, List.nodup_nil, key u (by omega) (by omega) fun ρ' => ?_⟩
  try simp only [pwipe1, pwipe2, back_hd, back_pu2, back_pu1, List.set_cons_succ, List.set_cons_zero]
  refine ⟨_, rfl, _, rfl, _, rfl, _, _, rfl, rfl, mul_ok (n := 11) (by omega) hqd (by decide), _, _, rfl, rfl, _, _, rfl, rfl, mul_ok (bm u (by omega) (by omega)) r4 (by decide), _, _, rfl, rfl, ?_⟩
  try simp only [pwipe1, pwipe2, back_hd, back_pu2, back_pu1, List.set_cons_succ, List.set_cons_zero]
  refine ⟨_, rfl, _, rfl, _, rfl, mlNo (by decide +kernel) (by decide +kernel) (by decide +kernel), _, rfl, trivial, rfl, List.nodup_nil, ⟨B, ws, m, q, rfl, hw, B1, bz, hq, fun ρ' => ?_⟩⟩
  try simp only [pwipe1, pwipe2, back_hd, back_pu2, back_pu1, List.set_cons_succ, List.set_cons_zero]
  refine ⟨_, rfl, _, rfl, _, _, rfl, rfl, _, _, rfl, rfl, mul_ok bq r7 (by decide), _, _, rfl, rfl, _, rfl, trivial, trivial, [_, _], rfl, (by show 2 ≤ 100000; decide), ?_⟩
  exact k _ _ (Nat.lt_of_lt_of_le r10 (Nat.pow_le_pow_right (by decide) (by decide))) (above_eq (momT_eq dz) (momT_eq dz) (momT_eqQ dz))

theorem ok_Moments_bend (T : Txt K mg a fd tk) : FnOk P w K mg base CX0 4 (a 27) (fd 27) ["self", "left", "right", "place"] (spD K 4 (wBnd (a 114))) := by
  refine ok0 T.F_Moments_bend sc_Moments_bend (fun _ _ _ h => h) fun cdv A outer s H E hr => ?_
  refine ⟨_, (pss_cons (ps_asg (pe_meth (pv 0) T.c_Moments T.m_Moments__above (ok_Moments__above T) (hr.mono (by decide)) T.b_Moments__above .nil pass0 (pa_cons (pv 1) (pa_cons (pv 2) (pa_cons (pv 3) pa_nil)))) (pg_tup rfl (pgs_cons (pg_name (i := 4) sc_Moments_bend.nd rfl (by first | exact Or.inl rfl | exact Or.inr rfl)) (pgs_cons (pg_name (i := 5) sc_Moments_bend.nd rfl (by first | exact Or.inl rfl | exact Or.inr rfl)) pgs_nil))))
      (pss_one (ps_ret (pe_call (ok_reduced T) (hr.mono (by decide)) rfl T.n_reduced T.F_reduced.kp T.b_reduced .nil pass0 (pa_cons (pv 4) (pa_cons (pe_op op_mulA (pe_op op_mulA (pv 5) (pe_op op_sub (pv 2) (pv 1))) (pe_fld (pv 0) rfl)) pa_nil)))))), ?_⟩
  try dsimp only [cxOf, List.map, List.length_cons, List.length_nil]
  refine ⟨_, inferInstance, ?_⟩
  rintro ρ Ξ Φ ⟨ws, d, l, u, q, rfl, ⟨B, m, rfl, B0, B1, hw, hz⟩, hq, l0, lu, u1, k⟩
  have bz : ∀ z ∈ ws, BtW z := fun z hm => (hz z hm).1
  have hqd : ((q.den : Int)).natAbs < 2 ^ 20 := by have := (pl_bt bz hq).2; omega
  have qp : 0 < (q.den : Int) := by have := q.den_pos; omega
  have r1 : ((q.den : Int) * (u - l)).natAbs < 2 ^ 31 := abs_mul_lt hqd (m := 11) (by omega)
  have r2 := abs_mul_lt r1 B1
  have pos : 0 < (q.den : Int) * (u - l) * B := Int.mul_pos (Int.mul_pos qp (by omega)) B0
  refine ⟨_, rfl, _, rfl, mlNo (by decide +kernel) (by decide +kernel) (by decide +kernel), _, rfl, _, rfl, _, rfl, trivial, trivial, trivial, rfl, List.nodup_nil, ⟨B, ws, m, l, u, q, rfl, B0, hw, B1, hz, hq, l0, lu, u1, fun t ρ' tb te => ?_⟩⟩
  refine ⟨[.int t, .int (q.den : Int)], rfl, rfl, _, _, rfl, _, _, rfl, rfl, ?_⟩
  try simp only [pwipe1, pwipe2, back_hd, back_pu2, back_pu1, List.set_cons_succ, List.set_cons_zero]
  refine ⟨_, rfl, _, rfl, _, rfl, _, rfl, _, _, rfl, rfl, _, _, rfl, rfl, mul_ok hqd (m := 11) (by omega) (by decide), _, rfl, _, _, _, rfl, T.c_Moments, T.f_bottom, mlBottom, _, _, rfl, rfl, mul_ok r1 B1 (by decide), trivial, trivial, rfl, List.nodup_nil, [_, _], rfl, ⟨_, _, rfl, by omega, abs_up r2 (by decide)⟩, fun r ρ' e => ?_⟩
  rw [e _ _ rfl, bend_eq lu B0 te]
  exact k _

theorem ok_Moments_greatest_bend (T : Txt K mg a fd tk) : FnOk P w K mg base CX0 5 (a 28) (fd 28) ["self", "left", "right"] (spD K 3 (wGreat (a 114))) := by
  refine ok0 T.F_Moments_greatest_bend sc_Moments_greatest_bend (fun _ _ _ h => h) fun cdv A outer s H E hr => ?_
  refine ⟨_, (pss_cons (ps_par (i := 3) (j := 4) (by rfl) sc_Moments_greatest_bend.nd rfl rfl (by decide) rfl rfl (pa_cons (pe_call (ok_of_whole T) (hr.mono (by decide)) rfl T.n_of_whole T.F_of_whole.kp T.b_of_whole .nil pass0 (pa_cons (pv 1) pa_nil)) (pa_cons (pe_call (ok_of_whole T) (hr.mono (by decide)) rfl T.n_of_whole T.F_of_whole.kp T.b_of_whole .nil pass0 (pa_cons (pv 2) pa_nil)) pa_nil)) (by rfl))
      (pss_cons (ps_par (i := 5) (j := 6) (by rfl) sc_Moments_greatest_bend.nd rfl rfl (by decide) rfl rfl (pa_cons (PE.constT [0, 1] (pe_glob (v := .ref (a 120)) rfl T.n_NOUGHT rfl) T.t_NOUGHT) (pa_cons (pv 3) pa_nil)) (by rfl))
      (pss_cons (ps_for PassesOwn.never rfl (pi_list (pe_fld (pv 0) rfl)) (pg_tup rfl (pgs_cons (pg_name (i := 7) sc_Moments_greatest_bend.nd rfl (by first | exact Or.inl rfl | exact Or.inr rfl)) (pgs_cons (pg_name (i := 8) sc_Moments_greatest_bend.nd rfl (by first | exact Or.inl rfl | exact Or.inr rfl)) (pgs_cons (pg_name (i := 8) sc_Moments_greatest_bend.nd rfl (by first | exact Or.inl rfl | exact Or.inr rfl)) pgs_nil)))) (pss_one (ps_if (PW.pt (pw_and (pt_val (pe_call (ok_is_below T) (hr.mono (by decide)) rfl T.n_is_below T.F_is_below.kp T.b_is_below .nil pass0 (pa_cons (pv 3) (pa_cons (pv 7) pa_nil)))) (pw_and1 (pt_val (pe_call (ok_is_below T) (hr.mono (by decide)) rfl T.n_is_below T.F_is_below.kp T.b_is_below .nil pass0 (pa_cons (pv 7) (pa_cons (pv 4) pa_nil))))))) (pss_cons (ps_set (i := 9) sc_Moments_greatest_bend.nd rfl (by first | exact Or.inl rfl | exact Or.inr rfl) (pe_meth (pv 0) T.c_Moments T.m_Moments__above (ok_Moments__above T) (hr.mono (by decide)) T.b_Moments__above .nil pass0 (pa_cons (pv 1) (pa_cons (pv 2) (pa_cons (pv 7) pa_nil)))))
      (pss_one (ps_if (PW.pt (pw_or (pt_val (pe_call (ok_is_belowG T) (hr.mono (by decide)) rfl T.n_is_below T.F_is_below.kp T.b_is_below .nil pass0 (pa_cons (pv 5) (pa_cons (pv 9) pa_nil)))) (pw_or1 (PW.pt (pw_and (pt_not (pt_val (pe_call (ok_is_belowG T) (hr.mono (by decide)) rfl T.n_is_below T.F_is_below.kp T.b_is_below .nil pass0 (pa_cons (pv 9) (pa_cons (pv 5) pa_nil))))) (pw_and1 (pt_val (pe_call (ok_is_below T) (hr.mono (by decide)) rfl T.n_is_below T.F_is_below.kp T.b_is_below .nil pass0 (pa_cons (pv 7) (pa_cons (pv 6) pa_nil)))))))))) (pss_one (ps_par (i := 5) (j := 6) (by rfl) sc_Moments_greatest_bend.nd rfl rfl (by decide) rfl rfl (pa_cons (pv 9) (pa_cons (pv 7) pa_nil)) (by rfl))) pss_nil))) pss_nil)))
      (pss_one (ps_ret (pe_tup (pa_cons (pe_meth (pv 0) T.c_Moments T.m_Moments_bend (ok_Moments_bend T) (hr.mono (by decide)) T.b_Moments_bend .nil pass0 (pa_cons (pv 1) (pa_cons (pv 2) (pa_cons (pv 6) pa_nil)))) (pa_cons (pv 6) pa_nil)))))))), ?_⟩
  try dsimp only [cxOf, List.map, List.length_cons, List.length_nil]
  refine ⟨_, inferInstance, ?_⟩
  rintro ρ Ξ Φ ⟨ws, d, l, u, rfl, ⟨B, m, rfl, B0, B1, hw, hz⟩, l0, lu, u1, k⟩
  have bz : ∀ z ∈ ws, BtW z := fun z hm => (hz z hm).1
  have hm : MomOk ws (a 114) (.obj (a 114) (mfl B (ws.map (owD B)) m)) := ⟨B, m, rfl, B0, B1, hw, hz⟩
  have yp : (0 : Rat) < (((u - l : Int)) : Rat) := by
    have : 0 < u - l := by omega
    exact_mod_cast this
  have bl : Bt 11 1 (l : Rat) := int_bt (by omega)
  have bu : Bt 11 1 (u : Rat) := int_bt (by omega)
  have bwh : ∀ q : Rat, (q = (l : Rat) ∨ ∃ z ∈ ws, q = z.1) → Bt 30 20 q := fun q h => by
    rcases h with rfl | ⟨z, hm, rfl⟩
    · exact bl.mono (by decide) (by decide)
    · exact (bz z hm).1
  refine ⟨_, rfl, trivial, rfl, List.nodup_nil, [_], rfl, ⟨l, rfl⟩, fun r1 ρ1 e1 => ?_⟩
  rw [e1 _ rfl]
  refine ⟨_, rfl, trivial, rfl, List.nodup_nil, [_], rfl, ⟨u, rfl⟩, fun r2 ρ2 e2 => ?_⟩
  rw [e2 _ rfl]
  clear e1 e2
  refine ⟨trivial, trivial, _, _, rfl, ?_⟩
  try simp only [pwipe1, pwipe2, back_hd, back_pu2, back_pu1, List.set_cons_succ, List.set_cons_zero]
  refine ⟨_, rfl, trivial, trivial, _, _, rfl, ?_⟩
  try simp only [pwipe1, pwipe2, back_hd, back_pu2, back_pu1, List.set_cons_succ, List.set_cons_zero]
  refine ⟨_, rfl, _, _, _, rfl, T.c_Moments, T.f_weights, mlWeights, ws.map (owD B), rfl, fun i ρ => ∃ (s : Rat × Rat) (mo : D) (a7 a8 a9 : Option Sl), ρ = [some (.pu (.obj (a 114) (mfl B (ws.map (owD B)) m))), some (.pu (.int l)), some (.pu (.int u)), some (.pu (trkD (l : Rat))), some (.pu (trkD (u : Rat))), some (.pu mo), some (.pu (trkD s.2)), a7, a8, a9] ∧ s = gfold ws l u ((ws.map fun z => z.1).take i) ∧ GrOk B ws l u s mo, ⟨(0, (l : Rat)), _, _, _, _, rfl, rfl, 0, 1, rfl, by decide, by decide, by decide, ?_, .inl rfl⟩, ?_, ?_⟩
  · show (((0 : Int)) : Rat) = (B : Rat) * (((1 : Int)) : Rat) * (0 * _)
    rw [Rat.zero_mul, Rat.mul_zero]
    rfl
  · rintro i e ρ hi ⟨s, mo, a7, a8, a9, rfl, es, t, b, em, tb, b0, bb, et, pw⟩
    rw [List.getElem?_map] at hi
    obtain ⟨z, hj, rfl⟩ := Option.map_eq_some_iff.mp hi
    have hzm := List.mem_of_getElem? hj
    have bz1 := bz z hzm
    have nx : gfold ws l u ((ws.map fun z => z.1).take (i + 1)) = gstep ws l u s z.1 := by
      rw [es]
      exact gfold_next (by rw [List.getElem?_map, hj]; rfl)
    refine ⟨[trkD z.1, .int (wtI B z), .int (tnI B z)], rfl, rfl, _, _, rfl, _, _, rfl, _, _, rfl, rfl, ?_⟩
    try simp only [pwipe1, pwipe2, back_hd, back_pu2, back_pu1, List.set_cons_succ, List.set_cons_zero]
    refine ⟨_, rfl, _, rfl, trivial, trivial, rfl, List.nodup_nil, ⟨_, _, (l : Rat), z.1, rfl, .inr rfl, .inr rfl, bl.mono (by decide) (by decide), bz1.1.mono (by decide) (by decide), fun ρ' => ?_⟩⟩
    refine ⟨_, rfl, ?_⟩
    unfold gstep at nx
    have fin0 : ∀ (a7 a8 a9 : Option Sl) (h : gfold ws l u ((ws.map fun z => z.1).take (i + 1)) = s), ∃ (s' : Rat × Rat) (mo' : D) (b7 b8 b9 : Option Sl), ([some (.pu (.obj (a 114) (mfl B (ws.map (owD B)) m))), some (.pu (.int l)), some (.pu (.int u)), some (.pu (trkD (l : Rat))), some (.pu (trkD (u : Rat))), some (.pu mo), some (.pu (trkD s.2)), a7, a8, a9] : Ab) = [some (.pu (.obj (a 114) (mfl B (ws.map (owD B)) m))), some (.pu (.int l)), some (.pu (.int u)), some (.pu (trkD (l : Rat))), some (.pu (trkD (u : Rat))), some (.pu mo'), some (.pu (trkD s'.2)), b7, b8, b9] ∧ s' = gfold ws l u ((ws.map fun z => z.1).take (i + 1)) ∧ GrOk B ws l u s' mo' := fun a7 a8 a9 h => ⟨s, mo, a7, a8, a9, rfl, h.symm, t, b, em, tb, b0, bb, et, pw⟩
    show if decide ((l : Rat) < z.1) = true then _ else _
    by_cases c1 : (l : Rat) < z.1
    · rw [decide_eq_true c1]
      rw [if_pos c1] at nx
      refine ⟨_, rfl, _, rfl, trivial, trivial, rfl, List.nodup_nil, ⟨_, _, z.1, (u : Rat), rfl, .inr rfl, .inr rfl, bz1.1.mono (by decide) (by decide), bu.mono (by decide) (by decide), fun ρ' => ?_⟩⟩
      refine ⟨_, rfl, ?_⟩
      show if decide (z.1 < (u : Rat)) = true then _ else _
      by_cases c2 : z.1 < (u : Rat)
      · rw [decide_eq_true c2]
        rw [if_pos c2] at nx
        refine ⟨_, rfl, _, rfl, mlNo (by decide +kernel) (by decide +kernel) (by decide +kernel), _, rfl, _, rfl, _, rfl, trivial, trivial, trivial, rfl, List.nodup_nil, ⟨B, ws, m, l, u, z.1, rfl, B0, hw, B1, hz, .inr ⟨z, hzm, rfl⟩, l0, lu, u1, fun t' ρ' tb' te' => ?_⟩⟩
        try simp only [pwipe1, pwipe2, back_hd, back_pu2, back_pu1, List.set_cons_succ, List.set_cons_zero]
        rw [above_bend lu] at te'
        have dp : 0 < (z.1.den : Int) := by have := z.1.den_pos; omega
        have db : ((z.1.den : Int)).natAbs < 2 ^ 20 := by have := bz1.1.2; omega
        have up : ∀ {x : Int}, x.natAbs < 2 ^ 200 → x.natAbs < 2 ^ 1000 := fun h => Nat.lt_of_lt_of_le h (Nat.pow_le_pow_right (by decide) (by decide))
        have up2 : ∀ {x : Int}, x.natAbs < 2 ^ 20 → x.natAbs < 2 ^ 1000 := fun h => Nat.lt_of_lt_of_le h (Nat.pow_le_pow_right (by decide) (by decide))
        refine ⟨_, rfl, _, rfl, trivial, trivial, rfl, List.nodup_nil, ⟨mo, .tup [.int t', .int (z.1.den : Int)], t, b, t', (z.1.den : Int), rfl, em, rfl, ⟨up tb, up2 bb⟩, ⟨up tb', up2 db⟩, fun ρ' => ?_⟩⟩
        refine ⟨_, rfl, ?_⟩
        show if decide (t * (z.1.den : Int) < t' * b) = true then _ else _
        rw [cmp_above B0 yp b0 dp et te']
        by_cases c3 : s.1 < bendQ ws l u z.1
        · rw [decide_eq_true c3]
          rw [if_pos c3] at nx
          refine ⟨_, rfl, _, rfl, trivial, trivial, _, _, rfl, ?_⟩
          try simp only [pwipe1, pwipe2, back_hd, back_pu2, back_pu1, List.set_cons_succ, List.set_cons_zero]
          exact ⟨(bendQ ws l u z.1, z.1), _, _, _, _, rfl, nx.symm, t', (z.1.den : Int), rfl, tb', dp, db, te', .inr ⟨z, hzm, rfl⟩⟩
        · rw [decide_eq_false c3]
          rw [if_neg c3] at nx
          refine ⟨_, rfl, _, rfl, trivial, trivial, rfl, List.nodup_nil, ⟨.tup [.int t', .int (z.1.den : Int)], mo, t', (z.1.den : Int), t, b, rfl, rfl, em, ⟨up tb', up2 db⟩, ⟨up tb, up2 bb⟩, fun ρ' => ?_⟩⟩
          refine ⟨_, rfl, ?_⟩
          show if (!decide (t' * b < t * (z.1.den : Int))) = true then _ else _
          rw [cmp_above B0 yp dp b0 te' et]
          by_cases c4 : bendQ ws l u z.1 < s.1
          · rw [decide_eq_true c4]
            rw [if_pos c4] at nx
            exact fin0 _ _ _ nx
          · rw [decide_eq_false c4]
            rw [if_neg c4] at nx
            refine ⟨_, rfl, _, rfl, trivial, trivial, rfl, List.nodup_nil, ⟨_, _, z.1, s.2, rfl, .inr rfl, .inr rfl, bz1.1.mono (by decide) (by decide), (bwh s.2 pw).mono (by decide) (by decide), fun ρ' => ?_⟩⟩
            refine ⟨_, rfl, ?_⟩
            show if decide (z.1 < s.2) = true then _ else _
            by_cases c5 : z.1 < s.2
            · rw [decide_eq_true c5]
              rw [if_pos c5] at nx
              refine ⟨_, rfl, _, rfl, trivial, trivial, _, _, rfl, ?_⟩
              try simp only [pwipe1, pwipe2, back_hd, back_pu2, back_pu1, List.set_cons_succ, List.set_cons_zero]
              exact ⟨(bendQ ws l u z.1, z.1), _, _, _, _, rfl, nx.symm, t', (z.1.den : Int), rfl, tb', dp, db, te', .inr ⟨z, hzm, rfl⟩⟩
            · rw [decide_eq_false c5]
              rw [if_neg c5] at nx
              exact fin0 _ _ _ nx
      · rw [decide_eq_false c2]
        rw [if_neg c2] at nx
        exact fin0 _ _ _ nx
    · rw [decide_eq_false c1]
      rw [if_neg c1] at nx
      exact fin0 _ _ _ nx
  · rintro ρ ⟨s, mo, a7, a8, a9, rfl, es, t, b, em, tb, b0, bb, et, pw⟩
    rw [List.length_map, show ws.length = (ws.map fun z => z.1).length from by rw [List.length_map], List.take_length] at es
    have hp : PlOk s.2 ∨ ∃ z ∈ ws, s.2 = z.1 := by
      rcases pw with h | h
      · rw [h]
        exact .inl (pl_int (by omega) (by omega))
      · exact .inr h
    refine ⟨_, rfl, _, rfl, mlNo (by decide +kernel) (by decide +kernel) (by decide +kernel), _, rfl, _, rfl, _, rfl, trivial, trivial, trivial, rfl, List.nodup_nil, ⟨ws, _, l, u, s.2, rfl, hm, hp, l0, lu, u1, fun ρ' => ?_⟩⟩
    try simp only [pwipe1, pwipe2, back_hd, back_pu2, back_pu1, List.set_cons_succ, List.set_cons_zero]
    refine ⟨_, rfl, trivial, trivial, [_, _], rfl, (by show 2 ≤ 100000; decide), ?_⟩
    rw [es]
    exact k _

end
end K06
set_option synthInstance.maxSize 100000
set_option synthInstance.maxHeartbeats 4000000
set_option Elab.async false
set_option linter.all false
set_option maxRecDepth 100000
set_option maxHeartbeats 4000000
set_option autoImplicit false
namespace K06
open PySem L2 Dx Kd
/-! ### dicts of ints -/
theorem valD_put_same {es : List (Key × D)} {k : Key} {z : D} : valD (putKD es k z) k = some z := by
  unfold putKD valD
  split
  · rename_i h
    induction es with
    | nil => cases h
    | cons e es ih =>
      rw [List.map_cons, List.find?_cons]
      by_cases c : e.1 = k
      · rw [if_pos c]
        simp [c]
      · rw [if_neg c]
        have : (decide (e.1 = k)) = false := decide_eq_false c
        rw [this]
        refine ih ?_
        rw [List.any_cons, this] at h
        exact h
  · rename_i h
    rw [List.find?_append]
    have : es.find? (fun kv => decide (kv.1 = k)) = none := by
      rw [List.find?_eq_none]
      intro x hx hk
      exact h (List.any_eq_true.mpr ⟨x, hx, hk⟩)
    rw [this]
    simp
theorem valD_put_ne {es : List (Key × D)} {k k' : Key} {z : D} (hk : k' ≠ k) : valD (putKD es k z) k' = valD es k' := by
  unfold putKD valD
  split
  · rename_i hany
    clear hany
    induction es with
    | nil => rfl
    | cons e es ih =>
      rw [List.map_cons, List.find?_cons, List.find?_cons]
      by_cases c : e.1 = k
      · rw [if_pos c]
        have : decide (e.1 = k') = false := decide_eq_false (fun z => hk (z.symm.trans c))
        show ((match decide (e.1 = k') with | true => some (e.1, z) | false => _).map _) = _
        rw [this]
        exact ih
      · rw [if_neg c]
        cases decide (e.1 = k')
        · exact ih
        · rfl
  · rw [List.find?_append]
    have : decide (k = k') = false := decide_eq_false (fun z => hk z.symm)
    cases es.find? (fun kv => decide (kv.1 = k')) with
    | some x => rfl
    | none => simp [List.find?_cons, this]
theorem mem_put {es : List (Key × D)} {k k' : Key} {z d : D} (h : (k', d) ∈ putKD es k z) : (k' = k ∧ d = z) ∨ (k', d) ∈ es := by
  unfold putKD at h
  split at h
  · obtain ⟨⟨a, b⟩, hm, e⟩ := List.mem_map.mp h
    by_cases c : a = k
    · rw [if_pos c] at e
      cases e
      exact .inl ⟨c, rfl⟩
    · rw [if_neg c] at e
      cases e
      exact .inr hm
  · rcases List.mem_append.mp h with h | h
    · exact .inr h
    · cases List.mem_singleton.mp h
      exact .inl ⟨rfl, rfl⟩
theorem len_put {es : List (Key × D)} {k : Key} {z : D} : (putKD es k z).length ≤ es.length + 1 := by
  unfold putKD
  split
  · rw [List.length_map]; omega
  · rw [List.length_append]; exact Nat.le_refl _
theorem valD_mem {es : List (Key × D)} {k : Key} {d : D} (h : valD es k = some d) : (k, d) ∈ es := by
  unfold valD at h
  obtain ⟨⟨a, b⟩, hf, rfl⟩ := Option.map_eq_some_iff.mp h
  have hm := List.mem_of_find?_eq_some hf
  have hk := List.find?_some hf
  have hk : a = k := of_decide_eq_true hk
  subst hk
  exact hm
/-- keys are ints that P holds of, values as R says -/
def KOk (es : List (Key × D)) (R : Int → D → Prop) (P : Int → Prop) : Prop := (∀ k d, (k, d) ∈ es → ∃ r : Int, k = .inl r ∧ P r ∧ R r d) ∧ ∀ r, P r → ∃ d, valD es (.inl r) = some d ∧ R r d
theorem KOk.nil {R : Int → D → Prop} {P : Int → Prop} (h : ∀ r, ¬ P r) : KOk [] R P := ⟨(fun k d hm => nomatch hm), fun r hr => absurd hr (h r)⟩
theorem KOk.put {es : List (Key × D)} {R : Int → D → Prop} {P P' : Int → Prop} {r : Int} {d : D} (h : KOk es R P) (hr : R r d) (hP : ∀ x, P' x ↔ (P x ∨ x = r)) : KOk (putKD es (.inl r) d) R P' := by
  refine ⟨fun k e hm => ?_, fun x hx => ?_⟩
  · rcases mem_put hm with ⟨rfl, rfl⟩ | hm
    · exact ⟨r, rfl, (hP r).mpr (.inr rfl), hr⟩
    · obtain ⟨x, e1, e2, e3⟩ := h.1 k e hm
      exact ⟨x, e1, (hP x).mpr (.inl e2), e3⟩
  · by_cases c : x = r
    · subst c
      exact ⟨d, valD_put_same, hr⟩
    · rcases (hP x).mp hx with hx | hx
      · obtain ⟨e, e1, e2⟩ := h.2 x hx
        exact ⟨e, by rw [valD_put_ne (fun z => c (Sum.inl.inj z))]; exact e1, e2⟩
      · exact absurd hx c
theorem KOk.congr {es : List (Key × D)} {R : Int → D → Prop} {P P' : Int → Prop} (h : KOk es R P) (hP : ∀ x, P' x ↔ P x) : KOk es R P' :=
  ⟨fun k d hm => by obtain ⟨r, a, b, c⟩ := h.1 k d hm; exact ⟨r, a, (hP r).mpr b, c⟩, fun r hr => h.2 r ((hP r).mp hr)⟩
theorem put_miss {f g : Str} {v x : D} {r : List (Str × D)} (h : ¬ g = f) : putFD f v ((g, x) :: r) = (g, x) :: putFD f v r := by
  show (if g = f then _ else _) = _
  rw [if_neg h]
theorem put_hit {f : Str} {v x : D} {r : List (Str × D)} : putFD f v ((f, x) :: r) = (f, v) :: r := by
  show (if f = f then _ else _) = _
  rw [if_pos rfl]
def Rp (L : Int) (xs : List D) (r : Int) (d : D) : Prop := d = .int (pE L xs r)
theorem rngm_at {n j : Nat} {d : D} (h : (rngD (-1) n)[j]? = some d) : d = .int ((j : Int) - 1) ∧ j < n := by
  unfold rngD at h
  rw [List.getElem?_map] at h
  obtain ⟨x, hx, rfl⟩ := Option.map_eq_some_iff.mp h
  obtain ⟨hj, e⟩ := List.getElem?_eq_some_iff.mp hx
  rw [List.getElem_range] at e
  rw [List.length_range] at hj
  subst e
  exact ⟨by show D.int (-1 + (j : Int)) = _; rw [show (-1 + (j : Int)) = (j : Int) - 1 from by omega], hj⟩
theorem pE_in {L : Int} {xs : List D} {r : Int} (h0 : -1 ≤ r) (h1 : r ≤ xs.length) : pE L xs r = plcI L xs r := by
  unfold pE
  rw [if_neg (by omega), if_neg (by omega)]
theorem den_le {z : Rat × Rat} {L : Int} (h : WtOk L z) : 0 < z.1.den * z.2.den ∧ z.1.den * z.2.den ∣ 2079000000000000 := by
  refine ⟨Nat.mul_pos z.1.den_pos z.2.den_pos, ?_⟩
  rw [show 2079000000000000 = 3000000 * 693000000 from rfl]
  exact Nat.mul_dvd_mul h.2.2.2.1 h.2.2.2.2
theorem ent_mem {es : List (Key × D)} {R : Int → D → Prop} {P : Int → Prop} (h : KOk es R P) (r : Int) : P r ↔ ∃ j, j < es.length ∧ ∃ d, es[j]? = some (.inl r, d) := by
  constructor
  · intro hr
    obtain ⟨d, e, _⟩ := h.2 r hr
    obtain ⟨j, hj⟩ := List.getElem?_of_mem (valD_mem e)
    exact ⟨j, lt_of_some hj, d, hj⟩
  · rintro ⟨j, _, d, hj⟩
    obtain ⟨x, e, hx, _⟩ := h.1 _ _ (List.mem_of_getElem? hj)
    cases e
    exact hx
section
variable {c s p bo w m x : D}
theorem putM2 : putFD ("_weights" : Str) x ([("_bottom", c)] : List (Str × D)) = ([("_bottom", c), ("_weights", x)] : List (Str × D)) := by rw [put_miss (by decide +kernel)]; rfl
end
abbrev M1 (c : D) : List (Str × D) := [("_bottom", c)]
abbrev M2 (c s : D) : List (Str × D) := [("_bottom", c), ("_weights", s)]
abbrev stM (C : Addr) (ws : List (Rat × Rat)) (gs : List (Str × D)) (a2 a3 : Option Sl) : Ab := [some (.ow true (.ins C gs)), some (.pu (.lst (ws.map wtK))), a2, a3]
def wMInit (C : Addr) : PmM := fun ρ Φ => ∃ (L : Int) (ws : List (Rat × Rat)), ρ = [some (.ow true (.ins C [])), some (.pu (.lst (ws.map wtK)))] ∧ ws.length ≤ 16 ∧ (∀ z ∈ ws, WtOk L z) ∧ ∀ d, MomOk ws C d → Φ d
theorem own_head {p : Bool} {c : OC} {ρ : Ab} {vs : List V} {B H : Hp} {J : Hp → Prop} {a : Addr} (h : (gaOf B H (some (.ow p c) :: ρ) vs J).own 0 = some a) : vs.head? = some (.ref a) := by
  have h : ownOf (some (.ow p c) :: ρ) vs 0 = some a := h
  unfold ownOf at h
  split at h
  · rename_i x y h1 h2
    cases h
    cases vs with
    | nil => simp at h2
    | cons v vs => simpa using h2
  · cases h
theorem sc_bottom {K : PySem.W.Frag} {C : Addr} {f : Str} (h : NoAttr K C f) (m : memoName f = false) : NoAtM K C f := ⟨h, m⟩
section
variable {P : Program} {w : World} {K : PySem.W.Frag} {mg : Str → Option Value} {a : Nat → Addr} {fd : Nat → FuncData} {tk : Nat → Tok} {base : Heap}
theorem ok_Moments___init (T : Txt K mg a fd tk) : FnOk P w K mg base CX0 2 (a 22) (fd 22) ["self", "weights"] (spM K 2 (wMInit (a 114)) (a 114) ["_known"]) := by
  refine T.F_Moments___init.ok sc_Moments___init (fun vs H Q E h => spM_len h) fun cdv A outer s H vs Q E hr h => ?_
  refine ⟨_, (pss_cons (ps_fld (pv 0) pe_int rfl)
      (pss_cons (ps_for PassesOwn.never rfl (pi_list (pv 1)) (pg_tup rfl (pgs_cons (pg_name (i := 2) sc_Moments___init.nd rfl (by first | exact Or.inl rfl | exact Or.inr rfl)) (pgs_cons (pg_name (i := 3) sc_Moments___init.nd rfl (by first | exact Or.inl rfl | exact Or.inr rfl)) pgs_nil))) (pss_one (ps_fld (pv 0) (pe_callBfun cr_lcm rfl T.n_lcm (pa_cons (pe_fld (pv 0) rfl) (pa_cons (pe_op op_mulA (pe_ix (ix_ltK (K := K)) (pv 2) pe_int (fun _ _ => rfl)) (pe_ix (ix_ltK (K := K)) (pv 3) pe_int (fun _ _ => rfl))) pa_nil))) rfl)))
      (pss_cons (ps_fld (pv 0) (pe_lc (own := [("place", 2), ("weight", 3)]) (g := (gTup K 2 (gCons (gName 2) (gCons (gName 3) gNil)))) (by rfl) sc_Moments___init.nd (pi_list (pv 1)) (blkOk_by (own := [("place", 2), ("weight", 3)]) (N := N_Moments___init) (sc := defScope s_Moments___init) (by decide +kernel)) (fun _ _ _ _ _ => (pg_tup rfl (pgs_cons (pg_name (i := 2) sc_Moments___init.nd rfl (by first | exact Or.inl rfl | exact Or.inr rfl)) (pgs_cons (pg_name (i := 3) sc_Moments___init.nd rfl (by first | exact Or.inl rfl | exact Or.inr rfl)) pgs_nil)))) (fun _ _ _ _ _ => pts_nil) (fun _ _ _ _ _ => (pe_meth (pv 0) T.c_Moments T.m_Moments__over_bottom (ok_Moments__over_bottom T) (hr.mono (by decide)) T.b_Moments__over_bottom .nil pass0 (pa_cons (pv 2) (pa_cons (pv 3) pa_nil))))) rfl)
      (pss_one (ps_fld (pv 0) pe_dnewT rfl))))), ?_⟩
  try dsimp only [cxOf, List.map, List.length_cons, List.length_nil]
  have hl := spM_len h
  obtain ⟨J, B, ρ, Φ, h1, h2, ⟨L, ws, rfl, hw12, hz, hk⟩, h4⟩ := h
  have e : L2.start N_Moments___init vs = vs.map some ++ List.replicate 2 none := by unfold L2.start; rw [hl]; rfl
  rw [e]
  have r0 := h2.more 2
  obtain ⟨Γ0, hΓ⟩ : ∃ Γ0, Γ0 = gaOf B H [some (.ow true (.ins (a 114) [])), some (.pu (.lst (ws.map wtK)))] vs J := ⟨_, rfl⟩
  rw [← hΓ] at h4 r0
  clear h2
  refine seq_runS (fun ρ => ρ = stM (a 114) ws (M1 (.int 1)) none none) r0 ?_ fun B6 ρ6 σ6 H6 r6 s6 e6 => ?_
  · exact ⟨true, a 114, _, rfl, T.c_Moments, ⟨T.f_bottom, by decide +kernel⟩, (by show 0 < 1000; decide), rfl⟩
  subst e6
  refine seq_runS (fun ρ => ∃ (Bo : Nat) (a5 a6 : Option Sl), ρ = stM (a 114) ws (M1 (.int (Bo : Int))) a5 a6 ∧ 0 < Bo ∧ Bo ∣ 2079000000000000 ∧ ∀ z ∈ ws, z.1.den * z.2.den ∣ Bo) r6 ?_ fun B7 ρ7 σ7 H7 r7 s7 e7 => ?_
  · refine ⟨_, rfl, ws.map wtK, rfl, fun i ρ => ∃ (Bo : Nat) (a5 a6 : Option Sl), ρ = stM (a 114) ws (M1 (.int (Bo : Int))) a5 a6 ∧ 0 < Bo ∧ Bo ∣ 2079000000000000 ∧ ∀ z ∈ ws.take i, z.1.den * z.2.den ∣ Bo, ⟨1, none, none, rfl, by decide, Nat.one_dvd _, fun z hz => nomatch hz⟩, ?_, ?_⟩
    · rintro i e ρ hi ⟨Bo, a5, a6, rfl, q1, q2, q3⟩
      rw [List.getElem?_map] at hi
      obtain ⟨z, hj, rfl⟩ := Option.map_eq_some_iff.mp hi
      have zo := hz z (List.mem_of_getElem? hj)
      obtain ⟨n1, n2⟩ := den_le zo
      have d1 := den_abs z.1 zo.2.2.1.1.2
      have d2 := den_abs z.2 zo.2.2.1.2.2
      have bB : Bo ≤ 2079000000000000 := Nat.le_of_dvd (by decide) q2
      have bd : z.1.den * z.2.den ≤ 2079000000000000 := Nat.le_of_dvd (by decide) n2
      refine ⟨[trkD z.1, frD z.2], rfl, rfl, _, _, rfl, _, _, rfl, rfl, ?_⟩
      refine ⟨_, rfl, _, _, _, rfl, T.c_Moments, T.f_bottom, (lookup_hit (by decide +kernel)), _, rfl, _, 1, _, rfl, rfl, rfl, _, rfl, _, 1, _, rfl, rfl, rfl, _, _, rfl, rfl, mul_ok d1 d2 (by decide), trivial, trivial, [_, _], rfl, (Bo : Int), (z.1.den : Int) * (z.2.den : Int), rfl, by omega, by rw [← Int.natCast_mul]; omega, true, a 114, _, rfl, T.c_Moments, ⟨T.f_bottom, by decide +kernel⟩, (by show 1 < 1000; decide), Nat.lcm Bo (z.1.den * z.2.den), some (.pu (trkD z.1)), some (.pu (frD z.2)), ?_, Nat.lcm_pos q1 n1, Nat.lcm_dvd q2 n2, fun y hy => ?_⟩
      · rw [← Int.natCast_mul, Int.natAbs_natCast, Int.natAbs_natCast]
        show (_ : Ab).set 0 (some (.ow true (.ins (a 114) (putFD ("_bottom" : Str) (.int ((Nat.lcm Bo (z.1.den * z.2.den) : Nat) : Int)) (M1 (.int (Bo : Int))))))) = _
        rw [put_hit]
        rfl
      · rw [List.take_add_one, hj] at hy
        rcases List.mem_append.mp hy with hy | hy
        · exact Nat.dvd_trans (q3 y hy) (Nat.dvd_lcm_left _ _)
        · rw [List.mem_singleton.mp (show y ∈ [z] from hy)]
          exact Nat.dvd_lcm_right _ _
    · rintro ρ ⟨Bo, a5, a6, rfl, q1, q2, q3⟩
      rw [List.length_map, List.take_length] at q3
      exact ⟨Bo, a5, a6, rfl, q1, q2, q3⟩
  obtain ⟨Bo, a5, a6, rfl, q1, q2, q3⟩ := e7
  have bB : Bo ≤ 2079000000000000 := Nat.le_of_dvd (by decide) q2
  have bB2 : ((Bo : Int)).natAbs < 2 ^ 52 := by omega
  refine seq_runS (fun ρ => ρ = stM (a 114) ws (M2 (.int (Bo : Int)) (.lst (ws.map (owD (Bo : Int))))) none none) r7 ?_ fun B8 ρ8 σ8 H8 r8 s8 e8 => ?_
  · refine ⟨_, rfl, ws.map wtK, rfl, fun i acc ρ => acc = (ws.take i).map (owD (Bo : Int)) ∧ ρ = stM (a 114) ws (M1 (.int (Bo : Int))) none none, ⟨rfl, rfl⟩, ?_, ?_⟩
    · rintro i e acc ρ hi ⟨ea, rfl⟩
      rw [List.getElem?_map] at hi
      obtain ⟨z, hj, rfl⟩ := Option.map_eq_some_iff.mp hi
      have zo := hz z (List.mem_of_getElem? hj)
      have il := lt_of_some hj
      refine ⟨[trkD z.1, frD z.2], rfl, rfl, _, _, rfl, _, _, rfl, rfl, ?_⟩
      refine ⟨_, rfl, _, rfl, (lookup_miss (by decide +kernel) rfl), _, rfl, _, rfl, trivial, trivial, ⟨true, rfl⟩, rfl, (by show [0].Nodup; decide), ⟨_, (Bo : Int), z, rfl, (lookup_hit (by decide +kernel)), bB2, zo.2.2.1, fun ρ' hh => ?_⟩⟩
      match ρ', hh with
      | y :: tl, hh =>
        cases hh
        refine ⟨?_, mapQ_next (f := owD (Bo : Int)) hj ea, rfl⟩
        rw [ea, List.length_map, List.length_take]
        omega
    · rintro acc ρ ⟨ea, rfl⟩
      rw [List.length_map, List.take_length] at ea
      subst ea
      refine ⟨true, a 114, _, rfl, T.c_Moments, ⟨T.f_weights, by decide +kernel⟩, (by show 1 < 1000; decide), ?_⟩
      show (_ : Ab).set 0 (some (.ow true (.ins (a 114) (putFD ("_weights" : Str) (.lst (ws.map (owD (Bo : Int)))) (M1 (.int (Bo : Int))))))) = _
      rw [putM2]
      rfl
  subst e8
  obtain ⟨ao, o, g1, g2, g3, g4, g5, g6, g7⟩ := r8.ow 0 true _ rfl
  obtain ⟨dx, fs, rfl, g8, nm⟩ := g3.ins_inv
  have g6 := g6 rfl
  rw [hΓ] at g6
  refine memo_last (K := K) (ps := []) (Born.nil g2) g1 T.c_Moments T.f_known (g8.lookN (nm _ (by decide +kernel))) (by simp) (by rw [g8.length]; show 2 + 0 < 1000; decide) fun p H9 b => ?_
  show Q .non H9
  exact h4 ao dx fs _ [("_known", p)] B8 H8 _ H9 (own_head g6) r8.fin rfl g2 g8 nm rfl b (fun q hq => by
    rw [List.mem_singleton.mp hq]
    exact mem_wf (B := (Bo : Int)) (ws := ws) (m := p)) (hk _ ⟨(Bo : Int), p, rfl, by omega, bB2, hw12, fun z hm => ⟨(hz z hm).2.2.1, by rw [← Int.natCast_mul]; exact Int.natCast_dvd_natCast.mpr (q3 z hm)⟩⟩)
end
end K06
set_option synthInstance.maxSize 100000
set_option synthInstance.maxHeartbeats 4000000
set_option Elab.async false
set_option linter.all false
set_option maxRecDepth 100000
set_option maxHeartbeats 4000000
set_option autoImplicit false
/-! Ez5: three names at once. -/
namespace Dx
open PySem L2
section
variable {K : PySem.W.Frag} {W : WX}
def pPar3 (i j l : Nat) (pa : PAx) : PSx := fun Δ ρ => pa ρ Δ.ex fun as ρ1 => ∃ d e f, as = [.pu d, .pu e, .pu f] ∧ Δ.nx (((ρ1.set i (some (.pu d))).set j (some (.pu e))).set l (some (.pu f)))
instance rs_par3 {i j l : Nat} {ta : TA} {pa : PAx} [ha : RfA K W ta pa] : RfS K W (tPar3 i j l ta) (pPar3 i j l pa) where
  run := fun Γ B ρ σ H E Δ r sim h => ha.run Γ B ρ σ H _ Δ.ex _ r (sim.ex.at _) h fun vs as B1 H1 ρ1 r1 s1 aso hq => by
    obtain ⟨d, e, f, rfl, hq⟩ := hq
    cases ArsOk.pure (ds := [d, e, f]) aso with
    | cons h1 h =>
      cases h with
      | cons h2 h =>
        cases h with
        | cons h3 h =>
          cases h
          exact ⟨_, _, _, rfl, sim.nx _ _ _ _ (((r1.set h1).set h2).set h3) s1 hq⟩
end
end Dx
set_option synthInstance.maxSize 100000
set_option synthInstance.maxHeartbeats 4000000
set_option Elab.async false
set_option linter.all false
set_option maxRecDepth 100000
set_option maxHeartbeats 4000000
set_option autoImplicit false
/-! Ez7: list(zip(..)) of two. -/
namespace PySem
open Sem (wp)
section
variable {prog : Program} {w : World} {A : Around} {E : Value → Shared → Prop} {s : Shared} {z TI TO i1 i2 a : Addr} {fp1 fp2 fp3 : List Addr} {n1 n2 n3 i : Nat} {P1 P2 P3 : Nat → Value → Prop} {St1 St2 St3 : Nat → Heap → Prop} {f : Bool} {oa : Obj}
theorem zip2_out_item {Q : Value → Shared → Prop} (S : ZipSep2 z TI TO i1 i2 fp1 fp2) (D1 : Draws prog w A i1 fp1 n1 P1 St1) (D2 : Draws prog w A i2 fp2 n2 P2 St2)
    (hz : IsZipF s.heap z TI TO a f) (ha : s.heap.get? a = some oa) (haz : a ≠ z) (hTI : IsTupOf2 s.heap TI (.ref i1) (.ref i2)) (st1 : St1 i s.heap) (st2 : St2 i s.heap) (hlt1 : i < n1) (hlt2 : i < n2)
    (hQ : ∀ x1 x2 h' tk, P1 i x1 → P2 i x2 → IsZipF h' z TI TO a true → St1 (i + 1) h' → St2 (i + 1) h' → IsTupOf2 h' s.heap.objs.size x1 x2 → h'.objs.size = s.heap.objs.size + 1 →
      (∀ c o, c ≠ z → c ≠ i1 → c ≠ i2 → s.heap.get? c = some o → h'.get? c = some o) → Q (.ref s.heap.objs.size) { s with heap := h', toks := tk }) :
    wpAny (model prog w) A (Builtin.«zip.__next__» ⟨[.ref z], []⟩) (fun fin s' => ∃ v, fin = .done (.ret v) ∧ Q v s') E s := by
  obtain ⟨hp, g, d, tk0, os⟩ := s
  show wpAny _ _ (field (.ref z) 2 >>= _) _ _ _
  refine wpAny_bind (wpAny_field hz rfl (x := .bool false) rfl ?_)
  show wpAny _ _ (field (.ref z) 3 >>= _) _ _ _
  refine wpAny_bind (wpAny_field hz rfl (x := .ref TI) rfl ?_)
  refine wpAny_bind (wpAny_seqItems hTI rfl ?_)
  show wpAny _ _ (Builtin.SmallTypes.ownedTupleIsFree (.ref z) >>= _) _ _ _
  refine wpAny_bind ?_
  unfold Builtin.SmallTypes.ownedTupleIsFree
  refine wpAny_bind (wpAny_field hz rfl (x := rawInt a) rfl ?_)
  show wpAny _ _ (loadIfAlive ((a : Int).toNat) >>= _) _ _ _
  rw [Int.toNat_natCast]
  refine wpAny_bind (PySem.W.kdx_alive ha ?_)
  simp only [Option.isNone_some, Bool.false_eq_true, if_false]
  refine wpAny_bind (wpAny_field hz rfl (x := .bool f) rfl ?_)
  refine wpAny_mono (Q := fun (b : Bool) (s1 : Shared) => b = false ∧ ∃ g0 : Heap, s1 = ⟨g0, g, d, tk0, os⟩ ∧ IsZipF g0 z TI TO a true ∧ Heap.SameBut z hp g0) ?_ (fun b s1 hb => ?_) (fun _ _ e => e)
  · cases f with
    | true =>
      rw [if_neg (show ¬ ((Value.bool true != Value.bool true) = true) from Bool.false_ne_true)]
      exact wpAny_pure ⟨rfl, hp, rfl, hz, Heap.SameBut.refl _ _⟩
    | false =>
      rw [if_pos (show (Value.bool false != Value.bool true) = true from rfl)]
      refine wpAny_bind (wpAny_setField_rec hz (by simp) fun h₃ he₃ hs₃ => ?_)
      exact wpAny_pure ⟨rfl, h₃, rfl, he₃, hs₃⟩
  obtain ⟨rfl, g0, rfl, hz0, hs0⟩ := hb
  simp only [Bool.false_eq_true, if_false, List.forIn_toArray, List.forIn_cons, List.forIn_nil]
  refine wpAny_bind (wpAny_bind (wpAny_bind (wpAny_holding ?_)))
  show wpAny _ _ (Builtin.SmallTypes.nextOf (.ref i1) >>= _) _ _ ⟨g0, g, d, tk0, os⟩
  refine wpAny_bind (D1.item i _ _ _ hlt1 (D1.over st1 hs0 S.zf1) fun x1 p1 tk1 hx1 sn1 hp1 => wpAny_pure (wpAny_pure ?_))
  replace hp1 : Heap.SameBut i1 g0 p1 := hp1
  refine wpAny_bind (wpAny_bind (wpAny_holding ?_))
  show wpAny _ _ (Builtin.SmallTypes.nextOf (.ref i2) >>= _) _ _ ⟨p1, g, d, tk1, os⟩
  refine wpAny_bind (D2.item i _ _ _ hlt2 (D2.over (D2.over st2 hs0 S.zf2) hp1 S.sep1_2) fun x2 p2 tk2 hx2 sn2 hp2 => wpAny_pure (wpAny_pure (wpAny_pure ?_)))
  replace hp2 : Heap.SameBut i2 p1 p2 := hp2
  refine wpAny_bind (wpAny_newTuple ?_ (hsz := by show 2 ≤ sizeLine; decide))
  have hsz : p2.objs.size = hp.objs.size := by rw [hp2.1, hp1.1, hs0.1]
  have hkk : ∀ c o, c ≠ z → c ≠ i1 → c ≠ i2 → hp.get? c = some o → p2.get? c = some o := fun c o cz c1 c2 e =>
    (hp2.extBut _ _ c2 (hp1.extBut _ _ c1 (hs0.extBut _ _ cz e)))
  have hj1 : St1 (i + 1) p2 := D1.over sn1 hp2 S.sep2_1
  have hzz : IsZipF p2 z TI TO a true := hp2.extBut _ _ S.zi2 (hp1.extBut _ _ S.zi1 hz0)
  refine wpAny_pure ⟨_, rfl, ?_⟩
  show Q (.ref p2.objs.size) ⟨p2.push { cls := .type "tuple", data := .seq #[x1, x2] }, g, d, tk2, os⟩
  have up : ∀ c o, p2.get? c = some o → (p2.push { cls := .type "tuple", data := .seq #[x1, x2] }).get? c = some o := fun c o e => Heap.get?_push_of_some _ e
  have hT : IsTupOf2 (p2.push { cls := .type "tuple", data := .seq #[x1, x2] }) p2.objs.size x1 x2 := Heap.get?_push_size _ rfl
  rw [hsz] at hT ⊢
  exact hQ x1 x2 _ tk2 hx1 hx2 (up _ _ hzz) (D1.frame _ _ _ hj1 fun b hb o e => up b o e) (D2.frame _ _ _ sn2 fun b hb o e => up b o e) hT (by rw [Heap.size_push, hsz]) fun c o cz c1 c2 e => up c o (hkk c o cz c1 c2 e)
theorem zip2_out_end {Q : Fin → Shared → Prop} (S : ZipSep2 z TI TO i1 i2 fp1 fp2) (D1 : Draws prog w A i1 fp1 n1 P1 St1) (D2 : Draws prog w A i2 fp2 n2 P2 St2)
    (hz : IsZipF s.heap z TI TO a f) (ha : s.heap.get? a = some oa) (hTI : IsTupOf2 s.heap TI (.ref i1) (.ref i2)) (st1 : St1 i s.heap) (st2 : St2 i s.heap) (hle1 : i ≤ n1) (hle2 : i ≤ n2) (hend : i = n1 ∨ i = n2)
    (hE : ∀ h' tk e, (∀ c o, c ≠ z → c ≠ i1 → c ≠ i2 → s.heap.get? c = some o → h'.get? c = some o) → (∃ o, h'.get? e = some o ∧ o.cls = .type "StopIteration") → E (.ref e) { s with heap := h', toks := tk }) :
    wpAny (model prog w) A (Builtin.«zip.__next__» ⟨[.ref z], []⟩) Q E s := by
  obtain ⟨hp, g, d, tk0, os⟩ := s
  show wpAny _ _ (field (.ref z) 2 >>= _) _ _ _
  refine wpAny_bind (wpAny_field hz rfl (x := .bool false) rfl ?_)
  show wpAny _ _ (field (.ref z) 3 >>= _) _ _ _
  refine wpAny_bind (wpAny_field hz rfl (x := .ref TI) rfl ?_)
  refine wpAny_bind (wpAny_seqItems hTI rfl ?_)
  show wpAny _ _ (Builtin.SmallTypes.ownedTupleIsFree (.ref z) >>= _) _ _ _
  refine wpAny_bind ?_
  unfold Builtin.SmallTypes.ownedTupleIsFree
  refine wpAny_bind (wpAny_field hz rfl (x := rawInt a) rfl ?_)
  show wpAny _ _ (loadIfAlive ((a : Int).toNat) >>= _) _ _ _
  rw [Int.toNat_natCast]
  refine wpAny_bind (PySem.W.kdx_alive ha ?_)
  simp only [Option.isNone_some, Bool.false_eq_true, if_false]
  refine wpAny_bind (wpAny_field hz rfl (x := .bool f) rfl ?_)
  refine wpAny_mono (Q := fun (b : Bool) (s1 : Shared) => b = false ∧ ∃ g0 : Heap, s1 = ⟨g0, g, d, tk0, os⟩ ∧ IsZipF g0 z TI TO a true ∧ Heap.SameBut z hp g0) ?_ (fun b s1 hb => ?_) (fun _ _ e => e)
  · cases f with
    | true =>
      rw [if_neg (show ¬ ((Value.bool true != Value.bool true) = true) from Bool.false_ne_true)]
      exact wpAny_pure ⟨rfl, hp, rfl, hz, Heap.SameBut.refl _ _⟩
    | false =>
      rw [if_pos (show (Value.bool false != Value.bool true) = true from rfl)]
      refine wpAny_bind (wpAny_setField_rec hz (by simp) fun h₃ he₃ hs₃ => ?_)
      exact wpAny_pure ⟨rfl, h₃, rfl, he₃, hs₃⟩
  obtain ⟨rfl, g0, rfl, hz0, hs0⟩ := hb
  simp only [Bool.false_eq_true, if_false, List.forIn_toArray, List.forIn_cons, List.forIn_nil]
  refine wpAny_bind (wpAny_bind (wpAny_bind (wpAny_holding ?_)))
  show wpAny _ _ (Builtin.SmallTypes.nextOf (.ref i1) >>= _) _ _ ⟨g0, g, d, tk0, os⟩
  by_cases hlt1 : i < n1
  · refine wpAny_bind (D1.item i _ _ _ hlt1 (D1.over st1 hs0 S.zf1) fun x1 p1 tk1 hx1 sn1 hp1 => wpAny_pure (wpAny_pure ?_))
    replace hp1 : Heap.SameBut i1 g0 p1 := hp1
    refine wpAny_bind (wpAny_bind (wpAny_holding ?_))
    show wpAny _ _ (Builtin.SmallTypes.nextOf (.ref i2) >>= _) _ _ ⟨p1, g, d, tk1, os⟩
    have hi2 : i = n2 := by omega
    refine wpAny_bind (D2.done ⟨p1, g, d, tk1, os⟩ _ _ (by rw [← hi2]; exact D2.over (D2.over st2 hs0 S.zf2) hp1 S.sep1_2) fun q e hq he => ?_)
    exact hE q tk1 e (fun c o cz c1 c2 x => hq _ _ c2 (hp1.extBut _ _ c1 (hs0.extBut _ _ cz x))) he
  · have hi1 : i = n1 := by omega
    refine wpAny_bind (D1.done ⟨g0, g, d, tk0, os⟩ _ _ (by rw [← hi1]; exact D1.over st1 hs0 S.zf1) fun q e hq he => ?_)
    exact hE q tk0 e (fun c o cz c1 c2 x => hq _ _ c1 (hs0.extBut _ _ cz x)) he
/-- a zip of three as list() walks it: its tuples stay -/
def Z2St (S0 z TI TO i1 i2 : Addr) (i : Nat) (h : Heap) : Prop := (i = 0 ∧ IsZip h z TI TO .none ∧ (∃ a b, IsTupOf2 h TO a b) ∧ IsTupOf2 h TI (.ref i1) (.ref i2)) ∨
  ∃ a f oa, IsZipF h z TI TO a f ∧ h.get? a = some oa ∧ a ≠ z ∧ a ≠ S0 ∧ a ≠ i1 ∧ a ≠ i2 ∧ IsTupOf2 h TI (.ref i1) (.ref i2)
theorem zip2_next {S0 : Addr} {Q : Option Value → Shared → Prop} (S : ZipSep2 z TI TO i1 i2 fp1 fp2) (D1 : Draws prog w A.in1 i1 fp1 n1 P1 St1) (D2 : Draws prog w A.in1 i2 fp2 n2 P2 St2)
    (hz : Z2St S0 z TI TO i1 i2 i s.heap) (hS : S0 < s.heap.objs.size) (st1 : St1 i s.heap) (st2 : St2 i s.heap) (hlt1 : i < n1) (hlt2 : i < n2)
    (hQ : ∀ x1 x2 h' tk, P1 i x1 → P2 i x2 → Z2St S0 z TI TO i1 i2 (i + 1) h' → St1 (i + 1) h' → St2 (i + 1) h' → IsTupOf2 h' s.heap.objs.size x1 x2 → h'.objs.size = s.heap.objs.size + 1 →
      (∀ c o, c ≠ z → c ≠ TO → c ≠ i1 → c ≠ i2 → s.heap.get? c = some o → h'.get? c = some o) → Q (some (.ref s.heap.objs.size)) { s with heap := h', toks := tk }) :
    wpAny (model prog w) A (pyNext (.ref z)) Q E s := by
  rcases hz with ⟨rfl, hz, ⟨a1, a2, hTO⟩, hTI⟩ | ⟨a, f, oa, hz, ha, haz, haS, ha1, ha2, hTI⟩
  · refine wpAny_pyNext_zipD2_item S D1 D2 hz hTI hTO st1 st2 hlt1 hlt2 fun x1 x2 h' tk y1 y2 b1 b2 d1 d2 b5 b6 hk => ?_
    have lt : ∀ {c o}, s.heap.get? c = some o → s.heap.objs.size ≠ c := fun e => Nat.ne_of_gt (Heap.lt_size e)
    have l1 : s.heap.objs.size ≠ i1 := by obtain ⟨_, e⟩ := D1.live _ _ st1; exact lt e
    have l2 : s.heap.objs.size ≠ i2 := by obtain ⟨_, e⟩ := D2.live _ _ st2; exact lt e
    exact hQ x1 x2 h' tk y1 y2 (.inr ⟨_, false, _, b1, b5, lt hz, Nat.ne_of_gt hS, l1, l2, hk _ _ S.TIz S.TITO S.TIi1 S.TIi2 hTI⟩) d1 d2 b5 b6 hk
  · have hT : s.TypeIs (.ref z) "zip" := ⟨_, hz, rfl⟩
    unfold pyNext
    exact wpAny_bind (wpAny_attempt (wpAny_callSpecial?_slot (name := Str.ofString "__next__") hT F.slot_zip_next
      (wpAny_call_entry F.slot_zip_next hT F.entry_zip_next
        (zip2_out_item S D1 D2 hz ha haz hTI st1 st2 hlt1 hlt2 fun x1 x2 h' tk y1 y2 b1 d1 d2 b5 b6 hk => wpAny_pure (hQ x1 x2 h' tk y1 y2
          (.inr ⟨a, true, oa, b1, hk _ _ haz ha1 ha2 ha, haz, haS, ha1, ha2, hk _ _ S.TIz S.TIi1 S.TIi2 hTI⟩) d1 d2 b5 b6 fun c o cz _ c1 c2 e => hk c o cz c1 c2 e)) (F.args_zip_next_1 _))))
theorem zip2_done {S0 : Addr} {Q : Option Value → Shared → Prop} (S : ZipSep2 z TI TO i1 i2 fp1 fp2) (D1 : Draws prog w A.in1 i1 fp1 n1 P1 St1) (D2 : Draws prog w A.in1 i2 fp2 n2 P2 St2)
    (hz : Z2St S0 z TI TO i1 i2 i s.heap) (st1 : St1 i s.heap) (st2 : St2 i s.heap) (hle1 : i ≤ n1) (hle2 : i ≤ n2) (hend : i = n1 ∨ i = n2)
    (hQ : ∀ h' tk, (∀ c o, c ≠ z → c ≠ TO → c ≠ i1 → c ≠ i2 → s.heap.get? c = some o → h'.get? c = some o) → Q none { s with heap := h', toks := tk }) : wpAny (model prog w) A (pyNext (.ref z)) Q E s := by
  rcases hz with ⟨rfl, hz, ⟨a1, a2, hTO⟩, hTI⟩ | ⟨a, f, oa, hz, ha, haz, haS, ha1, ha2, hTI⟩
  · exact wpAny_pyNext_zipD2_end S D1 D2 hz hTI hTO st1 st2 hle1 hle2 hend hQ
  · have hT : s.TypeIs (.ref z) "zip" := ⟨_, hz, rfl⟩
    unfold pyNext
    refine wpAny_bind (wpAny_attempt (wpAny_callSpecial?_slot (name := Str.ofString "__next__") hT F.slot_zip_next
      (wpAny_call_entry F.slot_zip_next hT F.entry_zip_next (zip2_out_end S D1 D2 hz ha hTI st1 st2 hle1 hle2 hend fun h' tk e hk he => ?_) (F.args_zip_next_1 _))))
    obtain ⟨o, ho, hc⟩ := he
    refine wpAny_bind (wpAny_isInstance (T := "StopIteration") (b := true) ⟨o, ho, hc⟩ isSubtype_stop ?_)
    exact wpAny_pure (hQ _ _ fun c o cz _ c1 c2 e => hk c o cz c1 c2 e)
/-- the tuples so far -/
structure Z2G (P1 P2 : Nat → Value → Prop) (S0 : Addr) (h : Heap) (as : List Addr) : Prop where
  above : ∀ a ∈ as, S0 < a
  here : ∀ (j : Nat) (a : Addr), as[j]? = some a → ∃ x1 x2, P1 j x1 ∧ P2 j x2 ∧ IsTupOf2 h a x1 x2
end
section
variable {prog : Program} {w : World} {A : Around} {s : Shared} {R : Result → Shared → Prop} {z TI TO i1 i2 : Addr} {fp1 fp2 fp3 : List Addr} {n1 n2 n3 n : Nat} {P1 P2 P3 : Nat → Value → Prop} {St1 St2 St3 : Nat → Heap → Prop}
theorem z2_loop {S0 : Addr} (S : ZipSep2 z TI TO i1 i2 fp1 fp2) (D1 : Draws prog w A.in1.in1 i1 fp1 n1 P1 St1) (D2 : Draws prog w A.in1.in1 i2 fp2 n2 P2 St2) (hn : n = min n1 n2) (hsz : n ≤ sizeLine)
    (low : z < S0 ∧ TI < S0 ∧ TO < S0 ∧ i1 < S0 ∧ i2 < S0) (f1 : S0 ∉ fp1) (f2 : S0 ∉ fp2) (res : Value) {h₁ : Heap}
    (hR : ∀ h' tk acc c as, (∀ b o, b ≠ S0 → b ≠ z → b ≠ TO → b ≠ i1 → b ≠ i2 → h₁.get? b = some o → h'.get? b = some o) → h'.get? S0 = some { cls := .type "list", dict := none, data := .seq acc c, slots := #[] } → as.length = n → Z2G P1 P2 S0 h' as →
      acc.toList = as.map Value.ref → R (.ok (.ret res)) { s with heap := h', toks := tk }) :
    ∀ (k i : Nat) (h : Heap) (tk c : Nat) (acc : Array Value) (as : List Addr), n - i = k → i ≤ n → Z2St S0 z TI TO i1 i2 i h → St1 i h → St2 i h → (∀ b o, b ≠ S0 → b ≠ z → b ≠ TO → b ≠ i1 → b ≠ i2 → h₁.get? b = some o → h.get? b = some o) →
      h.get? S0 = some { cls := .type "list", dict := none, data := .seq acc c, slots := #[] } → acc.toList = as.map Value.ref → as.length = i → Z2G P1 P2 S0 h as →
      codeAny (model prog w) A (.builtin "list.extend.loop" ⟨[.ref S0, .ref z, res], []⟩) R { s with heap := h, toks := tk } := by
  obtain ⟨l1, l2, l3, l4, l5⟩ := low
  have ne : S0 ≠ z ∧ S0 ≠ TO ∧ S0 ≠ i1 ∧ S0 ≠ i2 := ⟨Nat.ne_of_gt l1, Nat.ne_of_gt l3, Nat.ne_of_gt l4, Nat.ne_of_gt l5⟩
  have hi : ∀ b, S0 < b → b ≠ z ∧ b ≠ TO ∧ b ≠ i1 ∧ b ≠ i2 := fun b hb => ⟨Nat.ne_of_gt (Nat.lt_trans l1 hb), Nat.ne_of_gt (Nat.lt_trans l3 hb), Nat.ne_of_gt (Nat.lt_trans l4 hb), Nat.ne_of_gt (Nat.lt_trans l5 hb)⟩
  intro k
  induction k with
  | zero =>
    intro i h tk c acc as hk hi0 hst s1 s2 hkeep hS hacc hal hG
    have hin : i = n := by omega
    refine codeAny_builtin PySem.F.entry_extend_loop ?_
    rw [Around.under_plainId PySem.F.plain_extend_loop _]
    show wpAny _ A.in1 (pyNext (.ref z) >>= _) _ _ _
    refine wpAny_bind (zip2_done (s := { s with heap := h, toks := tk }) (A := A.in1) S D1 D2 hst s1 s2 (by omega) (by omega) (by omega) fun h' tk' he => ?_)
    refine wpAny_pure (hR h' tk' acc c as (fun b o h0 h1 h2 h3 h4 e => he b o h1 h2 h3 h4 (hkeep b o h0 h1 h2 h3 h4 e)) (he S0 _ ne.1 ne.2.1 ne.2.2.1 ne.2.2.2 hS) (by omega) ⟨hG.above, fun j a hj => ?_⟩ hacc)
    obtain ⟨x1, x2, e1, e2, e4⟩ := hG.here j a hj
    obtain ⟨q1, q2, q3, q4⟩ := hi a (hG.above a (List.mem_of_getElem? hj))
    exact ⟨x1, x2, e1, e2, he a _ q1 q2 q3 q4 e4⟩
  | succ k ih =>
    intro i h tk c acc as hk hi0 hst s1 s2 hkeep hS hacc hal hG
    have hlt : i < n := by omega
    have hsz' : acc.size = i := by rw [← Array.length_toList, hacc, List.length_map, hal]
    have hSl : S0 < h.objs.size := Heap.lt_size hS
    refine codeAny_builtin PySem.F.entry_extend_loop ?_
    rw [Around.under_plainId PySem.F.plain_extend_loop _]
    show wpAny _ A.in1 (pyNext (.ref z) >>= _) _ _ _
    refine wpAny_bind (zip2_next (s := { s with heap := h, toks := tk }) (A := A.in1) S D1 D2 hst hSl s1 s2 (by omega) (by omega) fun x1 x2 h' tk' y1 y2 hst' s1' s2' ht hz hkp => ?_)
    dsimp only at ht hz hkp ⊢
    have hS' := hkp S0 _ ne.1 ne.2.1 ne.2.2.1 ne.2.2.2 hS
    have up : ∀ b o, b ≠ S0 → h'.get? b = some o → (h'.update S0 (Obj.mapSeq (·.push (Value.ref h.objs.size)))).get? b = some o := fun b o hb e => (Heap.get?_update_other _ _ (Ne.symm hb)).trans e
    have hst2 : Z2St S0 z TI TO i1 i2 (i + 1) (h'.update S0 (Obj.mapSeq (·.push (Value.ref h.objs.size)))) := by
      rcases hst' with ⟨e, _⟩ | ⟨a, f, oa, g1, g2, g3, g4, g5, g6, g8⟩
      · omega
      · exact .inr ⟨a, f, oa, up _ _ ne.1.symm g1, up _ _ g4 g2, g3, g4, g5, g6, up _ _ (Nat.ne_of_lt l2) g8⟩
    show wpAny _ A.in1 (updateSeq S0 (·.push (Value.ref h.objs.size)) >>= _) _ _ _
    refine wpAny_bind ?_
    refine wpAny_updateSeq hS' rfl (wpAny_pure ⟨plainId_quiet PySem.F.plain_extend_loop _, ih (i + 1) _ tk' _ (acc.push (Value.ref h.objs.size)) (as ++ [h.objs.size]) (by omega) hlt hst2 (D1.frame _ _ _ s1' fun b hb o e => up b o (fun q => f1 (q ▸ hb)) e) (D2.frame _ _ _ s2' fun b hb o e => up b o (fun q => f2 (q ▸ hb)) e)
      (fun b o h0 h1 h2 h3 h4 e => up b o h0 (hkp b o h1 h2 h3 h4 (hkeep b o h0 h1 h2 h3 h4 e))) (Heap.get?_update_self _ hS' rfl) (by rw [Array.toList_push, hacc, List.map_append]; rfl) (by rw [List.length_append, hal]; rfl) ⟨?_, ?_⟩⟩) (by rw [hsz']; omega) (by show (acc.push (Value.ref h.objs.size)).size ≤ sizeLine + 1; rw [Array.size_push, hsz']; omega)
    · intro a ha
      rcases List.mem_append.mp ha with ha | ha
      · exact hG.above a ha
      · rw [List.mem_singleton.mp ha]; exact hSl
    · intro j b hj
      rcases Nat.lt_trichotomy j as.length with h1 | h1 | h1
      · rw [List.getElem?_append_left h1] at hj
        obtain ⟨v1, v2, e1, e2, e4⟩ := hG.here j b hj
        have hb := hG.above b (List.mem_of_getElem? hj)
        obtain ⟨q1, q2, q3, q4⟩ := hi b hb
        exact ⟨v1, v2, e1, e2, up b _ (Nat.ne_of_gt hb) (hkp b _ q1 q2 q3 q4 e4)⟩
      · subst h1
        have hb : h.objs.size = b := by simpa using hj
        subst hb
        exact ⟨x1, x2, by rw [hal]; exact y1, by rw [hal]; exact y2, up _ _ (Nat.ne_of_gt hSl) ht⟩
      · have hnone : (as ++ [h.objs.size])[j]? = none := List.getElem?_eq_none (by rw [List.length_append, List.length_singleton]; omega)
        rw [hnone] at hj; cases hj
end
section
variable {prog : Program} {w : World} {A : Around} {E : Value → Shared → Prop} {s : Shared} {R : Result → Shared → Prop} {z TI TO i1 i2 : Addr} {fp1 fp2 fp3 : List Addr} {n1 n2 n3 n : Nat} {P1 P2 P3 : Nat → Value → Prop} {St1 St2 St3 : Nat → Heap → Prop} {b1 b2 b3 : Value}
theorem z2_extend {S0 : Addr} (S : ZipSep2 z TI TO i1 i2 fp1 fp2) (D1 : Draws prog w A.in1.in1 i1 fp1 n1 P1 St1) (D2 : Draws prog w A.in1.in1 i2 fp2 n2 P2 St2) (hn : n = min n1 n2) (hsz : n ≤ sizeLine)
    (low : z < S0 ∧ TI < S0 ∧ TO < S0 ∧ i1 < S0 ∧ i2 < S0) (f1 : S0 ∉ fp1) (f2 : S0 ∉ fp2) (res : Value) (c₀ : Nat)
    (hz : IsZip s.heap z TI TO .none) (hTI : IsTupOf2 s.heap TI (.ref i1) (.ref i2)) (hTO : IsTupOf2 s.heap TO b1 b2) (st1 : St1 0 s.heap) (st2 : St2 0 s.heap)
    (hS : s.heap.get? S0 = some { cls := .type "list", data := .seq #[] c₀ })
    (hR : ∀ h' tk acc c as, (∀ b o, b ≠ S0 → b ≠ z → b ≠ TO → b ≠ i1 → b ≠ i2 → s.heap.get? b = some o → h'.get? b = some o) → h'.get? S0 = some { cls := .type "list", dict := none, data := .seq acc c, slots := #[] } → as.length = n → Z2G P1 P2 S0 h' as →
      acc.toList = as.map Value.ref → R (.ok (.ret res)) { s with heap := h', toks := tk }) :
    wpAny (model prog w) A.in1 (Builtin.List.listExtendWith (.ref S0) (.ref z) res)
      (fun fin s' => match fin with | .done f => R (.ok f) s' | .again c' => c'.quiet = true ∧ codeAny (model prog w) A c' R s') (fun e s' => R (.error e) s') s := by
  have hT : s.TypeIs (.ref z) "zip" := ⟨_, hz, rfl⟩
  have hSz : S0 ≠ z := Nat.ne_of_gt low.1
  unfold Builtin.List.listExtendWith
  refine wpAny_bind (wpAny_typeOf hT ?_)
  have h1 : Builtin.List.listSameRef (.ref S0) (.ref z) = false := by simp [Builtin.List.listSameRef, hSz]
  have h2 : (Value.type "zip" == Value.type "list") = false := by decide
  have h3 : (Value.type "zip" == Value.type "tuple") = false := by decide
  simp only [h1, h2, h3, Bool.or_false, Bool.false_eq_true, if_false]
  refine wpAny_bind (wpAny_pyIter_zip hz ?_)
  refine wpAny_bind (wpAny_holding ?_)
  unfold Builtin.List.listLengthHint
  refine wpAny_bind (wpAny_specialOf hT F.zip_no_len ?_)
  show wpAny _ A.in1 (specialOf (Value.ref z) (Str.ofString "__length_hint__") >>= _) _ _ _
  refine wpAny_bind (wpAny_specialOf hT F.zip_no_hint ?_)
  refine wpAny_pure ?_
  show wpAny _ A.in1 (rule "list.extend.makes-room" >>= fun _ => Builtin.List.listTouch (.ref S0) >>= fun _ =>
    again (.builtin "list.extend.loop" ⟨[.ref S0, .ref z, res], []⟩)) _ _ _
  refine wpAny_bind (wpAny_rule ?_)
  refine wpAny_bind ?_
  show wpAny _ A.in1 (updateSeq S0 (·.push .none) >>= fun _ => updateSeq S0 (·.pop)) _ _ _
  refine wpAny_bind (wpAny_updateSeq hS rfl ?_)
  have hS₂ := Heap.get?_update_self (Obj.mapSeq (·.push Value.none)) hS rfl
  refine wpAny_updateSeq (hz := by seq_fits) hS₂ rfl ?_
  have hS₃ := Heap.get?_update_self (Obj.mapSeq (·.pop)) hS₂ rfl
  have oth : ∀ b o, b ≠ S0 → s.heap.get? b = some o → ((s.heap.update S0 (Obj.mapSeq (·.push Value.none))).update S0 (Obj.mapSeq (·.pop))).get? b = some o :=
    fun b o hb e => (Heap.get?_update_other _ _ (Ne.symm hb)).trans ((Heap.get?_update_other _ _ (Ne.symm hb)).trans e)
  refine wpAny_pure ⟨plainId_quiet F.plain_extend_loop _, z2_loop (h₁ := s.heap) S D1 D2 hn hsz low f1 f2 res hR n 0 _ s.toks _ #[] [] (by omega) (Nat.zero_le _)
    (.inl ⟨rfl, oth _ _ hSz.symm hz, ⟨_, _, oth _ _ (Nat.ne_of_lt low.2.2.1) hTO⟩, oth _ _ (Nat.ne_of_lt low.2.1) hTI⟩) (D1.frame _ _ _ st1 fun b hb o e => oth b o (fun q => f1 (q ▸ hb)) e) (D2.frame _ _ _ st2 fun b hb o e => oth b o (fun q => f2 (q ▸ hb)) e)
    (fun b o h0 _ _ _ _ e => oth b o h0 e) hS₃ rfl rfl ⟨(fun _ ha => nomatch ha), fun j a hj => by simp at hj⟩⟩
theorem z2_list {Q : Value → Shared → Prop} (S : ZipSep2 z TI TO i1 i2 fp1 fp2) (D1 : Draws prog w A.in1.in1.in1 i1 fp1 n1 P1 St1) (D2 : Draws prog w A.in1.in1.in1 i2 fp2 n2 P2 St2) (hn : n = min n1 n2) (hsz : n ≤ sizeLine)
    (g1 : ∀ b ∈ fp1, b < s.heap.objs.size) (g2 : ∀ b ∈ fp2, b < s.heap.objs.size)
    (hz : IsZip s.heap z TI TO .none) (hTI : IsTupOf2 s.heap TI (.ref i1) (.ref i2)) (hTO : IsTupOf2 s.heap TO b1 b2) (st1 : St1 0 s.heap) (st2 : St2 0 s.heap)
    (hQ : ∀ h' tk acc c as, (∀ b o, b ≠ z → b ≠ TO → b ≠ i1 → b ≠ i2 → s.heap.get? b = some o → h'.get? b = some o) → h'.get? s.heap.objs.size = some { cls := .type "list", dict := none, data := .seq acc c, slots := #[] } → as.length = n → Z2G P1 P2 s.heap.objs.size h' as →
      acc.toList = as.map Value.ref → Q (.ref s.heap.objs.size) { s with heap := h', toks := tk }) :
    wpAny (model prog w) A (call (.type "list") [.ref z]) Q E s := by
  refine callType_codes (Q₁ := fun obj s₁ => obj = .ref s.heap.objs.size ∧ s₁ = { s with heap := s.heap.push { cls := .type "list", data := .seq #[] } }) F.called_list (F.typeCall_list_1 _) F.entry_list_init
    (code_list_new _ ⟨rfl, rfl⟩) fun obj s₁ h₁ => ?_
  obtain ⟨rfl, rfl⟩ := h₁
  have hS : (s.heap.push { cls := .type "list", data := .seq #[] }).get? s.heap.objs.size = some { cls := .type "list", data := .seq #[] } := Heap.get?_push_size _ rfl
  refine ⟨⟨_, hS, rfl⟩, F.args_list_init_2 _ _, ?_⟩
  show wpAny _ A.in1.in1 (do let old ← Builtin.List.listItems (.ref s.heap.objs.size); Builtin.List.listUpdate (.ref s.heap.objs.size) (fun _ => #[]); letGo old.toList.reverse; Builtin.List.listExtendWith (.ref s.heap.objs.size) (.ref z) .none) _ _ _
  refine wpAny_bind ?_
  unfold Builtin.List.listItems
  refine wpAny_bind (wpAny_seqItems hS rfl (wpAny_pure ?_))
  show wpAny _ A.in1.in1 (updateSeq s.heap.objs.size (fun _ => #[]) >>= fun _ => letGo (#[] : Array Value).toList.reverse >>= fun _ => Builtin.List.listExtendWith (.ref s.heap.objs.size) (.ref z) .none) _ _ _
  refine wpAny_bind (wpAny_updateSeq hS rfl ?_)
  have hS₂ := Heap.get?_update_self (Obj.mapSeq (fun _ => (#[] : Array Value))) hS rfl
  have oth : ∀ b o, b ≠ s.heap.objs.size → s.heap.get? b = some o → ((s.heap.push { cls := .type "list", data := .seq #[] }).update s.heap.objs.size (Obj.mapSeq (fun _ => (#[] : Array Value)))).get? b = some o :=
    fun b o hb e => (Heap.get?_update_other _ _ (Ne.symm hb)).trans (Heap.get?_push_of_some _ e)
  have lt : ∀ {b o}, s.heap.get? b = some o → b < s.heap.objs.size := fun e => Heap.lt_size e
  have li1 : i1 < s.heap.objs.size := g1 _ S.mem1
  have li2 : i2 < s.heap.objs.size := g2 _ S.mem2
  have f1 : s.heap.objs.size ∉ fp1 := fun h => Nat.lt_irrefl _ (g1 _ h)
  have f2 : s.heap.objs.size ∉ fp2 := fun h => Nat.lt_irrefl _ (g2 _ h)
  refine wpAny_bind (wpAny_letGo ?_)
  refine z2_extend (A := A.in1) (n := n) S D1 D2 hn hsz ⟨lt hz, lt hTI, lt hTO, li1, li2⟩ f1 f2 .none _ (oth _ _ (Nat.ne_of_lt (lt hz)) hz) (oth _ _ (Nat.ne_of_lt (lt hTI)) hTI) (oth _ _ (Nat.ne_of_lt (lt hTO)) hTO)
    (D1.frame _ _ _ st1 fun b hb o e => oth b o (fun q => f1 (q ▸ hb)) e) (D2.frame _ _ _ st2 fun b hb o e => oth b o (fun q => f2 (q ▸ hb)) e) hS₂ fun h' tk acc c as hk hS' hl hG hacc => ?_
  exact ⟨rfl, hQ h' tk acc c as (fun b o h1 h2 h3 h4 e => hk b o (Nat.ne_of_lt (lt e)) h1 h2 h3 h4 (oth b o (Nat.ne_of_lt (lt e)) e)) hS' hl hG hacc⟩
end
end PySem
set_option synthInstance.maxSize 100000
set_option synthInstance.maxHeartbeats 4000000
set_option Elab.async false
set_option linter.all false
set_option maxRecDepth 100000
set_option maxHeartbeats 4000000
set_option autoImplicit false
/-! Ez8: list(zip(..)) of two as a rule, over data. -/
namespace Dx
open PySem PySem.Spec PyProof.Rows L2
section
variable {X : Cx} {pins : List (Addr × Obj)} {σ : L2.St} {H H2 : Hp} {s : Shared} {h' : Heap}
/-- several new objects are tracked -/
def tListZip2 (K : PySem.W.Frag) (ta : TA) : TE := fun σ H Q => ta σ H fun vs H1 => ∃ a b xs ys, vs = [.ref a, .ref b] ∧ SqL K H1 a xs ∧ SqL K H1 b ys ∧
  ∀ (p : Addr) (as : List Addr) (H2 : Hp), Same H1 H2 → H1 p = none → H2 p = some (.lst (as.map V.ref)) → as.length = min xs.length ys.length →
    (∀ (j : Nat) (t : Addr), as[j]? = some t → H1 t = none ∧ t ≠ p ∧ ∃ x y, xs[j]? = some x ∧ ys[j]? = some y ∧ H2 t = some (.tup [x, y])) → (∀ b, b ≠ p → b ∉ as → H2 b = H1 b) → Q (.ref p) H2
theorem pe_listZip2 {K : PySem.W.Frag} {e1 e2 : Expr} {ta : TA} {p p2 pos pos2 : Pos} (hc : X.calm = true) (hg : Gl X "list") (hm : X.mg "list" = none) (hg2 : Gl X "zip") (hm2 : X.mg "zip" = none) (ha : PA X [e1, e2] ta)
    (na : starEach [Expr.Call (.Name "zip" p2) [e1, e2] [] pos2] X.env = (false, eval (Expr.Call (.Name "zip" p2) [e1, e2] [] pos2) X.env) :: starEach [] X.env := by rfl)
    (hs : starEach [e1, e2] X.env = (false, eval e1 X.env) :: starEach [e2] X.env := by rfl) (hpl : (backTo pos2 (starEach [e2] X.env)).any (·.1) = false := by rfl) (hk : X.K = K := by rfl) :
    PE X (.Call (.Name "list" p) [.Call (.Name "zip" p2) [e1, e2] [] pos2] [] pos) (tListZip2 K ta) := by
  subst hk
  refine ⟨fun pins s σ H Q I h => ?_⟩
  refine Call_ (ld_blt I hg hm boot_list (PyProof.Rows.callWith_type1 (args_cons (Call_ (ld_blt I hg2 hm2 PyProof.Rows.boot_zip (PyProof.Rows.callWith_type1 (thn (ha.run pos2 pins s σ H _ I h) fun us s1 ⟨vs, H1, I1, r1, q1⟩ => ?_) hs hpl))) na) na))
  obtain ⟨a, b, xs, ys, rfl, hqx, hqy, q⟩ := q1
  cases r1 with
  | cons r rr =>
  cases rr with
  | cons r' rr =>
  cases rr
  cases r
  cases r'
  obtain ⟨its, rv, pl, hz1⟩ := I1.list hqx
  obtain ⟨its2, rv2, pl2, hz2⟩ := I1.list hqy
  have hl := pl.isList
  have hl2 := pl2.isList
  have la : a < s1.heap.objs.size := by obtain ⟨o, ho, _⟩ := hl; exact Heap.lt_size ho
  have lb : b < s1.heap.objs.size := by obtain ⟨o, ho, _⟩ := hl2; exact Heap.lt_size ho
  have hh : X.A.in1.handled = none := I1.ok.hd hc
  refine zip_begins2 (begins_list a its.toArray) (begins_list b its2.toArray) hl hl2 fun g hz hTI hTO ho1 ho2 hsz hkp => args_nil ?_
  generalize hN : s1.heap.objs.size = N at hz hTI hTO ho1 ho2 hsz la lb
  have S : ZipSep2 (N + 4) (N + 2) (N + 3) N (N + 1) [N, a] [N + 1, b] := by
    have ka : ∀ k, ¬ N + k = a := fun k => Nat.ne_of_gt (Nat.lt_of_lt_of_le la (Nat.le_add_right N k))
    have kb : ∀ k, ¬ N + k = b := fun k => Nat.ne_of_gt (Nat.lt_of_lt_of_le lb (Nat.le_add_right N k))
    constructor <;> simp <;> first | omega | exact ka _ | exact kb _ | exact ka 0 | exact kb 0
  have kl1 : g.IsList a its.toArray := hl.at fun o e => hkp a o e
  have kl2 : g.IsList b its2.toArray := hl2.at fun o e => hkp b o e
  have n1 := rv.length
  have n2 := rv2.length
  refine z2_list (s := { s1 with heap := g }) (n := min its.toArray.size its2.toArray.size) S (Draws.list (A := X.A.in1.in1.in1) hh N a (Nat.ne_of_lt la) its.toArray) (Draws.list (A := X.A.in1.in1.in1) hh (N + 1) b (Nat.ne_of_lt (Nat.lt_of_lt_of_le lb (Nat.le_add_right ..))) its2.toArray) rfl (by rw [List.size_toArray, List.size_toArray]; omega)
    (fun x hx => ?_) (fun x hx => ?_) hz hTI hTO ⟨⟨_, ho1, rfl, rfl⟩, kl1⟩ ⟨⟨_, ho2, rfl, rfl⟩, kl2⟩ fun h' tk acc cc as hk hS hlen hG hacc => ?_
  · show x < g.objs.size
    have : x = N ∨ x = a := by simpa using hx
    rw [hsz]
    rcases this with e | e
    · rw [e]; exact (show N < N + 5 by omega)
    · rw [e]; exact Nat.lt_of_lt_of_le la (Nat.le_add_right N 5)
  · show x < g.objs.size
    have : x = N + 1 ∨ x = b := by simpa using hx
    rw [hsz]
    rcases this with e | e
    · rw [e]; exact (show N + 1 < N + 5 by omega)
    · rw [e]; exact Nat.lt_of_lt_of_le lb (Nat.le_add_right N 5)
  have hk' : ∀ d o, s1.heap.get? d = some o → h'.get? d = some o := fun d o e => by
    have hd : d < N := by rw [← hN]; exact Heap.lt_size e
    have kd : ∀ k, d ≠ N + k := fun k => Nat.ne_of_lt (Nat.lt_of_lt_of_le hd (Nat.le_add_right N k))
    exact hk d o (kd 4) (kd 3) (kd 0) (kd 1) (hkp d o e)
  have hN6 : s1.heap.objs.size ≤ g.objs.size := by rw [hsz, hN]; omega
  have hp : H1 g.objs.size = none := I1.hok.fresh hN6
  have above : ∀ t ∈ as, g.objs.size < t := fun t ht => hG.above t ht
  have key : ∀ t : Addr, ∃ us : List V, ∀ j, as[j]? = some t → ∃ x y, us = [x, y] ∧ xs[j]? = some x ∧ ys[j]? = some y ∧ ObjOk X.prog X.w H1 h' t (.tup [x, y]) := fun t => by
    by_cases ht : t ∈ as
    · obtain ⟨j, hj⟩ := List.mem_iff_getElem?.mp ht
      obtain ⟨u1, u2, p1, p2, p4⟩ := hG.here j t hj
      have p1 : its[j]? = some u1 := by simpa using p1
      have p2 : its2[j]? = some u2 := by simpa using p2
      obtain ⟨x, x1, x2⟩ := valsGet rv p1
      obtain ⟨y, y1, y2⟩ := valsGet rv2 p2
      refine ⟨[x, y], fun k hk => ?_⟩
      obtain ⟨w1, w2, q1, q2, q4⟩ := hG.here k t hk
      have q1 : its[k]? = some w1 := by simpa using q1
      have q2 : its2[k]? = some w2 := by simpa using q2
      obtain ⟨x', x3, x4⟩ := valsGet rv q1
      obtain ⟨y', y3, y4⟩ := valsGet rv2 q2
      rw [show IsTupOf2 h' t u1 u2 ↔ _ from Iff.rfl] at p4
      have e : (some { cls := .type "tuple", data := .seq #[u1, u2] } : Option Obj) = some { cls := .type "tuple", data := .seq #[w1, w2] } := p4.symm.trans q4
      injection e with e
      injection e with _ _ e
      injection e with e
      injection e with e
      injection e with e1 e
      injection e with e2 e
      subst e1 e2
      rw [relV_fun x4 x2] at x3
      rw [relV_fun y4 y2] at y3
      exact ⟨x, y, rfl, x3, y3, (by show 2 ≤ sizeLine; decide), [u1, u2], .cons x2 (.cons y2 .nil), ⟨_, p4, rfl, 0, rfl⟩⟩
    · exact ⟨[], fun j hj => absurd (List.mem_of_getElem? hj) ht⟩
  obtain ⟨ct, hct⟩ := Classical.axiomOfChoice key
  let H2 : Hp := fun d => if d = g.objs.size then some (.lst (as.map V.ref)) else if d ∈ as then some (.tup (ct d)) else H1 d
  have hH2 : ∀ d, H2 d = if d = g.objs.size then some (.lst (as.map V.ref)) else if d ∈ as then some (.tup (ct d)) else H1 d := fun _ => rfl
  have old : ∀ d, d < g.objs.size → H2 d = H1 d := fun d hd => by
    rw [hH2, if_neg (Nat.ne_of_lt hd), if_neg (fun hm => Nat.lt_irrefl _ (Nat.lt_trans hd (above d hm)))]
  have sm : Same H1 H2 := fun d o e => by
    rw [old d (Nat.lt_of_lt_of_le (I1.hok.lt e) hN6)]
    exact e
  have hp2 : H2 g.objs.size = some (.lst (as.map V.ref)) := by rw [hH2, if_pos rfl]
  have ht2 : ∀ t ∈ as, H2 t = some (.tup (ct t)) := fun t ht => by rw [hH2, if_neg (Nat.ne_of_gt (above t ht)), if_pos ht]
  have accl : Vals (as.map V.ref) acc.toList := by
    rw [hacc]
    clear hacc hlen hG above key hct ht2 hp2 sm old hH2 H2 ct
    induction as with
    | nil => exact .nil
    | cons t as ih => exact .cons rfl ih
  have hsz0 : as.length ≤ sizeLine := by
    rw [hlen, List.size_toArray, List.size_toArray]
    omega
  have I2 : Inv X pins σ H2 { s1 with heap := h', toks := tk } := Inv.laidM I1 hk' sm (fun d hd => old d (Nat.lt_of_lt_of_le hd hN6)) fun d o hd e => by
    rw [hH2] at e
    by_cases h1 : d = g.objs.size
    · rw [if_pos h1] at e
      cases e
      subst h1
      exact ⟨by rw [List.length_map]; exact hsz0, acc.toList, cc, accl, by rw [Array.toArray_toList]; exact hS⟩
    · rw [if_neg h1] at e
      by_cases h2 : d ∈ as
      · rw [if_pos h2] at e
        cases e
        obtain ⟨j, hj⟩ := List.mem_iff_getElem?.mp h2
        obtain ⟨x, y, e1, _, _, ok⟩ := hct d j hj
        rw [e1]
        exact ok.stay (fun _ _ _ q => q) (fun c q => sm _ _ q) fun c xs q => sm _ _ q
      · rw [if_neg h2, I1.hok.fresh hd] at e
        cases e
  refine ⟨.ref g.objs.size, H2, I2, rfl, q g.objs.size as H2 sm hp hp2 (by rw [hlen, List.size_toArray, List.size_toArray]; omega) (fun j t hj => ?_) fun d h1 h2 => ?_⟩
  · have hm := List.mem_of_getElem? hj
    have ha := above t hm
    obtain ⟨x, y, e1, e2, e3, _⟩ := hct t j hj
    exact ⟨I1.hok.fresh (Nat.le_trans hN6 (Nat.le_of_lt ha)), Nat.ne_of_gt ha, x, y, e2, e3, by rw [ht2 t hm, e1]⟩
  · rw [hH2, if_neg h1, if_neg h2]
end
section
variable {K : PySem.W.Frag} {W : WX} {Γ : Ga} {B B' : Hp} {ρ : Ab} {σ : L2.St} {H H' : Hp}
def zip2D : List D → List D → List D
  | x :: xs, y :: ys => .trk [x, y] :: zip2D xs ys
  | _, _ => []
theorem zip2D_len : ∀ {xs ys : List D}, (zip2D xs ys).length = min xs.length ys.length
  | [], _ => by simp [zip2D]
  | _ :: _, [] => by simp [zip2D]
  | x :: xs, y :: ys => by
    unfold zip2D
    rw [List.length_cons, zip2D_len, List.length_cons, List.length_cons]
    omega
theorem zip2D_get : ∀ {xs ys : List D} {j : Nat} {x y : D}, xs[j]? = some x → ys[j]? = some y → (zip2D xs ys)[j]? = some (.trk [x, y])
  | [], _, j, x, y, h, _ => by simp at h
  | _ :: _, [], j, x, y, _, h => by simp at h
  | x' :: xs, y' :: ys, 0, x, y, h1, h2 => by
    simp at h1 h2
    subst h1 h2
    rfl
  | x' :: xs, y' :: ys, j + 1, x, y, h1, h2 => by
    show (zip2D xs ys)[j]? = _
    exact zip2D_get (by simpa using h1) (by simpa using h2)
instance rff_zip2 {ta : TA} {pa : PAx} [ha : RfA K W ta pa] : RfF K W (tListZip2 K ta) (fun ρ Ξ Φ => pa ρ Ξ fun as ρ1 => ∃ ds, as = ds.map .pu ∧ ∃ d e xs ys, ds = [d, e] ∧ d.seq = some xs ∧ e.seq = some ys ∧ Φ (.lst (zip2D xs ys)) ρ1) where
  run := fun Γ B ρ σ H Q Ξ Φ r xo h po => ha.run Γ B ρ σ H _ Ξ _ r xo h fun vs as B1 H1 ρ1 r1 s1 aso hq => by
    obtain ⟨ds, rfl, d, e, xs, ys, rfl, e1, e2, hq⟩ := hq
    obtain ⟨v, u, rfl, d1, d2⟩ := (ArsOk.pure (ds := [d, e]) aso).two
    obtain ⟨a, vx, rfl, a1, a2⟩ := d1.seq_inv e1
    obtain ⟨b, vy, rfl, b1, b2⟩ := d2.seq_inv e2
    refine ⟨a, b, vx, vy, rfl, r1.bh.seq a1, r1.bh.seq b1, fun p ts H2 sm hp hl hlen ht hr => ?_⟩
    let B2 : Hp := fun t => if t ∈ ts then H2 t else B1 t
    have hB2 : ∀ t, B2 t = if t ∈ ts then H2 t else B1 t := fun _ => rfl
    have hn : ∀ t ∈ ts, H1 t = none ∧ t ≠ p ∧ ∃ us, H2 t = some (.tup us) := fun t hm => by
      obtain ⟨j, hj⟩ := List.mem_iff_getElem?.mp hm
      obtain ⟨q1, q2, x, y, _, _, q3⟩ := ht j t hj
      exact ⟨q1, q2, _, q3⟩
    have sB : Same B1 B2 := fun t o e => by
      rw [hB2, if_neg (fun hm => by have := (hn t hm).1; rw [r1.bh t o e] at this; cases this)]
      exact e
    have s2 : Same B2 H2 := fun t o e => by
      rw [hB2] at e
      by_cases hm : t ∈ ts
      · rw [if_pos hm] at e; exact e
      · rw [if_neg hm] at e; exact sm t o (r1.bh t o e)
    have al : Al K B1 H1 B2 H2 := Al.of sB sm fun t o e => by
      rw [hB2] at e
      by_cases hm : t ∈ ts
      · rw [if_pos hm] at e
        obtain ⟨q1, q2, us, q3⟩ := hn t hm
        rw [q3] at e
        cases e
        exact .inr ⟨q1, q3, fun _ _ _ _ z => nomatch z⟩
      · rw [if_neg hm] at e; exact .inl e
    have r2 := r1.al al s2
    have fr := r1.fre hp
    refine po p (.lst (ts.map V.ref)) (.lst (zip2D xs ys)) B2 H2 ρ1 r2 (s1.trans sB) ⟨?_, fr.g, fr.h, fr.s⟩ hl (.lst (DrA.of_get ?_ fun j v d h1 h2 => ?_)) hq
    · rw [hB2, if_neg (fun hm => (hn p hm).2.1 rfl)]
      exact fr.b
    · rw [List.length_map, hlen, zip2D_len, a2.length, b2.length]
    · rw [List.getElem?_map] at h1
      obtain ⟨t, hj, rfl⟩ := Option.map_eq_some_iff.mp h1
      obtain ⟨q1, q2, x, y, g1, g2, q3⟩ := ht j t hj
      obtain ⟨dx, k1, k2⟩ := a2.get' g1
      obtain ⟨dy, k3, k4⟩ := b2.get' g2
      rw [zip2D_get k1 k3] at h2
      cases h2
      refine .trk (xs := [x, y]) ?_ (.cons (k2.mono sB) (.cons (k4.mono sB) .nil))
      rw [hB2, if_pos (List.mem_of_getElem? hj)]
      exact q3
end
end Dx
set_option synthInstance.maxSize 100000
set_option synthInstance.maxHeartbeats 4000000
set_option Elab.async false
set_option linter.all false
set_option maxRecDepth 100000
set_option maxHeartbeats 4000000
set_option autoImplicit false
namespace K06
open PySem L2 Dx Kd
/-- what a bearing keeps -/
def bfl (n : Int) (ss : List D) (bd : D) (ps : List (Key × D)) (md : D) (m1 m2 m3 : Addr) : List (Str × D) :=
  [("_count", .int n), ("_strengths", .lst ss), ("_bend", bd), ("_places", .dic ps), ("_moments", md), ("_overlaid", .raw m1), ("_spares", .raw m2), ("_held", .raw m3)]
section
variable {n : Int} {ss : List D} {bd : D} {ps : List (Key × D)} {md : D} {m1 m2 m3 : Addr}
theorem lkCount : (bfl n ss bd ps md m1 m2 m3).lookup ("_count" : Str) = some (.int n) := lookup_hit (by decide +kernel)
theorem lkPlaces : (bfl n ss bd ps md m1 m2 m3).lookup ("_places" : Str) = some (.dic ps) := lookup_miss (by decide +kernel) (lookup_miss (by decide +kernel) (lookup_miss (by decide +kernel) (lookup_hit (by decide +kernel))))
theorem lkMoments : (bfl n ss bd ps md m1 m2 m3).lookup ("_moments" : Str) = some md := lookup_miss (by decide +kernel) (lookup_miss (by decide +kernel) (lookup_miss (by decide +kernel) (lookup_miss (by decide +kernel) (lookup_hit (by decide +kernel)))))
def bNo (f : Str) : Bool := ([("_count" : Str), "_strengths", "_bend", "_places", "_moments", "_overlaid", "_spares", "_held"] : List Str).all fun g => !(f == g)
theorem lkNo {f : Str} (h : bNo f = true) : (bfl n ss bd ps md m1 m2 m3).lookup f = none := by
  unfold bNo at h
  simp only [List.all_cons, List.all_nil, Bool.and_true, Bool.and_eq_true, Bool.not_eq_true'] at h
  obtain ⟨h1, h2, h3, h4, h5, h6, h7, h8⟩ := h
  exact lookup_miss h1 (lookup_miss h2 (lookup_miss h3 (lookup_miss h4 (lookup_miss h5 (lookup_miss h6 (lookup_miss h7 (lookup_miss h8 rfl)))))))
end
def BrgOk (L : Int) (xs : List D) (bd : D) (ws : List (Rat × Rat)) (C CM : Addr) (d : D) : Prop := ∃ ss ps md m1 m2 m3, d = .obj C (bfl xs.length ss bd ps md m1 m2 m3) ∧ Pk L xs ∧ MomOk ws CM md ∧
  ∀ i : Int, -2 ≤ i → i ≤ xs.length + 1 → valD ps (.inl i) = some (.int (pE L xs i))
theorem lkBend {n : Int} {ss : List D} {bd : D} {ps : List (Key × D)} {md : D} {m1 m2 m3 : Addr} : (bfl n ss bd ps md m1 m2 m3).lookup ("_bend" : Str) = some bd := lookup_miss (by decide +kernel) (lookup_miss (by decide +kernel) (lookup_hit (by decide +kernel)))
theorem lkHeld {n : Int} {ss : List D} {bd : D} {ps : List (Key × D)} {md : D} {m1 m2 m3 : Addr} : (bfl n ss bd ps md m1 m2 m3).lookup ("_held" : Str) = some (.raw m3) := lookup_miss (by decide +kernel) (lookup_miss (by decide +kernel) (lookup_miss (by decide +kernel) (lookup_miss (by decide +kernel) (lookup_miss (by decide +kernel) (lookup_miss (by decide +kernel) (lookup_miss (by decide +kernel) (lookup_hit (by decide +kernel))))))))
theorem sq_bdD (bo : Option Rat) : Sq (bdD bo) := by
  cases bo with
  | none => exact .non
  | some q => exact sq_frD q
theorem wf_held {n : Int} {ss : List D} {bd : D} {ps : List (Key × D)} {md : D} {m1 m2 m3 : Addr} {ws : List (Rat × Rat)} {CM : Addr} (hb : BdOk bd) (hm : MomOk ws CM md) : memoWf "_held" (bfl n ss bd ps md m1 m2 m3) := by
  refine ⟨fun z => absurd z (by decide +kernel), fun _ => ⟨fun d e => ?_, fun d e => ?_, fun d e => ?_⟩⟩
  · rw [lkBend] at e
    cases e
    obtain ⟨bo, rfl, _⟩ := hb
    exact sq_bdD bo
  · rw [lkPlaces] at e
    cases e
    exact ⟨_, rfl⟩
  · rw [lkMoments] at e
    cases e
    obtain ⟨B, m, rfl, _⟩ := hm
    exact ⟨_, _, rfl, (mem_wf (B := B) (ws := ws) (m := m)).1 rfl⟩
theorem great_h : hGreat = greatQ := rfl
theorem wt_q {B : Int} {z : Rat × Rat} (h : (z.1.den : Int) * (z.2.den : Int) ∣ B) : ((wtI B z : Int) : Rat) = (B : Rat) * z.2 := by
  have h1 := mom_step (p := 1) h
  have h0 := mom_step (p := 0) h
  rw [Int.mul_one] at h1
  rw [Int.mul_zero] at h0
  rw [Rat.intCast_sub] at h1 h0
  have e1 : ((1 : Int) : Rat) = 1 := rfl
  have e0 : ((0 : Int) : Rat) = 0 := rfl
  rw [e1] at h1
  rw [e0] at h0
  generalize ((wtI B z : Int) : Rat) = w at *
  generalize ((tnI B z * 1 : Int) : Rat) = t at *
  generalize (B : Rat) = b at *
  clear h
  grind
theorem row_inj {B : Int} {z y : Rat × Rat} (hB : 0 < B) (hz : (z.1.den : Int) * (z.2.den : Int) ∣ B) (hy : (y.1.den : Int) * (y.2.den : Int) ∣ B) (e : hRow B z = hRow B y) : z = y := by
  have e1 : (z.1.num, (z.1.den : Int)) = (y.1.num, (y.1.den : Int)) := congrArg Prod.fst e
  have e2 : wtI B z = wtI B y := congrArg (fun p => p.2.1) e
  have n1 : z.1.num = y.1.num := congrArg Prod.fst e1
  have n2 : z.1.den = y.1.den := Int.ofNat_inj.mp (congrArg Prod.snd e1)
  have q1 : z.1 = y.1 := Rat.ext n1 n2
  have w1 := wt_q hz
  have w2 := wt_q hy
  rw [e2, w2] at w1
  have hb : (B : Rat) ≠ 0 := by
    have : (0 : Rat) < (B : Rat) := by exact_mod_cast hB
    grind
  have q2 : z.2 = y.2 := by
    generalize (B : Rat) = b at *
    generalize z.2 = p, y.2 = q at *
    clear e e1 e2 n1 n2 q1 w2 hz hy hB
    grind
  exact Prod.ext q1 q2
theorem rows_inj {B : Int} (hB : 0 < B) : ∀ {l r : List (Rat × Rat)}, (∀ z ∈ l, (z.1.den : Int) * (z.2.den : Int) ∣ B) → (∀ z ∈ r, (z.1.den : Int) * (z.2.den : Int) ∣ B) → l.map (hRow B) = r.map (hRow B) → l = r
  | [], [], _, _, _ => rfl
  | [], _ :: _, _, _, h => by cases h
  | _ :: _, [], _, _, h => by cases h
  | x :: l, y :: r, h1, h2, h => by
    injection h with e1 e2
    rw [row_inj hB (h1 _ List.mem_cons_self) (h2 _ List.mem_cons_self) e1, rows_inj hB (fun z hz => h1 z (List.mem_cons_of_mem _ hz)) (fun z hz => h2 z (List.mem_cons_of_mem _ hz)) e2]
theorem frC_inj {p q : Rat} (h : frC p = frC q) : p = q := by
  injection h with h
  injection h with h1 h2
  injection h1 with h1
  injection h2 with h2 _
  injection h2 with h2
  exact Rat.ext h1 (Int.ofNat_inj.mp h2)
theorem held_iff {n : Int} {ss : List D} {bq : Rat} {ps : List (Key × D)} {md : D} {m1 m2 m3 : Addr} {ws : List (Rat × Rat)} {CM : Addr} {i j l u : Int} {d : D} (hm : MomOk ws CM md) (hl : valD ps (.inl i) = some (.int l)) (hu : valD ps (.inl j) = some (.int u)) :
    memoSpec "_held" (bfl n ss (frD bq) ps md m1 m2 m3) [.inl i, .inl j] d ↔ d = .bl (!decide (bq < (greatQ ws l u).1)) := by
  obtain ⟨B, m, rfl, B0, _, _, hz⟩ := hm
  constructor
  · intro h
    obtain ⟨bq', p, q, l', u', zs, hk, ⟨d1, e1, c1⟩, ⟨ps1, e2, c2⟩, ⟨ps2, e3, c3⟩, ⟨C, gs2, d0, B', e4, e5, c5, e6, B0', hz'⟩, hd⟩ := h.2 rfl
    injection hk with hk1 hk2
    injection hk1 with hk1
    injection hk2 with hk2 _
    injection hk2 with hk2
    subst hk1 hk2
    rw [lkBend] at e1
    cases e1
    obtain rfl : bq = bq' := frC_inj c1
    rw [lkPlaces] at e2 e3
    cases e2
    cases e3
    have c2 : valD ps (.inl i) = some (.int l') := c2
    have c3 : valD ps (.inl j) = some (.int u') := c3
    rw [hl] at c2
    rw [hu] at c3
    cases c2
    cases c3
    rw [lkMoments] at e4
    cases e4
    rw [mlWeights] at e5
    cases e5
    rw [mlBottom] at e6
    cases e6
    rw [ow_cn] at c5
    injection c5 with c5
    have := rows_inj B0 (fun z hm => (hz z hm).2) hz' (wDs_inj c5)
    subst this
    exact hd
  · rintro rfl
    exact ⟨fun z => absurd z (by decide +kernel), fun _ => ⟨bq, i, j, l, u, ws, rfl, ⟨_, lkBend, rfl⟩, ⟨_, lkPlaces, hl⟩, ⟨_, lkPlaces, hu⟩, ⟨CM, _, _, B, lkMoments, mlWeights, ow_cn, mlBottom, B0, fun z hm => (hz z hm).2⟩, rfl⟩⟩
def wRests (C CM : Addr) : Pm := fun ρ Ξ Φ => ∃ (L : Int) (xs : List D) (bd : D) (ws : List (Rat × Rat)) (d : D) (ns : List Int), ρ = pus [d, .tup (ns.map D.int)] ∧ BrgOk L xs bd ws C CM d ∧ ns.length ≤ 12 ∧ ∀ ρ', Φ (.lst ((restsOf xs.length ns).map D.int)) ρ'
/-- the boards of a lot -/
def brdD (n : Nat) (ns : List Int) : List D := zip2D ((restsOf n ns).map D.int) (((restsOf n ns).map D.int).drop 1)
def wEnds (C CM : Addr) : Pm := fun ρ Ξ Φ => ∃ (L : Int) (xs : List D) (bd : D) (ws : List (Rat × Rat)) (d : D) (ns : List Int), ρ = pus [d, .tup (ns.map D.int)] ∧ BrgOk L xs bd ws C CM d ∧ ns.length ≤ 12 ∧ ∀ ρ', Φ (.lst (brdD xs.length ns)) ρ'
def wBBend (C CM : Addr) : Pm := fun ρ Ξ Φ => ∃ (L : Int) (xs : List D) (bd : D) (ws : List (Rat × Rat)) (d : D) (l u : Int) (q : Rat), ρ = pus [d, .int l, .int u, trkD q] ∧ BrgOk L xs bd ws C CM d ∧ -1 ≤ l ∧ l < u ∧ u ≤ xs.length ∧ (PlOk q ∨ ∃ z ∈ ws, q = z.1) ∧ ∀ ρ', Φ (frD (bendQ ws (pE L xs l) (pE L xs u) q)) ρ'
/-- a board: its rests, its greatest bend, and where -/
def boardD (L : Int) (xs : List D) (ws : List (Rat × Rat)) (l u : Int) : D := .tup [.int l, .int u, frD (bendQ ws (pE L xs l) (pE L xs u) (greatQ ws (pE L xs l) (pE L xs u)).2), trkD (greatQ ws (pE L xs l) (pE L xs u)).2]
def wBoard (C CM : Addr) : Pm := fun ρ Ξ Φ => ∃ (L : Int) (xs : List D) (bd : D) (ws : List (Rat × Rat)) (d : D) (l u : Int), ρ = pus [d, .int l, .int u] ∧ BrgOk L xs bd ws C CM d ∧ -1 ≤ l ∧ l < u ∧ u ≤ xs.length ∧ ∀ ρ', Φ (boardD L xs ws l u) ρ'
def wLaid (C CM : Addr) : Pm := fun ρ Ξ Φ => ∃ (L : Int) (xs : List D) (bd : D) (ws : List (Rat × Rat)) (d : D) (l h u : Int), ρ = pus [d, .int l, .int h, .int u] ∧ BrgOk L xs bd ws C CM d ∧ -2 ≤ l ∧ l < h ∧ h < u ∧ u ≤ xs.length + 1 ∧
  ∀ (t b : Int) (ρ' : Ab), 1 ≤ b → t.natAbs < 2 ^ 170 → b.natAbs < 2 ^ 80 → Rat.divInt t b = laidQ ws (pE L xs l) (pE L xs h) (pE L xs u) → Φ (.tup [.int t, .int b]) ρ'
def extOf (n : Nat) (ns : List Int) : List Int := -2 :: (restsOf n ns ++ [(n : Int) + 1])
def laidK (L : Int) (xs : List D) (ws : List (Rat × Rat)) (ns : List Int) (k : Nat) : Rat := laidQ ws (pE L xs ((extOf xs.length ns).getD k 0)) (pE L xs ((extOf xs.length ns).getD (k + 1) 0)) (pE L xs ((extOf xs.length ns).getD (k + 2) 0))
def brnD (L : Int) (xs : List D) (ws : List (Rat × Rat)) (ns : List Int) : List D := (List.range (ns.length + 2)).map fun k => .tup [.int ((extOf xs.length ns).getD (k + 1) 0), frD (laidK L xs ws ns k)]
theorem ext_len {n : Nat} {ns : List Int} : (extOf n ns).length = ns.length + 4 := by
  unfold extOf restsOf
  simp
theorem ext_rise {n : Nat} {ns : List Int} (h : LotOk n ns) : (extOf n ns).Pairwise (· < ·) ∧ ∀ r ∈ extOf n ns, -2 ≤ r ∧ r ≤ n + 1 := by
  obtain ⟨h1, h2⟩ := rests_rise h
  refine ⟨.cons (fun b hb => ?_) (List.pairwise_append.mpr ⟨h1, List.pairwise_singleton .., fun b hb c hc => ?_⟩), fun r hr => ?_⟩
  · rcases List.mem_append.mp hb with hb | hb
    · have := h2 b hb; omega
    · rw [List.mem_singleton.mp hb]; omega
  · rw [List.mem_singleton.mp hc]
    have := h2 b hb; omega
  · rcases List.mem_cons.mp hr with rfl | hr
    · omega
    · rcases List.mem_append.mp hr with hr | hr
      · have := h2 r hr; omega
      · rw [List.mem_singleton.mp hr]; omega
theorem ext_eq {n : Nat} {ns : List Int} : [D.int (-1 - 1)] ++ (restsOf n ns).map D.int ++ [D.int ((n : Int) + 1)] = (extOf n ns).map D.int := by
  unfold extOf
  rw [List.map_cons, List.map_append]
  rfl
theorem ext_at {n : Nat} {ns : List Int} {k : Nat} (h : k < ns.length + 4) : ((extOf n ns).map D.int)[k]? = some (.int ((extOf n ns).getD k 0)) := by
  rw [← ext_len (n := n)] at h
  rw [List.getElem?_map, List.getElem?_eq_getElem h, getD_at h]
  rfl
theorem ext_lt {n : Nat} {ns : List Int} (h : LotOk n ns) {i j : Nat} (hij : i < j) (hj : j < ns.length + 4) : (extOf n ns).getD i 0 < (extOf n ns).getD j 0 := by
  rw [← ext_len (n := n)] at hj
  rw [getD_at hj, getD_at (Nat.lt_trans hij hj)]
  exact List.pairwise_iff_getElem.mp (ext_rise h).1 _ _ _ _ hij
theorem ext_bd {n : Nat} {ns : List Int} (h : LotOk n ns) {j : Nat} (hj : j < ns.length + 4) : -2 ≤ (extOf n ns).getD j 0 ∧ (extOf n ns).getD j 0 ≤ n + 1 := by
  rw [← ext_len (n := n)] at hj
  rw [getD_at hj]
  exact (ext_rise h).2 _ (List.getElem_mem hj)
theorem brn_next {L : Int} {xs : List D} {ws : List (Rat × Rat)} {ns : List Int} {i : Nat} (h : i < ns.length + 2) : (brnD L xs ws ns).take i ++ [.tup [.int ((extOf xs.length ns).getD (i + 1) 0), frD (laidK L xs ws ns i)]] = (brnD L xs ws ns).take (i + 1) := by
  have e : (brnD L xs ws ns)[i]? = some (.tup [.int ((extOf xs.length ns).getD (i + 1) 0), frD (laidK L xs ws ns i)]) := by
    unfold brnD
    rw [List.getElem?_map, List.getElem?_range h]
    rfl
  rw [List.take_add_one, e]
  rfl
theorem brn_len {L : Int} {xs : List D} {ws : List (Rat × Rat)} {ns : List Int} : (brnD L xs ws ns).length = ns.length + 2 := by
  unfold brnD
  rw [List.length_map, List.length_range]
def threes (ls : List D) : List D := zip3D ls (ls.drop 1) (ls.drop 2)
def wAround : PmF := fun ρ Φ => ∃ (l u : Int) (rs : List D), ρ = pus [.int l, .lst rs, .int u] ∧ rs.length ≤ 1000 ∧ ∀ ρ', Φ (.lst (threes (.int l :: rs ++ [.int u]))) ρ'
theorem threes_at {n : Nat} {ns : List Int} {k : Nat} {d : D} (h : (threes ((extOf n ns).map D.int))[k]? = some d) : d = .trk [.int ((extOf n ns).getD k 0), .int ((extOf n ns).getD (k + 1) 0), .int ((extOf n ns).getD (k + 2) 0)] ∧ k < ns.length + 2 := by
  have hk := (List.getElem?_eq_some_iff.mp h).1
  unfold threes at hk h
  rw [zip3D_len, List.length_drop, List.length_drop, List.length_map, ext_len] at hk
  rw [zip3D_get (ext_at (by omega)) (by rw [List.getElem?_drop, Nat.add_comm]; exact ext_at (by omega)) (by rw [List.getElem?_drop, Nat.add_comm]; exact ext_at (by omega))] at h
  exact ⟨(Option.some.inj h).symm, by omega⟩
theorem threes_len {n : Nat} {ns : List Int} : (threes ((extOf n ns).map D.int)).length = ns.length + 2 := by
  unfold threes
  rw [zip3D_len, List.length_drop, List.length_drop, List.length_map, ext_len]
  omega
def wBBorne (C CM : Addr) : PmF := fun ρ Φ => ∃ (L : Int) (xs : List D) (bd : D) (ws : List (Rat × Rat)) (d : D) (ns : List Int), ρ = pus [d, .tup (ns.map D.int)] ∧ BrgOk L xs bd ws C CM d ∧ LotOk xs.length ns ∧ ∀ ρ', Φ (.lst (brnD L xs ws ns)) ρ'
section
variable {P : Program} {w : World} {K : PySem.W.Frag} {mg : Str → Option Value} {a : Nat → Addr} {fd : Nat → FuncData} {tk : Nat → Tok} {base : Heap}
theorem ok_Bearing__laid (T : Txt K mg a fd tk) : FnOk P w K mg base CX0 4 (a 41) (fd 41) ["self", "left", "rest", "right"] (spD K 4 (wLaid (a 108) (a 114))) := by
  refine ok0 T.F_Bearing__laid sc_Bearing__laid (fun _ _ _ h => h) fun cdv A outer s H E hr => ?_
  refine ⟨_, (pss_one (ps_ret (pe_meth (pe_fld (pv 0) rfl) T.c_Moments T.m_Moments_laid (ok_Moments_laid T) (hr.mono (by decide)) T.b_Moments_laid .nil pass0 (pa_cons (pe_dget (hu_of hr) (pe_fld (pv 0) rfl) (pv 1) (fun _ _ => rfl)) (pa_cons (pe_dget (hu_of hr) (pe_fld (pv 0) rfl) (pv 2) (fun _ _ => rfl)) (pa_cons (pe_dget (hu_of hr) (pe_fld (pv 0) rfl) (pv 3) (fun _ _ => rfl)) pa_nil)))))), ?_⟩
  try dsimp only [cxOf, List.map, List.length_cons, List.length_nil]
  refine ⟨_, inferInstance, ?_⟩
  rintro ρ Ξ Φ ⟨L, xs, bd, ws, d, l, h, u, rfl, ⟨ss, ps, md, m1, m2, m3, rfl, hp, hm, hps⟩, l0, l1, l2, u1, k⟩
  have pl := hps l l0 (by omega)
  have ph := hps h (by omega) (by omega)
  have pu := hps u (by omega) u1
  have g1 := pE_lt hp l0 l1 (by omega)
  have g2 := pE_lt hp (by omega : -2 ≤ h) l2 u1
  have c1 := pE_bd hp l0 (by omega : l ≤ xs.length + 1)
  have c3 := pE_bd hp (by omega : -2 ≤ u) u1
  obtain ⟨B, m, rfl, hm'⟩ := id hm
  refine ⟨_, rfl, _, _, _, rfl, T.c_Bearing, T.f_moments, lkMoments, _, rfl, mlNo (by decide +kernel) (by decide +kernel) (by decide +kernel), _, rfl, _, _, _, rfl, T.c_Bearing, T.f_places, lkPlaces, _, rfl, _, .inl l, _, rfl, rfl, pl, _, rfl, _, _, _, rfl, T.c_Bearing, T.f_places, lkPlaces, _, rfl, _, .inl h, _, rfl, rfl, ph, _, rfl, _, _, _, rfl, T.c_Bearing, T.f_places, lkPlaces, _, rfl, _, .inl u, _, rfl, rfl, pu, trivial, trivial, trivial, rfl, List.nodup_nil, ⟨ws, _, pE L xs l, pE L xs h, pE L xs u, rfl, hm, c1.1, g1, g2, c3.2, fun t b ρ' b0 tb bb e => k t b _ b0 tb bb e⟩⟩

theorem ok_Bearing_rests (T : Txt K mg a fd tk) : FnOk P w K mg base CX0 1 (a 42) (fd 42) ["self", "lot"] (spD K 2 (wRests (a 108) (a 114))) := by
  refine ok0 T.F_Bearing_rests sc_Bearing_rests (fun _ _ _ h => h) fun cdv A outer s H E hr => ?_
  refine ⟨_, (pss_one (ps_ret (pe_lst (pa_cons (pe_glob (v := .int (-1)) rfl T.n_LEFT_REST ⟨_, rfl⟩) (StX.pa_star (pv 1) (pa_cons (pe_fld (pv 0) rfl) pa_nil)))))), ?_⟩
  try dsimp only [cxOf, List.map, List.length_cons, List.length_nil]
  refine ⟨_, inferInstance, ?_⟩
  rintro ρ Ξ Φ ⟨L, xs, bd, ws, d, ns, rfl, ⟨ss, ps, md, m1, m2, m3, rfl, hp, hm, hps⟩, hl, k⟩
  refine ⟨_, rfl, ns.map D.int, rfl, _, rfl, _, _, _, rfl, T.c_Bearing, T.f_count, lkCount, trivial, trivial, (restsOf xs.length ns).map D.int, ?_, ?_, k _⟩
  · unfold restsOf
    simp
  · rw [List.length_map]
    unfold restsOf
    simp
    omega

theorem ok_around (T : Txt K mg a fd tk) : FnOk P w K mg base CX0 1 (a 54) (fd 54) ["left", "rests", "right"] (spF K 3 wAround) := by
  refine okFS T.F_around sc_around fun cdv A outer s H E hr => ?_
  refine ⟨_, _, (pss_cons (ps_set (i := 3) sc_around.nd rfl (by first | exact Or.inl rfl | exact Or.inr rfl) (pe_lst (pa_cons (pv 0) (StX.pa_star (pv 1) (pa_cons (pv 2) pa_nil)))))
      (pss_one (ps_ret (pe_listZip3 rfl rfl T.n_list rfl T.n_zip (pa_cons (pv 3) (pa_cons (pe_slice (sl_listK (K := K)) (pv 3) (po_some pe_int) po_none) (pa_cons (pe_slice (sl_listK (K := K)) (pv 3) (po_some pe_int) po_none) pa_nil))))))), ?_⟩
  try dsimp only [cxOf, List.map, List.length_cons, List.length_nil]
  refine ⟨_, _, inferInstance, inferInstance, ?_⟩
  rintro ρ Φ ⟨l, u, rs, rfl, hr, k⟩
  refine ⟨_, rfl, _, rfl, rs, rfl, _, rfl, trivial, trivial, .int l :: rs ++ [.int u], by simp, by simp; omega, .inl ?_⟩
  refine ⟨_, rfl, _, rfl, 1, rfl, _, rfl, _, rfl, 2, rfl, _, rfl, trivial, trivial, trivial, [_, _, _], rfl, _, _, _, _, _, _, rfl, rfl, rfl, rfl, ?_⟩
  rw [show cutD (.int l :: rs ++ [.int u]) (some 1) none = (.int l :: rs ++ [.int u] : List D).drop 1 from cut_from _ 1, show cutD (.int l :: rs ++ [.int u]) (some 2) none = (.int l :: rs ++ [.int u] : List D).drop 2 from cut_from _ 2]
  exact k _

theorem ok_Bearing_borne (T : Txt K mg a fd tk) : FnOk P w K mg base CX0 5 (a 45) (fd 45) ["self", "lot"] (spF K 2 (wBBorne (a 108) (a 114))) := by
  refine okFS T.F_Bearing_borne sc_Bearing_borne fun cdv A outer s H E hr => ?_
  refine ⟨_, _, (PSs.assoc (pss_cons (ps_set (i := 2) sc_Bearing_borne.nd rfl (by first | exact Or.inl rfl | exact Or.inr rfl) (pe_lst pa_nil))
      (pss_cons (ps_for PassesOwn.never rfl (pi_list (pe_call (ok_around T) (hr.mono (by decide)) rfl T.n_around_bearing T.F_around.kp T.b_around .nil pass0 (pa_cons (pe_op op_sub (pe_glob (v := .int (-1)) rfl T.n_LEFT_REST ⟨_, rfl⟩) pe_int) (pa_cons (pe_meth (pv 0) T.c_Bearing T.m_Bearing_rests (ok_Bearing_rests T) (hr.mono (by decide)) T.b_Bearing_rests .nil pass0 (pa_cons (pv 1) pa_nil)) (pa_cons (pe_op op_add (pe_fld (pv 0) rfl) pe_int) pa_nil))))) (pg_tup rfl (pgs_cons (pg_name (i := 3) sc_Bearing_borne.nd rfl (by first | exact Or.inl rfl | exact Or.inr rfl)) (pgs_cons (pg_name (i := 4) sc_Bearing_borne.nd rfl (by first | exact Or.inl rfl | exact Or.inr rfl)) (pgs_cons (pg_name (i := 5) sc_Bearing_borne.nd rfl (by first | exact Or.inl rfl | exact Or.inr rfl)) pgs_nil)))) (pss_cons (ps_asg (pe_meth (pv 0) T.c_Bearing T.m_Bearing__laid (ok_Bearing__laid T) (hr.mono (by decide)) T.b_Bearing__laid .nil pass0 (pa_cons (pv 3) (pa_cons (pv 4) (pa_cons (pv 5) pa_nil)))) (pg_tup rfl (pgs_cons (pg_name (i := 6) sc_Bearing_borne.nd rfl (by first | exact Or.inl rfl | exact Or.inr rfl)) (pgs_cons (pg_name (i := 7) sc_Bearing_borne.nd rfl (by first | exact Or.inl rfl | exact Or.inr rfl)) pgs_nil))))
      (pss_one (ps_expr (pe_bm PySem.F.plainAttrs_list PySem.F.slot_list_append PySem.F.type_list_append mt_append (pv 2) (pa_cons (pe_tup (pa_cons (pv 4) (pa_cons (pe_call (ok_reduced T) (hr.mono (by decide)) rfl T.n_reduced T.F_reduced.kp T.b_reduced .nil pass0 (pa_cons (pv 6) (pa_cons (pv 7) pa_nil))) pa_nil))) pa_nil))))))
      (pss_one (ps_ret (PE.varF (pv 2))))))), ?_⟩
  try dsimp only [cxOf, List.map, List.length_cons, List.length_nil]
  refine ⟨_, _, inferInstance, inferInstance, ?_⟩
  rintro ρ Φ ⟨L, xs, bd, ws, d, ns, rfl, hB, hn, k⟩
  have hnl := lot_len hn
  have hB' := hB
  obtain ⟨ss, ps, md, m1, m2, m3, rfl, hp, hm, hps⟩ := hB'
  have h12 := hp.2.2.2
  have rl : (restsOf xs.length ns).length = ns.length + 2 := by unfold restsOf; simp
  refine ⟨[], rfl, (by show 0 ≤ 100000; decide), .inr ?_⟩
  refine ⟨-1, 1, rfl, rfl, _, rfl, _, rfl, lkNo (by decide +kernel), _, rfl, trivial, rfl, List.nodup_nil, ⟨L, xs, bd, ws, _, ns, rfl, hB, by omega, fun ρ' => ?_⟩⟩
  refine ⟨_, rfl, _, _, _, rfl, T.c_Bearing, T.f_count, lkCount, xs.length, 1, rfl, rfl, ?_⟩
  refine ⟨trivial, trivial, trivial, rfl, List.nodup_nil, ⟨-1 - 1, (xs.length : Int) + 1, (restsOf xs.length ns).map D.int, rfl, (by rw [List.length_map, rl]; omega), fun ρ' => ?_⟩⟩
  have ee : (D.int (-1 - 1) :: (restsOf xs.length ns).map D.int ++ [D.int ((xs.length : Int) + 1)]) = (extOf xs.length ns).map D.int := ext_eq
  rw [ee]
  refine ⟨_, rfl, fun i ρ => ∃ (a3 a4 a5 a6 a7 : Option Sl), ρ = [some (.pu (.obj (a 108) (bfl xs.length ss bd ps md m1 m2 m3))), some (.pu (.tup (ns.map D.int))), some (.ow false (.lst ((brnD L xs ws ns).take i))), a3, a4, a5, a6, a7], ⟨_, _, _, _, _, rfl⟩, ?_, ?_⟩
  · rintro i e ρ hi ⟨a3, a4, a5, a6, a7, rfl⟩
    obtain ⟨rfl, il⟩ := threes_at hi
    have b0 := ext_bd hn (show i < ns.length + 4 by omega)
    have b2 := ext_bd hn (show i + 2 < ns.length + 4 by omega)
    refine ⟨_, rfl, rfl, _, _, rfl, _, _, rfl, _, _, rfl, rfl, ?_⟩
    try simp only [pwipe1, pwipe2, back_hd, back_pu2, back_pu1, List.set_cons_succ, List.set_cons_zero]
    refine ⟨_, rfl, _, rfl, lkNo (by decide +kernel), _, rfl, _, rfl, _, rfl, trivial, trivial, trivial, rfl, List.nodup_nil, ⟨L, xs, bd, ws, _, _, _, _, rfl, hB, b0.1, ext_lt hn (by omega) (by omega), ext_lt hn (by omega) (by omega), b2.2, fun t b ρ' b1 tb bb eq => ?_⟩⟩
    refine ⟨[.int t, .int b], rfl, rfl, _, _, rfl, _, _, rfl, rfl, ?_⟩
    try simp only [pwipe1, pwipe2, back_hd, back_pu2, back_pu1, List.set_cons_succ, List.set_cons_zero]
    refine ⟨⟨_, _, rfl⟩, _, rfl, _, rfl, _, rfl, trivial, trivial, rfl, List.nodup_nil, [_, _], rfl, ⟨t, b, rfl, b1, Nat.lt_of_lt_of_le bb (Nat.pow_le_pow_right (by decide) (by decide))⟩, fun r ρ' hr => ?_⟩
    rw [hr _ _ rfl]
    clear hr
    try simp only [pwipe1, pwipe2, back_hd, back_pu2, back_pu1, List.set_cons_succ, List.set_cons_zero]
    refine ⟨trivial, trivial, [_, _], rfl, (by show 2 ≤ 100000; decide), false, _, rfl, (by rw [List.length_take]; omega), some (.pu (.int ((extOf xs.length ns).getD i 0))), some (.pu (.int ((extOf xs.length ns).getD (i + 1) 0))), some (.pu (.int ((extOf xs.length ns).getD (i + 2) 0))), some (.pu (.int t)), some (.pu (.int b)), ?_⟩
    rw [← brn_next il]
    unfold laidK
    rw [← eq]
    rfl
  · rintro ρ ⟨a3, a4, a5, a6, a7, rfl⟩
    rw [threes_len]
    have e : (brnD L xs ws ns).take (ns.length + 2) = brnD L xs ws ns := by rw [← brn_len (L := L) (xs := xs) (ws := ws) (ns := ns), List.take_length]
    rw [e]
    exact ⟨_, rfl, k _⟩

theorem ok_Bearing_ends_of_boards (T : Txt K mg a fd tk) : FnOk P w K mg base CX0 2 (a 43) (fd 43) ["self", "lot"] (spD K 2 (wEnds (a 108) (a 114))) := by
  refine ok0 T.F_Bearing_ends_of_boards sc_Bearing_ends_of_boards (fun _ _ _ h => h) fun cdv A outer s H E hr => ?_
  refine ⟨_, (pss_cons (ps_set (i := 2) sc_Bearing_ends_of_boards.nd rfl (by first | exact Or.inl rfl | exact Or.inr rfl) (pe_meth (pv 0) T.c_Bearing T.m_Bearing_rests (ok_Bearing_rests T) (hr.mono (by decide)) T.b_Bearing_rests .nil pass0 (pa_cons (pv 1) pa_nil)))
      (pss_one (ps_ret (pe_listZip2 rfl rfl T.n_list rfl T.n_zip (pa_cons (pv 2) (pa_cons (pe_slice (sl_listK (K := K)) (pv 2) (po_some pe_int) po_none) pa_nil)))))), ?_⟩
  try dsimp only [cxOf, List.map, List.length_cons, List.length_nil]
  refine ⟨_, inferInstance, ?_⟩
  rintro ρ Ξ Φ ⟨L, xs, bd, ws, d, ns, rfl, hb, hl, k⟩
  obtain ⟨ss, ps, md, m1, m2, m3, rfl, hp, hm, hps⟩ := id hb
  have rl : ((restsOf xs.length ns).map D.int).length ≤ 100 := by
    rw [List.length_map]
    unfold restsOf
    simp
    omega
  refine ⟨_, rfl, _, rfl, lkNo (by decide +kernel), _, rfl, trivial, rfl, List.nodup_nil, ⟨L, xs, bd, ws, _, ns, rfl, hb, hl, fun ρ' => ?_⟩⟩
  try simp only [pwipe1, pwipe2, back_hd, back_pu2, back_pu1, List.set_cons_succ, List.set_cons_zero]
  refine ⟨_, rfl, _, rfl, 1, rfl, _, rfl, trivial, trivial, [_, _], rfl, _, _, _, _, rfl, rfl, rfl, ?_⟩
  rw [show cutD ((restsOf xs.length ns).map D.int) (some 1) none = ((restsOf xs.length ns).map D.int).drop 1 from cut_from _ 1]
  exact k _

theorem ok_Bearing_bend (T : Txt K mg a fd tk) : FnOk P w K mg base CX0 5 (a 46) (fd 46) ["self", "left", "right", "place"] (spD K 4 (wBBend (a 108) (a 114))) := by
  refine ok0 T.F_Bearing_bend sc_Bearing_bend (fun _ _ _ h => h) fun cdv A outer s H E hr => ?_
  refine ⟨_, (pss_one (ps_ret (pe_meth (pe_fld (pv 0) rfl) T.c_Moments T.m_Moments_bend (ok_Moments_bend T) (hr.mono (by decide)) T.b_Moments_bend .nil pass0 (pa_cons (pe_dget (hu_of hr) (pe_fld (pv 0) rfl) (pv 1) (fun _ _ => rfl)) (pa_cons (pe_dget (hu_of hr) (pe_fld (pv 0) rfl) (pv 2) (fun _ _ => rfl)) (pa_cons (pv 3) pa_nil)))))), ?_⟩
  try dsimp only [cxOf, List.map, List.length_cons, List.length_nil]
  refine ⟨_, inferInstance, ?_⟩
  rintro ρ Ξ Φ ⟨L, xs, bd, ws, d, l, u, q, rfl, ⟨ss, ps, md, m1, m2, m3, rfl, hp, hm, hps⟩, l0, lu, u1, hq, k⟩
  have pl := hps l (by omega) (by omega)
  have pu := hps u (by omega) (by omega)
  have g1 := pE_lt hp (by omega : -2 ≤ l) lu (by omega)
  have c1 := pE_bd hp (by omega : -2 ≤ l) (by omega)
  have c3 := pE_bd hp (by omega : -2 ≤ u) (by omega)
  obtain ⟨B, m, rfl, hm'⟩ := id hm
  exact ⟨_, rfl, _, _, _, rfl, T.c_Bearing, T.f_moments, lkMoments, _, rfl, mlNo (by decide +kernel) (by decide +kernel) (by decide +kernel), _, rfl, _, _, _, rfl, T.c_Bearing, T.f_places, lkPlaces, _, rfl, _, .inl l, _, rfl, rfl, pl, _, rfl, _, _, _, rfl, T.c_Bearing, T.f_places, lkPlaces, _, rfl, _, .inl u, _, rfl, rfl, pu, _, rfl, trivial, trivial, trivial, rfl, List.nodup_nil, ⟨ws, _, pE L xs l, pE L xs u, q, rfl, hm, hq, c1.1, g1, c3.2, fun ρ' => k _⟩⟩

theorem ok_Bearing_board (T : Txt K mg a fd tk) : FnOk P w K mg base CX0 6 (a 47) (fd 47) ["self", "left", "right"] (spD K 3 (wBoard (a 108) (a 114))) := by
  refine ok0 T.F_Bearing_board sc_Bearing_board (fun _ _ _ h => h) fun cdv A outer s H E hr => ?_
  refine ⟨_, (pss_cons (ps_asg (pe_meth (pe_fld (pv 0) rfl) T.c_Moments T.m_Moments_greatest_bend (ok_Moments_greatest_bend T) (hr.mono (by decide)) T.b_Moments_greatest_bend .nil pass0 (pa_cons (pe_dget (hu_of hr) (pe_fld (pv 0) rfl) (pv 1) (fun _ _ => rfl)) (pa_cons (pe_dget (hu_of hr) (pe_fld (pv 0) rfl) (pv 2) (fun _ _ => rfl)) pa_nil))) (pg_tup rfl (pgs_cons (pg_name (i := 3) sc_Bearing_board.nd rfl (by first | exact Or.inl rfl | exact Or.inr rfl)) (pgs_cons (pg_name (i := 4) sc_Bearing_board.nd rfl (by first | exact Or.inl rfl | exact Or.inr rfl)) pgs_nil))))
      (pss_one (ps_ret (pe_tup (pa_cons (pv 1) (pa_cons (pv 2) (pa_cons (pv 3) (pa_cons (pv 4) pa_nil)))))))), ?_⟩
  try dsimp only [cxOf, List.map, List.length_cons, List.length_nil]
  refine ⟨_, inferInstance, ?_⟩
  rintro ρ Ξ Φ ⟨L, xs, bd, ws, d, l, u, rfl, ⟨ss, ps, md, m1, m2, m3, rfl, hp, hm, hps⟩, l0, lu, u1, k⟩
  have pl := hps l (by omega) (by omega)
  have pu := hps u (by omega) (by omega)
  have g1 := pE_lt hp (by omega : -2 ≤ l) lu (by omega)
  have c1 := pE_bd hp (by omega : -2 ≤ l) (by omega)
  have c3 := pE_bd hp (by omega : -2 ≤ u) (by omega)
  obtain ⟨B, m, rfl, hm'⟩ := id hm
  refine ⟨_, rfl, _, _, _, rfl, T.c_Bearing, T.f_moments, lkMoments, _, rfl, mlNo (by decide +kernel) (by decide +kernel) (by decide +kernel), _, rfl, _, _, _, rfl, T.c_Bearing, T.f_places, lkPlaces, _, rfl, _, .inl l, _, rfl, rfl, pl, _, rfl, _, _, _, rfl, T.c_Bearing, T.f_places, lkPlaces, _, rfl, _, .inl u, _, rfl, rfl, pu, trivial, trivial, rfl, List.nodup_nil, ⟨ws, _, pE L xs l, pE L xs u, rfl, hm, c1.1, g1, c3.2, fun ρ' => ?_⟩⟩
  refine ⟨[frD _, trkD _], rfl, rfl, _, _, rfl, _, _, rfl, rfl, ?_⟩
  try simp only [pwipe1, pwipe2, back_hd, back_pu2, back_pu1, List.set_cons_succ, List.set_cons_zero]
  exact ⟨_, rfl, _, rfl, _, rfl, _, rfl, trivial, trivial, trivial, trivial, [_, _, _, _], rfl, (by show 4 ≤ 100000; decide), k _⟩

end
end K06
set_option synthInstance.maxSize 100000
set_option synthInstance.maxHeartbeats 4000000
set_option Elab.async false
set_option linter.all false
set_option maxRecDepth 100000
set_option maxHeartbeats 4000000
set_option autoImplicit false
namespace K06
open PySem L2 Dx Kd
section
variable {c s p bo w m x : D}
theorem putB2 : putFD ("_strengths" : Str) x ([("_count", c)] : List (Str × D)) = ([("_count", c), ("_strengths", x)] : List (Str × D)) := by rw [put_miss (by decide +kernel)]; rfl
theorem putB3 : putFD ("_bend" : Str) x ([("_count", c), ("_strengths", s)] : List (Str × D)) = ([("_count", c), ("_strengths", s), ("_bend", x)] : List (Str × D)) := by rw [put_miss (by decide +kernel), put_miss (by decide +kernel)]; rfl
theorem putB4 : putFD ("_places" : Str) x ([("_count", c), ("_strengths", s), ("_bend", p)] : List (Str × D)) = ([("_count", c), ("_strengths", s), ("_bend", p), ("_places", x)] : List (Str × D)) := by rw [put_miss (by decide +kernel), put_miss (by decide +kernel), put_miss (by decide +kernel)]; rfl
theorem putB5 : putFD ("_moments" : Str) x ([("_count", c), ("_strengths", s), ("_bend", p), ("_places", bo)] : List (Str × D)) = ([("_count", c), ("_strengths", s), ("_bend", p), ("_places", bo), ("_moments", x)] : List (Str × D)) := by rw [put_miss (by decide +kernel), put_miss (by decide +kernel), put_miss (by decide +kernel), put_miss (by decide +kernel)]; rfl
end
abbrev G2 (c s : D) : List (Str × D) := [("_count", c), ("_strengths", s)]
abbrev G3 (c s b : D) : List (Str × D) := [("_count", c), ("_strengths", s), ("_bend", b)]
abbrev G4 (c s b p : D) : List (Str × D) := [("_count", c), ("_strengths", s), ("_bend", b), ("_places", p)]
abbrev G5 (c s b p m : D) : List (Str × D) := [("_count", c), ("_strengths", s), ("_bend", b), ("_places", p), ("_moments", m)]
abbrev stB (C C2 : Addr) (L : Int) (xs : List D) (b : D) (ws : List (Rat × Rat)) (gs : List (Str × D)) (a3 a4 : Option Sl) : Ab :=
  [some (.ow true (.ins C2 gs)), some (.pu (plk C (.int L) xs b)), some (.pu (.lst (ws.map wtK))), a3, a4]
theorem raw_dic {K : PySem.W.Frag} {B : Hp} {fs : List (Str × V)} {c s b m : D} {p : Addr} {kvs : List (Key × V)} {es : List (Key × D)} (h : DrF K B fs (G5 c s b (.raw p) m)) (hp : B p = some (.dK kvs)) (dk : DrK K B kvs es) : DrF K B fs (G5 c s b (.dic es) m) := by
  cases h with | cons h1 h =>
  cases h with | cons h2 h =>
  cases h with | cons h3 h =>
  cases h with | cons h4 h =>
  cases h4
  exact .cons h1 (.cons h2 (.cons h3 (.cons (.dic hp dk) h)))
def wBInit (C C2 CM : Addr) : PmM := fun ρ Φ => ∃ (L : Int) (xs : List D) (b : D) (ws : List (Rat × Rat)), ρ = [some (.ow true (.ins C2 [])), some (.pu (plk C (.int L) xs b)), some (.pu (.lst (ws.map wtK)))] ∧ Pk L xs ∧ BdOk b ∧ ws.length ≤ 16 ∧ (∀ z ∈ ws, WtOk L z) ∧
  ∀ d, BrgOk L xs b ws C2 CM d → Φ d
instance memoM : MemoNames ["_known"] := ⟨fun f hf => by rw [List.mem_singleton.mp hf]; decide +kernel, by simp⟩
instance memoB : MemoNames ["_overlaid", "_spares", "_held"] := ⟨fun f hf => by
  simp only [List.mem_cons, List.not_mem_nil, or_false] at hf
  rcases hf with rfl | rfl | rfl <;> decide +kernel, by decide +kernel⟩
theorem nm5 {c s b p m : D} : ∀ f, memoName f = true → (G5 c s b p m).lookup f = none := fun f h => by
  have : ∀ g : Str, memoName g = false → (f == g) = false := fun g hg => beq_eq_false_iff_ne.mpr fun e => by rw [e, hg] at h; cases h
  exact lookup_miss (this _ (by decide +kernel)) (lookup_miss (this _ (by decide +kernel)) (lookup_miss (this _ (by decide +kernel)) (lookup_miss (this _ (by decide +kernel)) (lookup_miss (this _ (by decide +kernel)) rfl))))
section
variable {P : Program} {w : World} {K : PySem.W.Frag} {mg : Str → Option Value} {a : Nat → Addr} {fd : Nat → FuncData} {tk : Nat → Tok} {base : Heap}
theorem ok_Bearing___init (T : Txt K mg a fd tk) : FnOk P w K mg base CX0 6 (a 40) (fd 40) ["self", "plank", "weights"] (spM K 3 (wBInit (a 107) (a 108) (a 114)) (a 108) ["_overlaid", "_spares", "_held"]) := by
  refine T.F_Bearing___init.ok sc_Bearing___init (fun vs H Q E h => spM_len h) fun cdv A outer s H vs Q E hr h => ?_
  refine ⟨_, (pss_cons (ps_fld (pv 0) (pe_meth0 (pv 1) T.c_Plank T.m_Plank_count (ok_Plank_count T) (hr.mono (by decide)) T.b_Plank_count .nil pass0) rfl)
      (pss_cons (ps_fld (pv 0) (pe_lc (own := [("prop", 3)]) (g := (gName 3)) (by rfl) sc_Bearing___init.nd (pi_list (pe_meth0 (pv 1) T.c_Plank T.m_Plank_props (ok_Plank_props T) (hr.mono (by decide)) T.b_Plank_props .nil pass0)) (blkOk_by (own := [("prop", 3)]) (N := N_Bearing___init) (sc := defScope s_Bearing___init) (by decide +kernel)) (fun _ _ _ _ _ => (pg_name (i := 3) sc_Bearing___init.nd rfl (by first | exact Or.inl rfl | exact Or.inr rfl))) (fun _ _ _ _ _ => pts_nil) (fun _ _ _ _ _ => (pe_ix (ix_ltK (K := K)) (pv 3) pe_int (fun _ _ => rfl)))) rfl)
      (pss_cons (ps_fld (pv 0) (pe_meth0 (pv 1) T.c_Plank T.m_Plank_bend (ok_Plank_bend T) (hr.mono (by decide)) T.b_Plank_bend .nil pass0) rfl)
      (pss_cons (ps_fld (pv 0) (pe_dc (own := [("rest", 4)]) (g := (gName 4)) (by rfl) sc_Bearing___init.nd (pi_range2 rfl T.n_range (pa_cons (pe_glob (v := .int (-1)) rfl T.n_LEFT_REST ⟨_, rfl⟩) (pa_cons (pe_op op_add (pe_fld (pv 0) rfl) pe_int) pa_nil))) (blkOk_by (own := [("rest", 4)]) (N := N_Bearing___init) (sc := defScope s_Bearing___init) (by decide +kernel)) (fun _ _ _ _ _ => (pg_name (i := 4) sc_Bearing___init.nd rfl (by first | exact Or.inl rfl | exact Or.inr rfl))) (fun _ _ _ _ _ => pts_nil) (fun _ _ _ _ _ => (pv 4)) (fun _ _ _ _ _ => (pe_meth (pv 1) T.c_Plank T.m_Plank_place_of (ok_Plank_place_of T) (hr.mono (by decide)) T.b_Plank_place_of .nil passL (pa_cons (pv 4) pa_nil)))) rfl)
      (pss_cons (ps_dput (hu_of hr) (pe_fld (pv 0) rfl) (pe_op op_sub (pe_glob (v := .int (-1)) rfl T.n_LEFT_REST ⟨_, rfl⟩) pe_int) (pe_un un_neg pe_int) rfl)
      (pss_cons (ps_dput (hu_of hr) (pe_fld (pv 0) rfl) (pe_op op_add (pe_fld (pv 0) rfl) pe_int) (pe_op op_add (pe_meth0 (pv 1) T.c_Plank T.m_Plank_length (ok_Plank_length T) (hr.mono (by decide)) T.b_Plank_length .nil pass0) pe_int) rfl)
      (pss_cons (ps_fld (pv 0) (pe_make T.M_Moments (ok_Moments___init T) (hr.mono (by decide)) rfl T.n_Moments T.b_Moments___init .nil pass0 (pa_cons (pv 2) pa_nil)) rfl)
      (pss_cons (ps_fld (pv 0) pe_dnewT rfl)
      (pss_cons (ps_fld (pv 0) pe_dnewT rfl)
      (pss_one (ps_fld (pv 0) pe_dnewT rfl))))))))))), ?_⟩
  try dsimp only [cxOf, List.map, List.length_cons, List.length_nil]
  have hl := spM_len h
  obtain ⟨J, B, ρ, Φ, h1, h2, ⟨L, xs, b, ws, rfl, hp, hbd, hw12, hz, hk⟩, h4⟩ := h
  have e : L2.start N_Bearing___init vs = vs.map some ++ List.replicate 2 none := by unfold L2.start; rw [hl]; rfl
  rw [e]
  have r0 := h2.more 2
  obtain ⟨Γ0, hΓ⟩ : ∃ Γ0, Γ0 = gaOf B H [some (.ow true (.ins (a 108) [])), some (.pu (plk (a 107) (.int L) xs b)), some (.pu (.lst (ws.map wtK)))] vs J := ⟨_, rfl⟩
  rw [← hΓ] at h4 r0
  clear h2
  obtain ⟨L0, L1, hpr, h12⟩ := id hp
  -- count
  refine seq_runS (fun ρ => ρ = stB (a 107) (a 108) L xs b ws [("_count", .int xs.length)] none none) r0 ?_ fun B1 ρ1 σ1 H1 r1 s1 e1 => ?_
  · refine ⟨_, rfl, _, rfl, lookN (by decide +kernel) (by decide +kernel) (by decide +kernel), rfl, List.nodup_nil, self_ap fun r ρ' h => ?_⟩
    subst h
    exact ⟨true, a 108, [], rfl, T.c_Bearing, ⟨T.f_count, by decide +kernel⟩, by decide, rfl⟩
  subst e1
  -- strengths
  refine seq_runS (fun ρ => ∃ ss, ρ = stB (a 107) (a 108) L xs b ws (G2 (.int xs.length) (.lst ss)) none none) r1 ?_ fun B2 ρ2 σ2 H2 r2 s2 e2 => ?_
  · refine ⟨_, rfl, _, rfl, lookN (by decide +kernel) (by decide +kernel) (by decide +kernel), rfl, List.nodup_nil, [_], rfl, ⟨.int L, xs, b, rfl⟩, fun c ρ' h => ?_⟩
    have h := h _ _ _ rfl
    subst h
    refine ⟨xs, rfl, fun i acc ρ => acc.length ≤ i ∧ ρ = stB (a 107) (a 108) L xs b ws [("_count", .int xs.length)] none none, ⟨Nat.le_refl _, rfl⟩, ?_, ?_⟩
    · rintro i d acc ρ hi ⟨hl2, rfl⟩
      obtain ⟨j, y, rfl⟩ := props_get hpr d (List.mem_of_getElem? hi)
      have il := lt_of_some hi
      exact ⟨_, rfl, _, 1, y, rfl, rfl, rfl, by omega, by rw [List.length_append]; show acc.length + 1 ≤ _; omega, rfl⟩
    · rintro acc ρ ⟨hl2, rfl⟩
      refine ⟨true, a 108, _, rfl, T.c_Bearing, ⟨T.f_strengths, by decide +kernel⟩, (by show 1 < 1000; decide), acc, ?_⟩
      show (_ : Ab).set 0 (some (.ow true (.ins (a 108) (putFD ("_strengths" : Str) (.lst acc) [("_count", .int xs.length)])))) = _
      rw [putB2]
      rfl
  obtain ⟨ss, rfl⟩ := e2
  -- bend
  refine seq_runS (fun ρ => ρ = stB (a 107) (a 108) L xs b ws (G3 (.int xs.length) (.lst ss) b) none none) r2 ?_ fun B2b ρ2b σ2b H2b r2b s2b e2b => ?_
  · refine ⟨_, rfl, _, rfl, lookN (by decide +kernel) (by decide +kernel) (by decide +kernel), rfl, List.nodup_nil, self_ap fun r ρ' h => ?_⟩
    subst h
    refine ⟨true, a 108, _, rfl, T.c_Bearing, ⟨T.fB_bend, by decide +kernel⟩, (by show 2 < 1000; decide), ?_⟩
    show (_ : Ab).set 0 (some (.ow true (.ins (a 108) (putFD ("_bend" : Str) _ (G2 (.int xs.length) (.lst ss)))))) = _
    rw [putB3]
    rfl
  subst e2b
  -- places
  refine set_raw_seq (gs := G3 (.int xs.length) (.lst ss) b) (b := true) (fun es ρ => KOk es (Rp L xs) (fun r => -1 ≤ r ∧ r ≤ xs.length) ∧ es.length ≤ 20 ∧ ρ = stB (a 107) (a 108) L xs b ws (G3 (.int xs.length) (.lst ss) b) none none) r2b T.c_Bearing ⟨T.f_places, by decide +kernel⟩ (by show 3 < 1000; decide) ?_ fun p kvs es B3 ρ3 H3 hφ dk s3 hgp hhp r3 => ?_
  · refine ⟨_, rfl, _, _, _, rfl, T.c_Bearing, T.f_count, (lookup_hit (by decide +kernel)), xs.length, 1, rfl, rfl, trivial, trivial, -1, (xs.length : Int) + 1, rfl, (by omega), fun i acc ρ => KOk acc (Rp L xs) (fun r => -1 ≤ r ∧ r < (i : Int) - 1) ∧ acc.length ≤ i ∧ ρ = stB (a 107) (a 108) L xs b ws (G3 (.int xs.length) (.lst ss) b) none none, ⟨.nil fun r hr => by omega, Nat.le_refl _, rfl⟩, ?_, ?_⟩
    · rintro i d acc ρ hi ⟨hk1, hl2, rfl⟩
      obtain ⟨rfl, il⟩ := rngm_at hi
      have il : i < ((xs.length : Int) + 1 - -1).toNat := il
      refine ⟨_, rfl, _, rfl, _, rfl, lookN (by decide +kernel) (by decide +kernel) (by decide +kernel), _, rfl, trivial, rfl, List.nodup_nil, ⟨.int L, xs, b, .int ((i : Int) - 1), rfl, .int _, fun x hx => ?_, fun hf => ?_, fun _ ρ' => ?_⟩⟩
      · obtain ⟨j, y, rfl⟩ := props_get hpr x hx
        exact ⟨_, _, rfl⟩
      · exfalso
        have : (true && (decide (-1 ≤ (i : Int) - 1) && decide ((i : Int) - 1 ≤ xs.length))) = false := hf
        rw [decide_eq_true (by omega), decide_eq_true (by omega)] at this
        cases this
      · refine ⟨.inl ((i : Int) - 1), rfl, by omega, ?_, Nat.le_trans len_put (by omega), rfl⟩
        refine hk1.put ?_ fun x => by constructor <;> intro h <;> omega
        show plcOf (.int L) xs ((i : Int) - 1) = .int (pE L xs ((i : Int) - 1))
        rw [plcI_eq hpr (by omega) (by omega), pE_in (by omega) (by omega)]
    · rintro acc ρ ⟨hk1, hl2, rfl⟩
      have ln : (rngD (-1) ((xs.length : Int) + 1 - -1).toNat).length = xs.length + 2 := by unfold rngD; rw [List.length_map, List.length_range]; omega
      rw [ln] at hk1 hl2
      exact ⟨acc, rfl, rfl, hk1.congr fun x => by constructor <;> intro h <;> omega, by omega, rfl⟩
  obtain ⟨ko, le, rfl⟩ := hφ
  have r3 : Rl K (Γ0.hide p (.dK kvs)) B3 (stB (a 107) (a 108) L xs b ws (G4 (.int xs.length) (.lst ss) b (.raw p)) none none) σ2b H3 := by
    have z := r3
    rw [putB4] at z
    exact z
  -- the places beyond the walls
  refine put_raw_seq (fun k d ρ => k = .inl (-2) ∧ d = .int (-1) ∧ ρ = stB (a 107) (a 108) L xs b ws (G4 (.int xs.length) (.lst ss) b (.raw p)) none none) r3 dk hgp (by omega) ?_ fun k d kvs4 B4 ρ4 H4 hφ dk4 s4 r4 => ?_
  · exact ⟨1, rfl, _, rfl, _, _, _, rfl, T.c_Bearing, T.f_places, (lookup_miss (by decide +kernel) (lookup_miss (by decide +kernel) (lookup_miss (by decide +kernel) (lookup_hit (by decide +kernel))))), rfl, -1, 1, rfl, rfl, _, rfl, rfl, rfl, rfl⟩
  obtain ⟨rfl, rfl, rfl⟩ := hφ
  have ko4 : KOk (putKD es (.inl (-2)) (.int (-1))) (Rp L xs) (fun r => -2 ≤ r ∧ r ≤ xs.length) := ko.put rfl fun x => by constructor <;> intro h <;> omega
  have le4 : (putKD es (.inl (-2)) (.int (-1))).length ≤ 21 := Nat.le_trans len_put (by omega)
  generalize putKD es (.inl (-2)) (.int (-1)) = es4 at dk4 ko4 le4 ⊢
  refine put_raw_seq (fun k d ρ => k = .inl ((xs.length : Int) + 1) ∧ d = .int (L + 1) ∧ ρ = stB (a 107) (a 108) L xs b ws (G4 (.int xs.length) (.lst ss) b (.raw p)) none none) r4 dk4 hgp (by omega) ?_ fun k d kvs5 B5 ρ5 H5 hφ dk5 s5 r5 => ?_
  · refine ⟨_, rfl, _, rfl, lookN (by decide +kernel) (by decide +kernel) (by decide +kernel), rfl, List.nodup_nil, self_ap fun r ρ' h => ?_⟩
    subst h
    exact ⟨L, 1, rfl, rfl, _, rfl, _, _, _, rfl, T.c_Bearing, T.f_places, (lookup_miss (by decide +kernel) (lookup_miss (by decide +kernel) (lookup_miss (by decide +kernel) (lookup_hit (by decide +kernel))))), rfl, _, rfl, _, _, _, rfl, T.c_Bearing, T.f_count, (lookup_hit (by decide +kernel)), xs.length, 1, rfl, rfl, _, rfl, rfl, rfl, rfl⟩
  obtain ⟨rfl, rfl, rfl⟩ := hφ
  have ko5 : KOk (putKD es4 (.inl ((xs.length : Int) + 1)) (.int (L + 1))) (Rp L xs) (fun r => -2 ≤ r ∧ r ≤ xs.length + 1) := ko4.put (by unfold Rp pE; rw [if_neg (by omega), if_pos rfl]) fun x => by constructor <;> intro h <;> omega
  have le5 : (putKD es4 (.inl ((xs.length : Int) + 1)) (.int (L + 1))).length ≤ 22 := Nat.le_trans len_put (by omega)
  generalize putKD es4 (.inl ((xs.length : Int) + 1)) (.int (L + 1)) = es5 at dk5 ko5 le5 ⊢
  -- moments
  refine seq_runS (fun ρ => ∃ md, MomOk ws (a 114) md ∧ ρ = stB (a 107) (a 108) L xs b ws (G5 (.int xs.length) (.lst ss) b (.raw p) md) none none) r5 ?_ fun B6 ρ6 σ6 H6 r6 s6 e6 => ?_
  · refine ⟨_, rfl, trivial, [.lst (ws.map wtK)], rfl, rfl, ⟨L, ws, rfl, hw12, hz, fun d hd => ?_⟩⟩
    refine ⟨true, a 108, _, rfl, T.c_Bearing, ⟨T.f_moments, by decide +kernel⟩, (by show 4 < 1000; decide), d, hd, ?_⟩
    show (_ : Ab).set 0 (some (.ow true (.ins (a 108) (putFD ("_moments" : Str) d (G4 (.int xs.length) (.lst ss) b (.raw p)))))) = _
    rw [putB5]
    rfl
  obtain ⟨md, hm, rfl⟩ := e6
  have dkF := dk5.mono s6
  obtain ⟨r11, s11⟩ := r6.beside (fun _ _ _ _ z => nomatch z) hhp hgp
  obtain ⟨ao, o, g1, g2, g3, _⟩ := r11.ow 0 true _ rfl
  obtain ⟨dx, fs, rfl, g4, nm0⟩ := g3.ins_inv
  have g5 := raw_dic g4 upd_same (dkF.mono s11)
  have r12 := r11.write (i := 0) (p := true) (c' := .ins (a 108) (G5 (.int xs.length) (.lst ss) b (.dic es5) md)) rfl g1 (OCr.ins (dx := dx) g5 nm5)
  rw [upd_self g2] at r12
  obtain ⟨ao', o', k1, k2, k3, k4, k5, k6, k7⟩ := r12.ow 0 true _ rfl
  rw [g1] at k1
  cases k1
  have k6 := k6 rfl
  rw [hΓ] at k6
  have ln : fs.length = 5 := g5.length
  refine memo_one (K := K) (ps := []) (Born.nil g2) g1 T.c_Bearing T.f_overlaid (g5.lookN (nm5 _ (by decide +kernel))) (by simp) (by rw [ln]; show 5 + 0 < 1000; decide) fun p1 H9 b1 => ?_
  refine memo_one (K := K) b1 g1 T.c_Bearing T.f_spares (g5.lookN (nm5 _ (by decide +kernel))) (by show ("_spares" : Str) ∉ (["_overlaid"] : List Str); decide +kernel) (by rw [ln]; show 5 + 1 < 1000; decide) fun p2 H10 b2 => ?_
  refine memo_last (K := K) b2 g1 T.c_Bearing T.f_held (g5.lookN (nm5 _ (by decide +kernel))) (by show ("_held" : Str) ∉ (["_overlaid", "_spares"] : List Str); decide +kernel) (by rw [ln]; show 5 + 2 < 1000; decide) fun p3 H11 b3 => ?_
  show Q .non H11
  refine h4 ao dx fs _ _ _ H6 _ H11 (own_head k6) r12.fin rfl g2 g5 nm5 rfl b3 (fun q hq => ?_) (hk _ ⟨ss, es5, md, p1, p2, p3, rfl, hp, hm, fun i i0 i1 => ?_⟩)
  · have hq : q ∈ ([(("_overlaid" : Str), p1), (("_spares" : Str), p2), (("_held" : Str), p3)] : List (Str × Addr)) := hq
    simp only [List.mem_cons, List.not_mem_nil, or_false] at hq
    rcases hq with rfl | rfl | rfl
    · exact ⟨fun z => absurd (show ("_overlaid" : Str) = "_known" from z) (by decide +kernel), fun z => absurd (show ("_overlaid" : Str) = "_held" from z) (by decide +kernel)⟩
    · exact ⟨fun z => absurd (show ("_spares" : Str) = "_known" from z) (by decide +kernel), fun z => absurd (show ("_spares" : Str) = "_held" from z) (by decide +kernel)⟩
    · exact wf_held hbd hm
  · obtain ⟨d, e1, e2⟩ := ko5.2 i ⟨i0, i1⟩
    have e2 : d = .int (pE L xs i) := e2
    rw [e1, e2]
end
end K06
set_option synthInstance.maxSize 100000
set_option synthInstance.maxHeartbeats 4000000
set_option Elab.async false
set_option linter.all false
set_option maxRecDepth 100000
set_option maxHeartbeats 4000000
set_option autoImplicit false
namespace K06
open PySem L2 Dx Kd
def LotIs (n : Nat) (d : D) (ns : List Int) : Prop := (d = .non ∧ ns = rngI n) ∨ (d = .tup (ns.map D.int) ∧ LotOk n ns)
theorem LotIs.ok {n : Nat} {d : D} {ns : List Int} (h : LotIs n d ns) : LotOk n ns := by
  rcases h with ⟨_, rfl⟩ | ⟨_, h⟩
  · exact lot_all
  · exact h
def wAsk (C C2 CM : Addr) : Pm := fun ρ Ξ Φ => ∃ (L : Int) (xs : List D) (b : D) (ws : List (Rat × Rat)) (l : D) (ns : List Int), ρ = pus [plk C (.int L) xs b, .lst (ws.map wtK), l] ∧ Pk L xs ∧ BdOk b ∧ ws.length ≤ 16 ∧ (∀ z ∈ ws, WtOk L z) ∧ LotIs xs.length l ns ∧
  ∀ d ρ', BrgOk L xs b ws C2 CM d → Φ (.tup [d, .tup (ns.map D.int)]) ρ'
def wBor (C : Addr) : PmF := fun ρ Φ => ∃ (L : Int) (xs : List D) (b : D) (ws : List (Rat × Rat)) (l : D) (ns : List Int), ρ = pus [plk C (.int L) xs b, .lst (ws.map wtK), l] ∧ Pk L xs ∧ BdOk b ∧ ws.length ≤ 16 ∧ (∀ z ∈ ws, WtOk L z) ∧ LotIs xs.length l ns ∧
  ∀ ρ', Φ (.lst (brnD L xs ws ns)) ρ'
theorem BrgOk.obj {L : Int} {xs : List D} {b : D} {ws : List (Rat × Rat)} {C CM : Addr} {d : D} (h : BrgOk L xs b ws C CM d) : ∃ gs, d = .obj C gs := by
  obtain ⟨ss, ps, md, m1, m2, m3, rfl, _⟩ := h
  exact ⟨_, rfl⟩
theorem BrgOk.no {L : Int} {xs : List D} {b : D} {ws : List (Rat × Rat)} {C CM : Addr} {gs : List (Str × D)} (h : BrgOk L xs b ws C CM (.obj C gs)) : gs.lookup ("borne" : Str) = none := by
  obtain ⟨ss, ps, md, m1, m2, m3, e, _⟩ := h
  injection e with _ e
  rw [e]
  exact lkNo (by decide +kernel)
section
variable {P : Program} {w : World} {K : PySem.W.Frag} {mg : Str → Option Value} {a : Nat → Addr} {fd : Nat → FuncData} {tk : Nat → Tok} {base : Heap}
theorem ok_asked (T : Txt K mg a fd tk) : FnOk P w K mg base CX0 8 (a 55) (fd 55) ["plank", "weights", "lot"] (spD K 3 (wAsk (a 107) (a 108) (a 114))) := by
  refine ok0 T.F_asked sc_asked (fun _ _ _ h => h) fun cdv A outer s H E hr => ?_
  refine ⟨_, (pss_cons (ps_expr (pe_call (ok_check_weights T) (hr.mono (by decide)) rfl T.n_check_weights T.F_check_weights.kp T.b_check_weights .nil passL (pa_cons (pv 0) (pa_cons (PE.fg (pv 1)) pa_nil))))
      (pss_one (ps_ret (pe_tup (pa_cons (pe_make T.M_Bearing (ok_Bearing___init T) (hr.mono (by decide)) rfl T.n_Bearing T.b_Bearing___init .nil pass0 (pa_cons (pv 0) (pa_cons (pv 1) pa_nil))) (pa_cons (pe_call (ok_lot_of T) (hr.mono (by decide)) rfl T.n_lot_of T.F_lot_of.kp T.b_lot_of .nil passL (pa_cons (pv 0) (pa_cons (pv 2) pa_nil))) pa_nil)))))), ?_⟩
  try dsimp only [cxOf, List.map, List.length_cons, List.length_nil]
  refine ⟨_, inferInstance, ?_⟩
  rintro ρ Ξ Φ ⟨L, xs, b, ws, l, ns, rfl, hp, hbd, hw, hz, hl, k⟩
  refine ⟨_, rfl, _, rfl, trivial, trivial, rfl, List.nodup_nil, ⟨L, xs, b, ws, by rw [fg_wts]; rfl, hp, hz, fun ρ' => ?_⟩⟩
  refine ⟨_, rfl, _, rfl, trivial, trivial, [plk (a 107) (.int L) xs b, .lst (ws.map wtK)], rfl, rfl, ⟨L, xs, b, ws, rfl, hp, hbd, hw, hz, fun d hB => ?_⟩⟩
  obtain ⟨gs, rfl⟩ := hB.obj
  have fin : ∀ ρ', Φ (.tup [.obj (a 108) gs, .tup (ns.map D.int)]) ρ' := fun ρ' => k _ ρ' hB
  have h12 := hp.2.2.2
  rcases hl with ⟨rfl, rfl⟩ | ⟨rfl, hn⟩
  · refine ⟨_, rfl, _, rfl, trivial, trivial, rfl, List.nodup_nil, ⟨.int L, xs, b, .non, rfl, h12, .inl ⟨rfl, fun ρ3 => ?_⟩⟩⟩
    rw [rng_mapI]
    exact ⟨trivial, trivial, [_, _], rfl, (by show 2 ≤ 100000; decide), fin _⟩
  · refine ⟨_, rfl, _, rfl, trivial, trivial, rfl, List.nodup_nil, ⟨.int L, xs, b, _, rfl, h12, .inr ⟨ns, rfl, hn, fun ρ3 => ?_⟩⟩⟩
    exact ⟨trivial, trivial, [_, _], rfl, (by show 2 ≤ 100000; decide), fin _⟩

theorem ok_borne (T : Txt K mg a fd tk) : FnOk P w K mg base CX0 9 (a 56) (fd 56) ["plank", "weights", "lot"] (spF K 3 (wBor (a 107))) := by
  refine okFS T.F_borne sc_borne fun cdv A outer s H E hr => ?_
  refine ⟨_, _, (pss_cons (ps_asg (pe_call (ok_asked T) (hr.mono (by decide)) rfl T.n_asked T.F_asked.kp T.b_asked .nil pass0 (pa_cons (pv 0) (pa_cons (pv 1) (pa_cons (pv 2) pa_nil)))) (pg_tup rfl (pgs_cons (pg_name (i := 3) sc_borne.nd rfl (by first | exact Or.inl rfl | exact Or.inr rfl)) (pgs_cons (pg_name (i := 2) sc_borne.nd rfl (by first | exact Or.inl rfl | exact Or.inr rfl)) pgs_nil))))
      (pss_one (ps_ret (pe_meth (pv 3) T.c_Bearing T.m_Bearing_borne (ok_Bearing_borne T) (hr.mono (by decide)) T.b_Bearing_borne .nil pass0 (pa_cons (pv 2) pa_nil))))), ?_⟩
  try dsimp only [cxOf, List.map, List.length_cons, List.length_nil]
  refine ⟨_, _, inferInstance, inferInstance, ?_⟩
  rintro ρ Φ ⟨L, xs, b, ws, l, ns, rfl, hp, hbd, hw, hz, hl, k⟩
  refine ⟨_, rfl, _, rfl, _, rfl, trivial, trivial, trivial, rfl, List.nodup_nil, ⟨L, xs, b, ws, l, ns, rfl, hp, hbd, hw, hz, hl, fun d ρ' hd => ?_⟩⟩
  obtain ⟨gs, rfl⟩ := hd.obj
  refine ⟨[.obj (a 108) gs, .tup (ns.map D.int)], rfl, rfl, _, _, rfl, _, _, rfl, rfl, ?_⟩
  exact ⟨_, rfl, _, rfl, hd.no, _, rfl, trivial, rfl, List.nodup_nil, ⟨L, xs, b, ws, _, ns, rfl, hd, hl.ok, fun _ => k _⟩⟩

end
end K06
set_option synthInstance.maxSize 100000
set_option synthInstance.maxHeartbeats 4000000
set_option Elab.async false
set_option linter.all false
set_option maxRecDepth 100000
set_option maxHeartbeats 4000000
set_option autoImplicit false
namespace K06
open PySem L2 Dx Kd
def rgO (n : Nat) (ns : List Int) (k : Nat) : Int := (restsOf n ns).getD k 0
/-- all boards of a lot -/
def brdsD (L : Int) (xs : List D) (ws : List (Rat × Rat)) (ns : List Int) : List D := (List.range (ns.length + 1)).map fun k => boardD L xs ws (rgO xs.length ns k) (rgO xs.length ns (k + 1))
def wBoards (C : Addr) : PmF := fun ρ Φ => ∃ (L : Int) (xs : List D) (b : D) (ws : List (Rat × Rat)) (l : D) (ns : List Int), ρ = pus [plk C (.int L) xs b, .lst (ws.map wtK), l] ∧ Pk L xs ∧ BdOk b ∧ ws.length ≤ 16 ∧ (∀ z ∈ ws, WtOk L z) ∧ LotIs xs.length l ns ∧
  ∀ ρ', Φ (.lst (brdsD L xs ws ns)) ρ'
theorem rests_len {n : Nat} {ns : List Int} : (restsOf n ns).length = ns.length + 2 := by
  unfold restsOf
  simp
theorem brd_len {n : Nat} {ns : List Int} : (brdD n ns).length = ns.length + 1 := by
  unfold brdD
  rw [zip2D_len, List.length_drop, List.length_map, rests_len]
  omega
theorem rg_at {n : Nat} {ns : List Int} {k : Nat} (h : k < ns.length + 2) : ((restsOf n ns).map D.int)[k]? = some (.int (rgO n ns k)) := by
  rw [← rests_len (n := n)] at h
  unfold rgO
  rw [List.getElem?_map, List.getElem?_eq_getElem h, getD_at h]
  rfl
theorem brd_at {n : Nat} {ns : List Int} {k : Nat} {d : D} (h : (brdD n ns)[k]? = some d) : d = .trk [.int (rgO n ns k), .int (rgO n ns (k + 1))] ∧ k < ns.length + 1 := by
  have hk := (List.getElem?_eq_some_iff.mp h).1
  rw [brd_len] at hk
  unfold brdD at h
  rw [zip2D_get (rg_at (by omega)) (by rw [List.getElem?_drop, Nat.add_comm]; exact rg_at (by omega))] at h
  exact ⟨(Option.some.inj h).symm, hk⟩
theorem rg_lt {n : Nat} {ns : List Int} (h : LotOk n ns) {k : Nat} (hk : k < ns.length + 1) : -1 ≤ rgO n ns k ∧ rgO n ns k < rgO n ns (k + 1) ∧ rgO n ns (k + 1) ≤ n := by
  obtain ⟨h1, h2⟩ := rests_rise h
  have l0 : k < (restsOf n ns).length := by rw [rests_len]; omega
  have l1 : k + 1 < (restsOf n ns).length := by rw [rests_len]; omega
  unfold rgO
  rw [getD_at l0, getD_at l1]
  exact ⟨(h2 _ (List.getElem_mem l0)).1, List.pairwise_iff_getElem.mp h1 _ _ _ _ (Nat.lt_succ_self k), (h2 _ (List.getElem_mem l1)).2⟩
theorem brds_next {L : Int} {xs : List D} {ws : List (Rat × Rat)} {ns : List Int} {k : Nat} (h : k < ns.length + 1) : (brdsD L xs ws ns).take k ++ [boardD L xs ws (rgO xs.length ns k) (rgO xs.length ns (k + 1))] = (brdsD L xs ws ns).take (k + 1) := by
  have e : (brdsD L xs ws ns)[k]? = some (boardD L xs ws (rgO xs.length ns k) (rgO xs.length ns (k + 1))) := by
    unfold brdsD
    rw [List.getElem?_map, List.getElem?_range h]
    rfl
  rw [List.take_add_one, e]
  rfl
theorem brds_len {L : Int} {xs : List D} {ws : List (Rat × Rat)} {ns : List Int} : (brdsD L xs ws ns).length = ns.length + 1 := by
  unfold brdsD
  rw [List.length_map, List.length_range]
theorem BrgOk.ne {L : Int} {xs : List D} {b : D} {ws : List (Rat × Rat)} {C CM : Addr} {gs : List (Str × D)} (h : BrgOk L xs b ws C CM (.obj C gs)) {f : Str} (hf : bNo f = true) : gs.lookup f = none := by
  obtain ⟨ss, ps, md, m1, m2, m3, e, _⟩ := h
  injection e with _ e
  subst e
  exact lkNo hf
def wCkPl (C : Addr) : Pm := fun ρ Ξ Φ => ∃ (L : Int) (xs : List D) (b : D) (x : Rat), ρ = pus [plk C (.int L) xs b, frD x] ∧ Pk L xs ∧ 0 ≤ x ∧ x ≤ (L : Rat) ∧ Bt 30 20 x ∧ ∀ ρ', Φ .non ρ'
section
variable {P : Program} {w : World} {K : PySem.W.Frag} {mg : Str → Option Value} {a : Nat → Addr} {fd : Nat → FuncData} {tk : Nat → Tok} {base : Heap}
theorem ok_check_place (T : Txt K mg a fd tk) : FnOk P w K mg base (L2.CX P w) 5 (a 17) (fd 17) ["plank", "place"] (spD K 2 (wCkPl (a 107))) := by
  refine okX T.F_check_place sc_check_place fun cdv A outer s H E hr => ?_
  refine ⟨_, (pss_one (ps_if (pt_not (pt_val (pe_call (ok_is_place T) (hr.mono (by decide)) rfl T.n_is_place T.F_is_place.kp T.b_is_place .nil pass0 (pa_cons (pv 0) (pa_cons (pv 1) pa_nil))))) (pss_one (ps_raise1 rfl (takes_of rfl rfl rfl rfl) T.x_NoPlace (ok_NoPlace___init T) (hr.mono (by decide)) T.b_NoPlace___init pass0 rfl T.n_NoPlace (pv 1))) pss_nil)), ?_⟩
  try dsimp only [cxOf, List.map, List.length_cons, List.length_nil]
  refine ⟨_, inferInstance, ?_⟩
  rintro ρ Ξ Φ ⟨L, xs, b, x, rfl, hp, x0, x1, hx, k⟩
  refine ⟨_, rfl, _, rfl, trivial, trivial, rfl, List.nodup_nil, [_, _], rfl, ⟨L, xs, b, x, rfl, hp, x0, x1, hx⟩, fun r ρ' h => ?_⟩
  subst h
  exact ⟨_, rfl, k _⟩

theorem ok_boards (T : Txt K mg a fd tk) : FnOk P w K mg base CX0 9 (a 58) (fd 58) ["plank", "weights", "lot"] (spF K 3 (wBoards (a 107))) := by
  refine okFS T.F_boards sc_boards fun cdv A outer s H E hr => ?_
  refine ⟨_, _, (pss_cons (ps_asg (pe_call (ok_asked T) (hr.mono (by decide)) rfl T.n_asked T.F_asked.kp T.b_asked .nil pass0 (pa_cons (pv 0) (pa_cons (pv 1) (pa_cons (pv 2) pa_nil)))) (pg_tup rfl (pgs_cons (pg_name (i := 3) sc_boards.nd rfl (by first | exact Or.inl rfl | exact Or.inr rfl)) (pgs_cons (pg_name (i := 2) sc_boards.nd rfl (by first | exact Or.inl rfl | exact Or.inr rfl)) pgs_nil))))
      (pss_one (ps_ret (pe_lc (own := [("left", 4), ("right", 5)]) (g := (gTup K 2 (gCons (gName 4) (gCons (gName 5) gNil)))) (by rfl) sc_boards.nd (pi_list (pe_meth (pv 3) T.c_Bearing T.m_Bearing_ends_of_boards (ok_Bearing_ends_of_boards T) (hr.mono (by decide)) T.b_Bearing_ends_of_boards .nil pass0 (pa_cons (pv 2) pa_nil))) (blkOk_by (own := [("left", 4), ("right", 5)]) (N := N_boards) (sc := defScope s_boards) (by decide +kernel)) (fun _ _ _ _ _ => (pg_tup rfl (pgs_cons (pg_name (i := 4) sc_boards.nd rfl (by first | exact Or.inl rfl | exact Or.inr rfl)) (pgs_cons (pg_name (i := 5) sc_boards.nd rfl (by first | exact Or.inl rfl | exact Or.inr rfl)) pgs_nil)))) (fun _ _ _ _ _ => pts_nil) (fun _ _ _ _ _ => (pe_meth (pv 3) T.c_Bearing T.m_Bearing_board (ok_Bearing_board T) (hr.mono (by decide)) T.b_Bearing_board .nil pass0 (pa_cons (pv 4) (pa_cons (pv 5) pa_nil)))))))), ?_⟩
  try dsimp only [cxOf, List.map, List.length_cons, List.length_nil]
  refine ⟨_, _, inferInstance, inferInstance, ?_⟩
  rintro ρ Φ ⟨L, xs, b, ws, l, ns, rfl, hp, hbd, hw, hz, hl, k⟩
  have hn := hl.ok
  have hln := lot_len hn
  have h12 := hp.2.2.2
  refine ⟨_, rfl, _, rfl, _, rfl, trivial, trivial, trivial, rfl, List.nodup_nil, ⟨L, xs, b, ws, l, ns, rfl, hp, hbd, hw, hz, hl, fun d ρ' hd => ?_⟩⟩
  obtain ⟨gs, rfl⟩ := hd.obj
  refine ⟨[.obj (a 108) gs, .tup (ns.map D.int)], rfl, rfl, _, _, rfl, _, _, rfl, rfl, ?_⟩
  try simp only [pwipe1, pwipe2, back_hd, back_pu2, back_pu1, List.set_cons_succ, List.set_cons_zero]
  refine ⟨_, rfl, _, rfl, hd.ne (by decide +kernel), _, rfl, trivial, rfl, List.nodup_nil, ⟨L, xs, b, ws, _, ns, rfl, hd, by omega, fun ρ' => ?_⟩⟩
  try simp only [pwipe1, pwipe2, back_hd, back_pu2, back_pu1, List.set_cons_succ, List.set_cons_zero]
  refine ⟨_, rfl, fun j acc ρ => acc = (brdsD L xs ws ns).take j ∧ ρ = [some (.pu (plk (a 107) (.int L) xs b)), some (.pu (.lst (ws.map wtK))), some (.pu (.tup (ns.map D.int))), some (.pu (.obj (a 108) gs)), none, none], ⟨rfl, rfl⟩, ?_, ?_⟩
  · rintro j e acc ρ hj ⟨ea, rfl⟩
    obtain ⟨rfl, hjl⟩ := brd_at hj
    obtain ⟨g1, g2, g3⟩ := rg_lt hn hjl
    refine ⟨[.int (rgO xs.length ns j), .int (rgO xs.length ns (j + 1))], rfl, rfl, _, _, rfl, _, _, rfl, rfl, ?_⟩
    try simp only [pwipe1, pwipe2, back_hd, back_pu2, back_pu1, List.set_cons_succ, List.set_cons_zero]
    refine ⟨_, rfl, _, rfl, hd.ne (by decide +kernel), _, rfl, _, rfl, trivial, trivial, rfl, List.nodup_nil, ⟨L, xs, b, ws, _, _, _, rfl, hd, g1, g2, g3, fun ρ' => ?_⟩⟩
    refine ⟨?_, ?_, rfl⟩
    · rw [ea, List.length_take, brds_len]
      omega
    · rw [ea]
      exact brds_next hjl
  · rintro acc ρ ⟨ea, rfl⟩
    rw [brd_len, ← brds_len (L := L) (xs := xs) (ws := ws), List.take_length] at ea
    subst ea
    exact k _

end
end K06
set_option synthInstance.maxSize 100000
set_option synthInstance.maxHeartbeats 4000000
set_option Elab.async false
set_option linter.all false
set_option maxRecDepth 100000
set_option maxHeartbeats 4000000
set_option autoImplicit false
namespace K06
open PySem L2 Dx Kd
theorem filt_head : ∀ (n : Nat) (p : Nat → Bool), (∃ k, k < n ∧ p k = true) → ∃ k r, (List.range n).filter p = k :: r ∧ k < n ∧ p k = true ∧ ∀ j, j < k → p j = false
  | 0, p, h => by
    obtain ⟨k, hk, _⟩ := h
    omega
  | n + 1, p, h => by
    rw [List.range_succ, List.filter_append]
    by_cases c : ∃ k, k < n ∧ p k = true
    · obtain ⟨k, r, e, hk, hp, hj⟩ := filt_head n p c
      exact ⟨k, r ++ [n].filter p, by rw [e]; rfl, by omega, hp, hj⟩
    · have e : (List.range n).filter p = [] := List.filter_eq_nil_iff.mpr fun k hk hp => c ⟨k, List.mem_range.mp hk, hp⟩
      obtain ⟨k, hk, hp⟩ := h
      have kn : k = n := by
        rcases Nat.lt_or_ge k n with q | q
        · exact absurd ⟨k, q, hp⟩ c
        · omega
      subst kn
      refine ⟨k, [], ?_, by omega, hp, fun j hj => ?_⟩
      · rw [e, List.filter_cons, hp]
        rfl
      · cases q : p j with
        | false => rfl
        | true => exact absurd ⟨j, hj, q⟩ c
def endD (n : Nat) (ns : List Int) (k : Nat) : D := .trk [.int (rgO n ns k), .int (rgO n ns (k + 1))]
def notB (L : Int) (xs : List D) (ns : List Int) (q : Rat) (k : Nat) : Bool := !decide (((pE L xs (rgO xs.length ns (k + 1)) : Int) : Rat) < q)
def wBendAt (C : Addr) : Pm := fun ρ Ξ Φ => ∃ (L : Int) (xs : List D) (b : D) (ws : List (Rat × Rat)) (q : Rat) (l : D) (ns : List Int), ρ = pus [plk C (.int L) xs b, .lst (ws.map wtK), trkD q, l] ∧ Pk L xs ∧ BdOk b ∧ ws.length ≤ 16 ∧ (∀ z ∈ ws, WtOk L z) ∧ LotIs xs.length l ns ∧ 0 ≤ q ∧ q ≤ (L : Rat) ∧ (PlOk q ∨ ∃ z ∈ ws, q = z.1) ∧
  ∀ (k : Nat) ρ', k < ns.length + 1 → notB L xs ns q k = true → (∀ j, j < k → notB L xs ns q j = false) → Φ (frD (bendQ ws (pE L xs (rgO xs.length ns k)) (pE L xs (rgO xs.length ns (k + 1))) q)) ρ'
theorem filt_next {n : Nat} {p : Nat → Bool} {f : Nat → D} : ((List.range (n + 1)).filter p).map f = ((List.range n).filter p).map f ++ (if p n = true then [f n] else []) := by
  rw [List.range_succ, List.filter_append, List.map_append, List.filter_cons]
  cases p n <;> rfl
theorem rg_last {n : Nat} {ns : List Int} : rgO n ns (ns.length + 1) = n := by
  unfold rgO restsOf
  simp [List.getD_eq_getElem?_getD]
section
variable {P : Program} {w : World} {K : PySem.W.Frag} {mg : Str → Option Value} {a : Nat → Addr} {fd : Nat → FuncData} {tk : Nat → Tok} {base : Heap}
theorem ok_bend_at (T : Txt K mg a fd tk) : FnOk P w K mg base CX0 9 (a 57) (fd 57) ["plank", "weights", "place", "lot"] (spD K 4 (wBendAt (a 107))) := by
  refine ok0 T.F_bend_at sc_bend_at (fun _ _ _ h => h) fun cdv A outer s H E hr => ?_
  refine ⟨_, (pss_cons (ps_asg (pe_call (ok_asked T) (hr.mono (by decide)) rfl T.n_asked T.F_asked.kp T.b_asked .nil pass0 (pa_cons (pv 0) (pa_cons (pv 1) (pa_cons (pv 3) pa_nil)))) (pg_tup rfl (pgs_cons (pg_name (i := 4) sc_bend_at.nd rfl (by first | exact Or.inl rfl | exact Or.inr rfl)) (pgs_cons (pg_name (i := 3) sc_bend_at.nd rfl (by first | exact Or.inl rfl | exact Or.inr rfl)) pgs_nil))))
      (pss_cons (ps_expr (pe_call (ok_check_place T) (hr.mono (by decide)) rfl T.n_check_place T.F_check_place.kp T.b_check_place .nil passL (pa_cons (pv 0) (pa_cons (PE.fg (pv 2)) pa_nil))))
      (pss_cons (ps_setLc (i := 5) (own := [("ends", 6)]) (g := (gName 6)) (by rfl) sc_bend_at.nd rfl rfl (sw_true rfl rfl rfl (by decide +kernel)) (pi_list (pe_meth (pv 4) T.c_Bearing T.m_Bearing_ends_of_boards (ok_Bearing_ends_of_boards T) (hr.mono (by decide)) T.b_Bearing_ends_of_boards .nil pass0 (pa_cons (pv 3) pa_nil))) (blkOk_by (own := [("ends", 6)]) (N := N_bend_at) (sc := defScope s_bend_at) (by decide +kernel)) (fun _ _ _ _ _ => (pg_name (i := 6) sc_bend_at.nd rfl (by first | exact Or.inl rfl | exact Or.inr rfl))) (fun _ _ _ _ _ => (pts_one (pt_not (pt_val (pe_call (ok_is_below T) (hr.mono (by decide)) rfl T.n_is_below T.F_is_below.kp T.b_is_below .nil pass0 (pa_cons (pe_call (ok_of_whole T) (hr.mono (by decide)) rfl T.n_of_whole T.F_of_whole.kp T.b_of_whole .nil pass0 (pa_cons (pe_meth (pv 0) T.c_Plank T.m_Plank_place_of (ok_Plank_place_of T) (hr.mono (by decide)) T.b_Plank_place_of .nil passL (pa_cons (pe_ix (ix_ltK (K := K)) (pv 6) pe_int (fun _ _ => rfl)) pa_nil)) pa_nil)) (pa_cons (pv 2) pa_nil))))))) (fun _ _ _ _ _ => (pv 6)))
      (pss_cons (ps_asg (pe_ix (ix_ltK (K := K)) (pv 5) pe_int (fun _ _ => rfl)) (pg_tup rfl (pgs_cons (pg_name (i := 7) sc_bend_at.nd rfl (by first | exact Or.inl rfl | exact Or.inr rfl)) (pgs_cons (pg_name (i := 8) sc_bend_at.nd rfl (by first | exact Or.inl rfl | exact Or.inr rfl)) pgs_nil))))
      (pss_one (ps_ret (pe_meth (pv 4) T.c_Bearing T.m_Bearing_bend (ok_Bearing_bend T) (hr.mono (by decide)) T.b_Bearing_bend .nil pass0 (pa_cons (pv 7) (pa_cons (pv 8) (pa_cons (pv 2) pa_nil)))))))))), ?_⟩
  try dsimp only [cxOf, List.map, List.length_cons, List.length_nil]
  refine ⟨_, inferInstance, ?_⟩
  rintro ρ Ξ Φ ⟨L, xs, b, ws, q, l, ns, rfl, hp, hbd, hw, hz, hl, q0, q1, hq, k⟩
  have hn := hl.ok
  have hln := lot_len hn
  have h12 := hp.2.2.2
  obtain ⟨L0, L1, hpr, _⟩ := id hp
  have bz : ∀ z ∈ ws, BtW z := fun z hm => (hz z hm).2.2.1
  have qb := pl_bt bz hq
  refine ⟨_, rfl, _, rfl, _, rfl, trivial, trivial, trivial, rfl, List.nodup_nil, ⟨L, xs, b, ws, l, ns, rfl, hp, hbd, hw, hz, hl, fun d ρ' hd => ?_⟩⟩
  obtain ⟨gs, rfl⟩ := hd.obj
  refine ⟨[.obj (a 108) gs, .tup (ns.map D.int)], rfl, rfl, _, _, rfl, _, _, rfl, rfl, ?_⟩
  try simp only [pwipe1, pwipe2, back_hd, back_pu2, back_pu1, List.set_cons_succ, List.set_cons_zero]
  refine ⟨_, rfl, _, rfl, trivial, trivial, rfl, List.nodup_nil, ⟨L, xs, b, q, rfl, hp, q0, q1, qb, fun ρ' => ?_⟩⟩
  try simp only [pwipe1, pwipe2, back_hd, back_pu2, back_pu1, List.set_cons_succ, List.set_cons_zero]
  refine ⟨_, rfl, _, rfl, hd.ne (by decide +kernel), _, rfl, trivial, rfl, List.nodup_nil, ⟨L, xs, b, ws, _, ns, rfl, hd, by omega, fun ρ' => ?_⟩⟩
  try simp only [pwipe1, pwipe2, back_hd, back_pu2, back_pu1, List.set_cons_succ, List.set_cons_zero]
  refine ⟨_, rfl, fun j acc ρ => acc = ((List.range j).filter (notB L xs ns q)).map (endD xs.length ns) ∧ ρ = [some (.pu (plk (a 107) (.int L) xs b)), some (.pu (.lst (ws.map wtK))), some (.pu (trkD q)), some (.pu (.tup (ns.map D.int))), some (.pu (.obj (a 108) gs)), none, none, none, none], ⟨rfl, rfl⟩, ?_, ?_⟩
  · rintro j e acc ρ hj ⟨ea, rfl⟩
    obtain ⟨rfl, hjl⟩ := brd_at hj
    obtain ⟨g1, g2, g3⟩ := rg_lt hn hjl
    try simp only [pwipe1, pwipe2, back_hd, back_pu2, back_pu1, List.set_cons_succ, List.set_cons_zero]
    refine ⟨_, rfl, _, rfl, lookN (by decide +kernel) (by decide +kernel) (by decide +kernel), _, rfl, [.int (rgO xs.length ns j), .int (rgO xs.length ns (j + 1))], 1, _, rfl, rfl, rfl, trivial, rfl, List.nodup_nil, ⟨.int L, xs, b, .int (rgO xs.length ns (j + 1)), rfl, .int _, fun x hx => ?_, fun hf => ?_, fun _ ρ' => ?_⟩⟩
    · obtain ⟨j, y, rfl⟩ := props_get hpr x hx
      exact ⟨_, _, rfl⟩
    · exfalso
      have : (true && (decide (-1 ≤ rgO xs.length ns (j + 1)) && decide (rgO xs.length ns (j + 1) ≤ xs.length))) = false := hf
      rw [decide_eq_true (by omega), decide_eq_true (by omega)] at this
      cases this
    have ep : plcOf (.int L) xs (D.int (rgO xs.length ns (j + 1))).toInt = .int (pE L xs (rgO xs.length ns (j + 1))) := by
      show plcOf (.int L) xs (rgO xs.length ns (j + 1)) = _
      rw [plcI_eq hpr (by omega) (by omega), pE_in (by omega) (by omega)]
    rw [ep]
    have pb := pE_bd hp (i := rgO xs.length ns (j + 1)) (by omega) (by omega)
    refine ⟨trivial, rfl, List.nodup_nil, [_], rfl, ⟨_, rfl⟩, fun r ρ' e => ?_⟩
    rw [e _ rfl]
    clear e
    refine ⟨_, rfl, trivial, trivial, rfl, List.nodup_nil, ⟨_, _, ((pE L xs (rgO xs.length ns (j + 1)) : Int) : Rat), q, rfl, .inr rfl, .inr rfl, (int_bt (n := 11) (by omega)).mono (by decide) (by decide), qb.mono (by decide) (by decide), fun ρ' => ?_⟩⟩
    refine ⟨_, rfl, ?_⟩
    have nx := filt_next (n := j) (p := notB L xs ns q) (f := endD xs.length ns)
    show if (notB L xs ns q j) = true then _ else _
    cases c : notB L xs ns q j with
    | true =>
      rw [c] at nx
      refine ⟨_, rfl, ?_, ?_, rfl⟩
      · rw [ea, List.length_map]
        have := List.length_filter_le (notB L xs ns q) (List.range j)
        rw [List.length_range] at this
        omega
      · rw [nx, ea]
        rfl
    | false =>
      rw [c] at nx
      refine ⟨?_, rfl⟩
      rw [nx, ea]
      simp
  · rintro acc ρ ⟨ea, rfl⟩
    rw [brd_len] at ea
    subst ea
    have ex : ∃ k, k < ns.length + 1 ∧ notB L xs ns q k = true := by
      refine ⟨ns.length, by omega, ?_⟩
      have eL : pE L xs (xs.length : Int) = L := by
        unfold pE plcI plcOf
        rw [if_neg (by omega), if_neg (by omega), if_neg (by omega), if_pos rfl]
        rfl
      unfold notB
      rw [rg_last, eL, decide_eq_false (Rat.not_lt.mpr q1)]
      rfl
    obtain ⟨k0, r, e, hk, hk1, hk2⟩ := filt_head (ns.length + 1) (notB L xs ns q) ex
    obtain ⟨g1, g2, g3⟩ := rg_lt hn hk
    rw [e]
    refine .inl ?_
    try simp only [pwipe1, pwipe2, back_hd, back_pu2, back_pu1, List.set_cons_succ, List.set_cons_zero]
    refine ⟨_, rfl, _, 0, endD xs.length ns k0, rfl, rfl, atI_nat (j := 0) rfl, ?_⟩
    refine ⟨[.int (rgO xs.length ns k0), .int (rgO xs.length ns (k0 + 1))], rfl, rfl, _, _, rfl, _, _, rfl, rfl, ?_⟩
    try simp only [pwipe1, pwipe2, back_hd, back_pu2, back_pu1, List.set_cons_succ, List.set_cons_zero]
    exact ⟨_, rfl, _, rfl, hd.ne (by decide +kernel), _, rfl, _, rfl, _, rfl, trivial, trivial, trivial, rfl, List.nodup_nil, ⟨L, xs, b, ws, _, _, _, q, rfl, hd, g1, g2, g3, hq, fun ρ' => k k0 _ hk hk1 hk2⟩⟩

end
end K06
set_option synthInstance.maxSize 100000
set_option synthInstance.maxHeartbeats 4000000
set_option Elab.async false
set_option linter.all false
set_option maxRecDepth 100000
set_option maxHeartbeats 4000000
set_option autoImplicit false
namespace K06
open PySem L2 Dx Kd
theorem momQ_nil {p : Rat} : momQ [] p = 0 := rfl
theorem foldl_add (qs : List Rat) : ∀ a : Rat, qs.foldl (· + ·) a = a + sumQ qs := by
  induction qs with
  | nil => intro a; exact (Rat.add_zero a).symm
  | cons q qs ih =>
    intro a
    show qs.foldl (· + ·) (a + q) = a + qs.foldl (· + ·) (0 + q)
    rw [ih, ih, Rat.zero_add, Rat.add_assoc]
theorem sumQ_cons (q : Rat) (qs : List Rat) : sumQ (q :: qs) = q + sumQ qs := by
  show qs.foldl (· + ·) (0 + q) = _
  rw [foldl_add, Rat.zero_add]
theorem momQ_cons (z : Rat × Rat) (ws : List (Rat × Rat)) (p : Rat) : momQ (z :: ws) p = z.2 * rampQ p z.1 + momQ ws p := sumQ_cons _ _
/-- a weight's part of a bend, as the law has it -/
def lbT (l u : Int) (q : Rat) (z : Rat × Rat) : Rat := if (l : Rat) < z.1 then (if z.1 < (u : Rat) then z.2 * (((if q < z.1 then q else z.1) - (l : Rat)) * ((u : Rat) - (if q < z.1 then z.1 else q))) * Rat.divInt 1 (u - l) else 0) else 0
theorem lb_one {l u : Int} {q : Rat} (h : l < u) (h1 : (l : Rat) ≤ q) (h2 : q ≤ (u : Rat)) (z : Rat × Rat) :
    z.2 * rampQ l z.1 * ((u : Rat) - q) + z.2 * rampQ u z.1 * (q - (l : Rat)) - z.2 * rampQ q z.1 * (((u - l : Int)) : Rat) = lbT l u q z * (((u - l : Int)) : Rat) := by
  have b1 : (l : Rat) < (u : Rat) := by exact_mod_cast h
  have i1 : Rat.divInt 1 (u - l) = 1 / ((u : Rat) - (l : Rat)) := by rw [Rat.divInt_eq_div, Rat.intCast_sub]; rfl
  unfold lbT rampQ
  rw [Rat.intCast_sub, i1]
  generalize (l : Rat) = p at *
  generalize (u : Rat) = r at *
  generalize z.1 = x, z.2 = w at *
  have n : r - p ≠ 0 := by grind
  clear i1 h
  by_cases c1 : p < x
  · by_cases c2 : x < r
    · by_cases c3 : q < x
      · rw [if_pos c1, if_pos c2, if_pos c3, if_pos c3, if_neg (by grind), if_pos c2, if_neg (by grind)]
        grind
      · rw [if_pos c1, if_pos c2, if_neg c3, if_neg c3, if_neg (by grind), if_pos c2]
        by_cases c4 : x < q
        · rw [if_pos c4]
          grind
        · have : x = q := by grind
          subst this
          rw [if_neg c4]
          grind
    · rw [if_pos c1, if_neg c2, if_neg (by grind), if_neg c2, if_neg (by grind)]
      grind
  · rw [if_neg c1]
    have c2 : x < r := by grind
    rw [if_pos c2]
    by_cases c3 : x < p
    · rw [if_pos c3, if_pos (by grind)]
      grind
    · have : x = p := by grind
      subst this
      rw [if_neg c3]
      by_cases c4 : x < q
      · rw [if_pos c4]
        grind
      · have : x = q := by grind
        subst this
        rw [if_neg c4]
        grind
theorem bend_sum {ws : List (Rat × Rat)} {l u : Int} {q : Rat} (h : l < u) (h1 : (l : Rat) ≤ q) (h2 : q ≤ (u : Rat)) : bendQ ws l u q = sumQ (ws.map (lbT l u q)) := by
  have a1 : ((u - l : Int) : Rat) ≠ 0 := by
    have : (0 : Rat) < ((u - l : Int) : Rat) := by
      have : 0 < u - l := by omega
      exact_mod_cast this
    grind
  have key : aboveQ ws l u q = sumQ (ws.map (lbT l u q)) * (((u - l : Int)) : Rat) := by
    induction ws with
    | nil =>
      show (0 : Rat) * _ + 0 * _ - 0 * _ = 0 * _
      grind
    | cons z ws ih =>
      have o := lb_one h h1 h2 z
      unfold aboveQ at ih ⊢
      rw [momQ_cons, momQ_cons, momQ_cons, List.map_cons, sumQ_cons]
      generalize (((u - l : Int)) : Rat) = y at *
      grind
  unfold bendQ
  rw [key]
  generalize (((u - l : Int)) : Rat) = y at *
  grind
theorem bend_low {ws : List (Rat × Rat)} {l u : Int} : bendQ ws l u (l : Rat) = 0 := by
  unfold bendQ aboveQ
  rw [Rat.intCast_sub]
  generalize momQ ws (l : Rat) = x, momQ ws (u : Rat) = y, (l : Rat) = p, (u : Rat) = r
  grind
/-- what is told of where the bend is greatest is the bend there -/
theorem great_at {ws : List (Rat × Rat)} {l u : Int} : bendQ ws l u (greatQ ws l u).2 = (greatQ ws l u).1 := by
  unfold greatQ gfold
  suffices h : ∀ (xs : List Rat) (s : Rat × Rat), bendQ ws l u s.2 = s.1 → bendQ ws l u (xs.foldl (gstep ws l u) s).2 = (xs.foldl (gstep ws l u) s).1 from h _ _ bend_low
  intro xs
  induction xs with
  | nil => exact fun s h => h
  | cons x xs ih =>
    intro s h
    refine ih _ ?_
    unfold gstep
    split
    · split
      · split
        · rfl
        · split
          · exact h
          · split
            · rfl
            · exact h
      · exact h
    · exact h
theorem great_in {ws : List (Rat × Rat)} {l u : Int} (h : l < u) : (l : Rat) ≤ (greatQ ws l u).2 ∧ (greatQ ws l u).2 ≤ (u : Rat) := by
  have b1 : (l : Rat) < (u : Rat) := by exact_mod_cast h
  unfold greatQ gfold
  suffices h : ∀ (xs : List Rat) (s : Rat × Rat), ((l : Rat) ≤ s.2 ∧ s.2 ≤ (u : Rat)) → ((l : Rat) ≤ (xs.foldl (gstep ws l u) s).2 ∧ (xs.foldl (gstep ws l u) s).2 ≤ (u : Rat)) from h _ _ ⟨Rat.le_refl, Rat.le_of_lt b1⟩
  intro xs
  induction xs with
  | nil => exact fun s h => h
  | cons x xs ih =>
    intro s h
    refine ih _ ?_
    unfold gstep
    split
    · rename_i c1
      split
      · rename_i c2
        split
        · exact ⟨Rat.le_of_lt c1, Rat.le_of_lt c2⟩
        · split
          · exact h
          · split
            · exact ⟨Rat.le_of_lt c1, Rat.le_of_lt c2⟩
            · exact h
      · exact h
    · exact h
/-- the fold's first part never lessens, and is no less than each bend it has met -/
theorem great_ge {ws : List (Rat × Rat)} {l u : Int} : 0 ≤ (greatQ ws l u).1 ∧ ∀ z ∈ ws, (l : Rat) < z.1 → z.1 < (u : Rat) → bendQ ws l u z.1 ≤ (greatQ ws l u).1 := by
  unfold greatQ gfold
  have step : ∀ (s : Rat × Rat) (x : Rat), s.1 ≤ (gstep ws l u s x).1 ∧ ((l : Rat) < x → x < (u : Rat) → bendQ ws l u x ≤ (gstep ws l u s x).1) := fun s x => by
    unfold gstep
    split
    · split
      · split
        · rename_i c
          exact ⟨Rat.le_of_lt c, fun _ _ => Rat.le_refl⟩
        · rename_i c
          split
          · exact ⟨Rat.le_refl, fun _ _ => Rat.not_lt.mp c⟩
          · rename_i c2
            split
            · exact ⟨Rat.not_lt.mp c2, fun _ _ => Rat.le_refl⟩
            · exact ⟨Rat.le_refl, fun _ _ => Rat.not_lt.mp c⟩
      · rename_i c
        exact ⟨Rat.le_refl, fun _ h => absurd h c⟩
    · rename_i c
      exact ⟨Rat.le_refl, fun h _ => absurd h c⟩
  have mono : ∀ (xs : List Rat) (s : Rat × Rat), s.1 ≤ (xs.foldl (gstep ws l u) s).1 ∧ ∀ x ∈ xs, (l : Rat) < x → x < (u : Rat) → bendQ ws l u x ≤ (xs.foldl (gstep ws l u) s).1 := by
    intro xs
    induction xs with
    | nil => exact fun s => ⟨Rat.le_refl, fun x h => nomatch h⟩
    | cons x xs ih =>
      intro s
      obtain ⟨a1, a2⟩ := step s x
      obtain ⟨b1, b2⟩ := ih (gstep ws l u s x)
      refine ⟨Rat.le_trans a1 b1, fun y hy h1 h2 => ?_⟩
      rcases List.mem_cons.mp hy with rfl | hy
      · exact Rat.le_trans (a2 h1 h2) b1
      · exact b2 y hy h1 h2
  obtain ⟨m1, m2⟩ := mono (ws.map fun z => z.1) (0, (l : Rat))
  exact ⟨m1, fun z hz h1 h2 => m2 z.1 (List.mem_map.mpr ⟨z, hz, rfl⟩) h1 h2⟩
theorem bend_high {ws : List (Rat × Rat)} {l u : Int} : bendQ ws l u (u : Rat) = 0 := by
  unfold bendQ aboveQ
  rw [Rat.intCast_sub]
  generalize momQ ws (l : Rat) = x, momQ ws (u : Rat) = y, (l : Rat) = p, (u : Rat) = r
  grind
theorem ramp_lin {x p q r : Rat} (h : x ≤ p ∨ r ≤ x) (h1 : p ≤ q) (h2 : q ≤ r) : rampQ q x * (r - p) = rampQ p x * (r - q) + rampQ r x * (q - p) := by
  unfold rampQ
  rcases h with h | h
  · by_cases c1 : x < p
    · rw [if_pos (by grind), if_pos c1, if_pos (by grind)]
      grind
    · have : x = p := by grind
      subst this
      rw [if_neg c1]
      by_cases c2 : x < q
      · rw [if_pos c2, if_pos (by grind)]
        grind
      · have : x = q := by grind
        subst this
        rw [if_neg c2]
        grind
  · rw [if_neg (by grind), if_neg (by grind), if_neg (by grind)]
    grind
theorem mom_lin {ws : List (Rat × Rat)} {p q r : Rat} (h1 : p ≤ q) (h2 : q ≤ r) (h : ∀ z ∈ ws, z.1 ≤ p ∨ r ≤ z.1) : momQ ws q * (r - p) = momQ ws p * (r - q) + momQ ws r * (q - p) := by
  induction ws with
  | nil =>
    show (0 : Rat) * _ = 0 * _ + 0 * _
    grind
  | cons z ws ih =>
    have ih := ih fun y hy => h y (List.mem_cons_of_mem _ hy)
    have o := ramp_lin (h z List.mem_cons_self) h1 h2
    rw [momQ_cons, momQ_cons, momQ_cons]
    generalize rampQ q z.1 = a, rampQ p z.1 = b, rampQ r z.1 = c, momQ ws q = d, momQ ws p = e, momQ ws r = f at *
    grind
theorem bend_lin {ws : List (Rat × Rat)} {l u : Int} {p q r : Rat} (h1 : p ≤ q) (h2 : q ≤ r) (h : ∀ z ∈ ws, z.1 ≤ p ∨ r ≤ z.1) : bendQ ws l u q * (r - p) = bendQ ws l u p * (r - q) + bendQ ws l u r * (q - p) := by
  have m := mom_lin h1 h2 h
  unfold bendQ aboveQ
  generalize (((u - l : Int)) : Rat) = y
  generalize momQ ws (l : Rat) = a, momQ ws (u : Rat) = b, momQ ws q = c, momQ ws p = d, momQ ws r = e, (l : Rat) = l', (u : Rat) = u' at *
  have n : ∀ x : Rat, x / y = x * y⁻¹ := fun x => Rat.div_def x y
  rw [n, n, n]
  generalize y⁻¹ = v
  grind
theorem pick_low : ∀ (xs : List Rat) {l q : Rat}, l ≤ q → ∃ p, (p = l ∨ (p ∈ xs ∧ l < p)) ∧ l ≤ p ∧ p ≤ q ∧ ∀ x ∈ xs, x ≤ q → x ≤ p
  | [], l, q, h => ⟨l, .inl rfl, Rat.le_refl, h, fun x hx => nomatch hx⟩
  | x :: xs, l, q, h => by
    obtain ⟨p, h1, h2, h3, h4⟩ := pick_low xs h
    by_cases c : p < x ∧ x ≤ q
    · refine ⟨x, .inr ⟨List.mem_cons_self, by grind⟩, by grind, c.2, fun y hy hq => ?_⟩
      rcases List.mem_cons.mp hy with rfl | hy
      · exact Rat.le_refl
      · have := h4 y hy hq
        grind
    · refine ⟨p, ?_, h2, h3, fun y hy hq => ?_⟩
      · rcases h1 with h1 | ⟨h1, h5⟩
        · exact .inl h1
        · exact .inr ⟨List.mem_cons_of_mem _ h1, h5⟩
      · rcases List.mem_cons.mp hy with rfl | hy
        · grind
        · exact h4 y hy hq
theorem pick_high : ∀ (xs : List Rat) {u q : Rat}, q ≤ u → ∃ r, (r = u ∨ (r ∈ xs ∧ r < u)) ∧ q ≤ r ∧ r ≤ u ∧ ∀ x ∈ xs, q ≤ x → r ≤ x ∨ u ≤ x
  | [], u, q, h => ⟨u, .inl rfl, h, Rat.le_refl, fun x hx => nomatch hx⟩
  | x :: xs, u, q, h => by
    obtain ⟨r, h1, h2, h3, h4⟩ := pick_high xs h
    by_cases c : x < r ∧ q ≤ x
    · refine ⟨x, .inr ⟨List.mem_cons_self, by grind⟩, c.2, by grind, fun y hy hq => ?_⟩
      rcases List.mem_cons.mp hy with rfl | hy
      · exact .inl Rat.le_refl
      · rcases h4 y hy hq with h5 | h5
        · exact .inl (by grind)
        · exact .inr h5
    · refine ⟨r, ?_, h2, h3, fun y hy hq => ?_⟩
      · rcases h1 with h1 | ⟨h1, h5⟩
        · exact .inl h1
        · exact .inr ⟨List.mem_cons_of_mem _ h1, h5⟩
      · rcases List.mem_cons.mp hy with rfl | hy
        · exact .inl (by grind)
        · exact h4 y hy hq
/-- nowhere is a board bent more -/
theorem great_all {ws : List (Rat × Rat)} {l u : Int} {q : Rat} (h : l < u) (h1 : (l : Rat) ≤ q) (h2 : q ≤ (u : Rat)) : bendQ ws l u q ≤ (greatQ ws l u).1 := by
  obtain ⟨g0, g1⟩ := great_ge (ws := ws) (l := l) (u := u)
  have at_ : ∀ x : Rat, (∃ z ∈ ws, z.1 = x) → (l : Rat) ≤ x → x ≤ (u : Rat) → bendQ ws l u x ≤ (greatQ ws l u).1 := fun x ⟨z, hz, e⟩ a b => by
    subst e
    by_cases c1 : (l : Rat) < z.1
    · by_cases c2 : z.1 < (u : Rat)
      · exact g1 z hz c1 c2
      · have : z.1 = (u : Rat) := by grind
        rw [this, bend_high]
        exact g0
    · have : z.1 = (l : Rat) := by grind
      rw [this, bend_low]
      exact g0
  obtain ⟨p, p1, p2, p3, p4⟩ := pick_low (ws.map fun z => z.1) h1
  obtain ⟨r, r1, r2, r3, r4⟩ := pick_high (ws.map fun z => z.1) h2
  have bp : bendQ ws l u p ≤ (greatQ ws l u).1 := by
    rcases p1 with rfl | ⟨p1, _⟩
    · rw [bend_low]; exact g0
    · obtain ⟨z, hz, e⟩ := List.mem_map.mp p1
      exact at_ p ⟨z, hz, e⟩ p2 (Rat.le_trans p3 h2)
  have br : bendQ ws l u r ≤ (greatQ ws l u).1 := by
    rcases r1 with rfl | ⟨r1, _⟩
    · rw [bend_high]; exact g0
    · obtain ⟨z, hz, e⟩ := List.mem_map.mp r1
      exact at_ r ⟨z, hz, e⟩ (Rat.le_trans h1 r2) r3
  have out : ∀ z ∈ ws, z.1 ≤ p ∨ r ≤ z.1 := fun z hz => by
    have hm : z.1 ∈ ws.map fun z => z.1 := List.mem_map.mpr ⟨z, hz, rfl⟩
    by_cases c : z.1 ≤ q
    · exact .inl (p4 _ hm c)
    · rcases r4 _ hm (by grind) with h5 | h5
      · exact .inr h5
      · exact .inr (Rat.le_trans r3 h5)
  have lin := bend_lin (l := l) (u := u) p3 r2 out
  by_cases c : p = r
  · have : q = p := by grind
    rw [this]
    exact bp
  · have pr : 0 < r - p := by grind
    have a1 := Rat.mul_le_mul_of_nonneg_right bp (show 0 ≤ r - q by grind)
    have a2 := Rat.mul_le_mul_of_nonneg_right br (show 0 ≤ q - p by grind)
    refine Rat.not_lt.mp fun hc => ?_
    have a3 := Rat.mul_lt_mul_of_pos_right hc pr
    generalize bendQ ws l u q = x, bendQ ws l u p = y, bendQ ws l u r = z, (greatQ ws l u).1 = g at *
    grind
end K06
set_option synthInstance.maxSize 100000
set_option synthInstance.maxHeartbeats 4000000
set_option Elab.async false
set_option linter.all false
set_option maxRecDepth 100000
set_option maxHeartbeats 4000000
set_option autoImplicit false
namespace K06
open PySem L2 Dx Kd
/-- the share, by moments -/
theorem tent_ramp {l h u : Int} {x : Rat} (h1 : l < h) (h2 : h < u) (lo hi : Option Int) (hlo : (lo = some l) ∨ (lo = none ∧ (h : Rat) ≤ x)) (hhi : (hi = some u) ∨ (hi = none ∧ x ≤ (h : Rat))) :
    tentQ lo h hi x = (rampQ u x - rampQ h x) / ((u - h : Int) : Rat) - (rampQ h x - rampQ l x) / ((h - l : Int) : Rat) := by
  have b1 : ((l : Int) : Rat) < ((h : Int) : Rat) := by exact_mod_cast h1
  have b2 : ((h : Int) : Rat) < ((u : Int) : Rat) := by exact_mod_cast h2
  have i1 : Rat.divInt 1 (h - l) = 1 / (((h : Int) : Rat) - ((l : Int) : Rat)) := by rw [Rat.divInt_eq_div, Rat.intCast_sub]; rfl
  have i2 : Rat.divInt 1 (u - h) = 1 / (((u : Int) : Rat) - ((h : Int) : Rat)) := by rw [Rat.divInt_eq_div, Rat.intCast_sub]; rfl
  have lq : tentQ lo h hi x = if x < (h : Rat) then (if (l : Rat) < x then (x - (l : Rat)) * Rat.divInt 1 (h - l) else 0) else if (h : Rat) < x then (if x < (u : Rat) then ((u : Rat) - x) * Rat.divInt 1 (u - h) else 0) else 1 := by
    unfold tentQ
    by_cases c1 : x < (h : Rat)
    · rw [if_pos c1, if_pos c1]
      rcases hlo with rfl | ⟨rfl, hx⟩
      · rfl
      · exact absurd c1 (Rat.not_lt.mpr hx)
    · rw [if_neg c1, if_neg c1]
      by_cases c2 : (h : Rat) < x
      · rw [if_pos c2, if_pos c2]
        rcases hhi with rfl | ⟨rfl, hx⟩
        · rfl
        · exact absurd c2 (Rat.not_lt.mpr hx)
      · rw [if_neg c2, if_neg c2]
  rw [lq, i1, i2, Rat.intCast_sub, Rat.intCast_sub]
  unfold rampQ
  clear lq i1 i2 hlo hhi h1 h2
  generalize ((l : Int) : Rat) = a at *
  generalize ((h : Int) : Rat) = b at *
  generalize ((u : Int) : Rat) = c at *
  have n1 : b - a ≠ 0 := by grind
  have n2 : c - b ≠ 0 := by grind
  by_cases c1 : x < b
  · rw [if_pos c1, if_pos (show x < c by grind), if_pos c1]
    by_cases c2 : a < x
    · rw [if_pos c2, if_neg (show ¬ x < a by grind)]
      grind
    · rw [if_neg c2]
      by_cases c3 : x < a
      · rw [if_pos c3]; grind
      · rw [if_neg c3]
        have : x = a := by grind
        subst this
        grind
  · rw [if_neg c1, if_neg c1, if_neg (show ¬ x < a by grind)]
    by_cases c2 : b < x
    · rw [if_pos c2]
      by_cases c3 : x < c
      · rw [if_pos c3, if_pos c3]; grind
      · rw [if_neg c3, if_neg c3]; grind
    · rw [if_neg c2]
      have : x = b := by grind
      subst this
      rw [if_pos (show x < c by grind)]
      grind
theorem laid_share {ws : List (Rat × Rat)} {l h u : Int} (h1 : l < h) (h2 : h < u) (lo hi : Option Int) (hlo : lo = some l ∨ (lo = none ∧ ∀ z ∈ ws, (h : Rat) ≤ z.1)) (hhi : hi = some u ∨ (hi = none ∧ ∀ z ∈ ws, z.1 ≤ (h : Rat))) :
    laidQ ws l h u = sumQ (ws.map fun z => z.2 * tentQ lo h hi z.1) := by
  induction ws with
  | nil =>
    unfold laidQ
    rw [momQ_nil, momQ_nil, momQ_nil]
    show (0 - 0) / _ - (0 - 0) / _ = (0 : Rat)
    grind
  | cons z ws ih =>
    have ih := ih (hlo.imp id fun h => ⟨h.1, fun z hz => h.2 z (List.mem_cons_of_mem _ hz)⟩) (hhi.imp id fun h => ⟨h.1, fun z hz => h.2 z (List.mem_cons_of_mem _ hz)⟩)
    rw [List.map_cons, sumQ_cons, ← ih, tent_ramp h1 h2 lo hi (hlo.imp id fun h => ⟨h.1, h.2 z (List.mem_cons_self ..)⟩) (hhi.imp id fun h => ⟨h.1, h.2 z (List.mem_cons_self ..)⟩)]
    unfold laidQ
    rw [momQ_cons, momQ_cons, momQ_cons]
    generalize momQ ws l = x1, momQ ws h = x2, momQ ws u = x3, rampQ l z.1 = r1, rampQ h z.1 = r2, rampQ u z.1 = r3, ((u - h : Int) : Rat) = d1, ((h - l : Int) : Rat) = d2
    grind
theorem laid_bt {L : Int} {ws : List (Rat × Rat)} {l h u : Int} (hw : ws.length ≤ 16) (hz : ∀ z ∈ ws, WtOk L z) (h0 : -1 ≤ l) (h1 : l < h) (h2 : h < u) (h3 : u ≤ 1001) : Bt 165 76 (laidQ ws l h u) := by
  have bz : ∀ z ∈ ws, BtW z := fun z hm => (hz z hm).2.2.1
  have B0 : (0 : Int) < 2079000000000000 := by decide
  have B1 : (2079000000000000 : Int).natAbs < 2 ^ 52 := by decide
  have dz : ∀ z ∈ ws, (z.1.den : Int) * (z.2.den : Int) ∣ (2079000000000000 : Int) := fun z hm => by
    obtain ⟨_, d⟩ := den_le (hz z hm)
    have := Int.natCast_dvd_natCast.mpr d
    rw [Int.natCast_mul] at this
    exact this
  have bm : ∀ p : Int, -1 ≤ p → p ≤ 1001 → (momT (ows 2079000000000000 ws) p 1).natAbs < 2 ^ 150 := fun p h0 h1 => momT_bt hw B1 bz (by omega) (by decide)
  rw [← laid_eq h1 h2 B0 (momT_eq dz) (momT_eq dz) (momT_eq dz)]
  have q1 : (h - l).natAbs < 2 ^ 11 := by omega
  have q2 : (u - h).natAbs < 2 ^ 11 := by omega
  have q3 := abs_sub_lt (bm u (by omega) (by omega)) (bm h (by omega) (by omega))
  have q4 := abs_sub_lt (bm h (by omega) (by omega)) (bm l (by omega) (by omega))
  have q5 : ((h - l) * (u - h)).natAbs < 2 ^ 22 := abs_mul_lt q1 q2
  have q6 := abs_mul_lt q3 q1
  have q7 := abs_mul_lt q4 q2
  have q8 := abs_sub_lt q6 q7
  have q9 := abs_mul_lt q5 B1
  have pos : 0 < (h - l) * (u - h) * 2079000000000000 := Int.mul_pos (Int.mul_pos (by omega) (by omega)) B0
  exact (divInt_bt pos q8 q9).mono (by decide) (by decide)
theorem add_ratio {x y d : Rat} (hy : 0 < y) (hx : x ≤ y) (hd : 0 ≤ d) : x / y ≤ (x + d) / (y + d) := by
  have hyd : 0 < y + d := by grind
  refine Rat.not_lt.mp fun h => ?_
  rw [Rat.div_lt_iff hyd] at h
  have e : x / y * y = x := Rat.div_mul_cancel (by grind)
  have t1 : x / y ≤ 1 := Rat.not_lt.mp fun g => by
    rw [Rat.lt_div_iff hy] at g
    grind
  have m : 0 ≤ d * (1 - x / y) := Rat.mul_nonneg hd (by grind)
  generalize x / y = t at *
  grind
theorem sum_mono {α : Type} {f g : α → Rat} : ∀ (ws : List α), (∀ z ∈ ws, f z ≤ g z) → sumQ (ws.map f) ≤ sumQ (ws.map g)
  | [], _ => Rat.le_refl
  | z :: ws, h => by
    rw [List.map_cons, List.map_cons, sumQ_cons, sumQ_cons]
    have h1 := h z List.mem_cons_self
    have h2 := sum_mono ws fun z hz => h z (List.mem_cons_of_mem _ hz)
    grind
theorem sum_nonneg {α : Type} {f : α → Rat} : ∀ (ws : List α), (∀ z ∈ ws, 0 ≤ f z) → 0 ≤ sumQ (ws.map f)
  | [], _ => Rat.le_refl
  | z :: ws, h => by
    rw [List.map_cons, sumQ_cons]
    have h1 := h z List.mem_cons_self
    have h2 := sum_nonneg ws fun z hz => h z (List.mem_cons_of_mem _ hz)
    grind
theorem sum_app {α : Type} {f : α → Rat} : ∀ (ws vs : List α), sumQ ((ws ++ vs).map f) = sumQ (ws.map f) + sumQ (vs.map f)
  | [], vs => by
    show sumQ (vs.map f) = 0 + _
    rw [Rat.zero_add]
  | z :: ws, vs => by
    rw [List.cons_append, List.map_cons, List.map_cons, sumQ_cons, sumQ_cons, sum_app ws vs, Rat.add_assoc]
theorem inv_ratio {a b : Int} {x : Rat} : x * Rat.divInt 1 (a - b) = x / ((a : Rat) - (b : Rat)) := by
  have : Rat.divInt 1 (a - b) = 1 / ((a : Rat) - (b : Rat)) := by rw [Rat.divInt_eq_div, Rat.intCast_sub]; rfl
  rw [this, Rat.div_def, Rat.div_def]
  grind
theorem div_nonneg {x y : Rat} (hx : 0 ≤ x) (hy : 0 < y) : 0 ≤ x / y := by
  rw [Rat.div_def]
  exact Rat.mul_nonneg hx (Rat.le_of_lt (Rat.inv_pos.mpr hy))
/-- the wider the board, the more of a weight lies there -/
theorem tent_mono {l l' h u u' : Int} {x : Rat} (h1 : l' ≤ l) (h2 : l < h) (h3 : h < u) (h4 : u ≤ u') : tentQ (some l) h (some u) x ≤ tentQ (some l') h (some u') x ∧ 0 ≤ tentQ (some l) h (some u) x := by
  have b1 : (l' : Rat) ≤ (l : Rat) := by exact_mod_cast h1
  have b2 : (l : Rat) < (h : Rat) := by exact_mod_cast h2
  have b3 : (h : Rat) < (u : Rat) := by exact_mod_cast h3
  have b4 : (u : Rat) ≤ (u' : Rat) := by exact_mod_cast h4
  unfold tentQ
  by_cases c1 : x < (h : Rat)
  · rw [if_pos c1, if_pos c1]
    show (if (l : Rat) < x then (x - (l : Rat)) * Rat.divInt 1 (h - l) else 0) ≤ (if (l' : Rat) < x then (x - (l' : Rat)) * Rat.divInt 1 (h - l') else 0) ∧ 0 ≤ (if (l : Rat) < x then (x - (l : Rat)) * Rat.divInt 1 (h - l) else 0)
    rw [inv_ratio, inv_ratio]
    by_cases c2 : (l : Rat) < x
    · rw [if_pos c2, if_pos (show (l' : Rat) < x by grind)]
      refine ⟨?_, div_nonneg (by grind) (by grind)⟩
      have := add_ratio (x := x - (l : Rat)) (y := (h : Rat) - (l : Rat)) (d := (l : Rat) - (l' : Rat)) (by grind) (by grind) (by grind)
      rw [show x - (l : Rat) + ((l : Rat) - (l' : Rat)) = x - (l' : Rat) by grind, show (h : Rat) - (l : Rat) + ((l : Rat) - (l' : Rat)) = (h : Rat) - (l' : Rat) by grind] at this
      exact this
    · rw [if_neg c2]
      refine ⟨?_, Rat.le_refl⟩
      split
      · exact div_nonneg (by grind) (by grind)
      · exact Rat.le_refl
  · rw [if_neg c1, if_neg c1]
    by_cases c2 : (h : Rat) < x
    · rw [if_pos c2, if_pos c2]
      show (if x < (u : Rat) then ((u : Rat) - x) * Rat.divInt 1 (u - h) else 0) ≤ (if x < (u' : Rat) then ((u' : Rat) - x) * Rat.divInt 1 (u' - h) else 0) ∧ 0 ≤ (if x < (u : Rat) then ((u : Rat) - x) * Rat.divInt 1 (u - h) else 0)
      rw [inv_ratio, inv_ratio]
      by_cases c3 : x < (u : Rat)
      · rw [if_pos c3, if_pos (show x < (u' : Rat) by grind)]
        refine ⟨?_, div_nonneg (by grind) (by grind)⟩
        have := add_ratio (x := (u : Rat) - x) (y := (u : Rat) - (h : Rat)) (d := (u' : Rat) - (u : Rat)) (by grind) (by grind) (by grind)
        rw [show (u : Rat) - x + ((u' : Rat) - (u : Rat)) = (u' : Rat) - x by grind, show (u : Rat) - (h : Rat) + ((u' : Rat) - (u : Rat)) = (u' : Rat) - (h : Rat) by grind] at this
        exact this
      · rw [if_neg c3]
        refine ⟨?_, Rat.le_refl⟩
        split
        · exact div_nonneg (by grind) (by grind)
        · exact Rat.le_refl
    · rw [if_neg c2, if_neg c2]
      exact ⟨Rat.le_refl, by grind⟩
theorem laid_tent {ws : List (Rat × Rat)} {l h u : Int} (h1 : l < h) (h2 : h < u) : laidQ ws l h u = sumQ (ws.map fun z => z.2 * tentQ (some l) h (some u) z.1) := laid_share h1 h2 _ _ (.inl rfl) (.inl rfl)
theorem laid_mono {ws : List (Rat × Rat)} {l l' h u u' : Int} (hz : ∀ z ∈ ws, 0 ≤ z.2) (h1 : l' ≤ l) (h2 : l < h) (h3 : h < u) (h4 : u ≤ u') : laidQ ws l h u ≤ laidQ ws l' h u' := by
  rw [laid_tent h2 h3, laid_tent (by omega) (by omega)]
  exact sum_mono ws fun z hm => Rat.mul_le_mul_of_nonneg_left (tent_mono h1 h2 h3 h4).1 (hz z hm)
theorem laid_more {ws vs : List (Rat × Rat)} {l h u : Int} (hz : ∀ z ∈ vs, 0 ≤ z.2) (h2 : l < h) (h3 : h < u) : laidQ ws l h u ≤ laidQ (ws ++ vs) l h u := by
  rw [laid_tent h2 h3, laid_tent h2 h3, sum_app]
  have := sum_nonneg (f := fun z : Rat × Rat => z.2 * tentQ (some l) h (some u) z.1) vs fun z hm => Rat.mul_nonneg (hz z hm) (tent_mono (Int.le_refl l) h2 h3 (Int.le_refl u)).2
  grind
/-- the wider the board, the more it bends -/
theorem lb_mono {l l' u u' : Int} {q : Rat} {z : Rat × Rat} (hz : 0 ≤ z.2) (h1 : l' ≤ l) (h2 : l < u) (h4 : u ≤ u') (q1 : (l : Rat) ≤ q) (q2 : q ≤ (u : Rat)) : lbT l u q z ≤ lbT l' u' q z := by
  have b1 : (l' : Rat) ≤ (l : Rat) := by exact_mod_cast h1
  have b2 : (l : Rat) < (u : Rat) := by exact_mod_cast h2
  have b4 : (u : Rat) ≤ (u' : Rat) := by exact_mod_cast h4
  unfold lbT
  rw [inv_ratio, inv_ratio]
  obtain ⟨f, hf⟩ : ∃ f, f = (if q < z.1 then q else z.1) := ⟨_, rfl⟩
  obtain ⟨g, hg⟩ : ∃ g, g = (if q < z.1 then z.1 else q) := ⟨_, rfl⟩
  rw [← hf, ← hg]
  have key : ∀ {a b : Int}, (a : Rat) < z.1 → z.1 < (b : Rat) → (a : Rat) ≤ q → q ≤ (b : Rat) → (a : Rat) ≤ f ∧ g ≤ (b : Rat) := fun {a b} k1 k2 k3 k4 => by
    rw [hf, hg]
    by_cases c : q < z.1
    · rw [if_pos c, if_pos c]
      exact ⟨k3, Rat.le_of_lt k2⟩
    · rw [if_neg c, if_neg c]
      exact ⟨Rat.le_of_lt k1, k4⟩
  have fg : f ≤ g := by
    rw [hf, hg]
    by_cases c : q < z.1
    · rw [if_pos c, if_pos c]
      exact Rat.le_of_lt c
    · rw [if_neg c, if_neg c]
      exact Rat.not_lt.mp c
  have nn : ∀ {a b : Int}, (a : Rat) < z.1 → z.1 < (b : Rat) → (a : Rat) ≤ q → q ≤ (b : Rat) → 0 ≤ z.2 * ((f - (a : Rat)) * ((b : Rat) - g)) / ((b : Rat) - (a : Rat)) := fun {a b} k1 k2 k3 k4 => by
    obtain ⟨k5, k6⟩ := key k1 k2 k3 k4
    exact div_nonneg (Rat.mul_nonneg hz (Rat.mul_nonneg (by grind) (by grind))) (by grind)
  by_cases c1 : (l : Rat) < z.1
  · by_cases c2 : z.1 < (u : Rat)
    · rw [if_pos c1, if_pos c2, if_pos (show (l' : Rat) < z.1 by grind), if_pos (show z.1 < (u' : Rat) by grind)]
      obtain ⟨k5, k6⟩ := key c1 c2 q1 q2
      clear nn key hf hg
      have s1 := add_ratio (x := f - (l : Rat)) (y := (u : Rat) - (l : Rat)) (d := (l : Rat) - (l' : Rat)) (by grind) (by grind) (by grind)
      rw [show f - (l : Rat) + ((l : Rat) - (l' : Rat)) = f - (l' : Rat) by grind, show (u : Rat) - (l : Rat) + ((l : Rat) - (l' : Rat)) = (u : Rat) - (l' : Rat) by grind] at s1
      have s2 := add_ratio (x := (u : Rat) - g) (y := (u : Rat) - (l' : Rat)) (d := (u' : Rat) - (u : Rat)) (by grind) (by grind) (by grind)
      rw [show (u : Rat) - g + ((u' : Rat) - (u : Rat)) = (u' : Rat) - g by grind, show (u : Rat) - (l' : Rat) + ((u' : Rat) - (u : Rat)) = (u' : Rat) - (l' : Rat) by grind] at s2
      have t1 := Rat.mul_le_mul_of_nonneg_left s1 (show 0 ≤ z.2 * ((u : Rat) - g) from Rat.mul_nonneg hz (by grind))
      have t2 := Rat.mul_le_mul_of_nonneg_left s2 (show 0 ≤ z.2 * (f - (l' : Rat)) from Rat.mul_nonneg hz (by grind))
      rw [Rat.div_def] at t1 t2 ⊢
      rw [Rat.div_def] at t1 t2 ⊢
      generalize ((u : Rat) - (l : Rat))⁻¹ = i1, ((u : Rat) - (l' : Rat))⁻¹ = i2, ((u' : Rat) - (l' : Rat))⁻¹ = i3 at *
      have e1 : z.2 * ((f - (l : Rat)) * ((u : Rat) - g)) * i1 = z.2 * ((u : Rat) - g) * ((f - (l : Rat)) * i1) := by grind
      have e2 : z.2 * ((u : Rat) - g) * ((f - (l' : Rat)) * i2) = z.2 * (f - (l' : Rat)) * (((u : Rat) - g) * i2) := by grind
      have e3 : z.2 * ((f - (l' : Rat)) * ((u' : Rat) - g)) * i3 = z.2 * (f - (l' : Rat)) * (((u' : Rat) - g) * i3) := by grind
      rw [e1, e3]
      rw [e2] at t1
      exact Rat.le_trans t1 t2
    · rw [if_pos c1, if_neg c2]
      split
      · split
        · rename_i k1 k2
          exact nn k1 k2 (by grind) (by grind)
        · exact Rat.le_refl
      · exact Rat.le_refl
  · rw [if_neg c1]
    split
    · split
      · rename_i k1 k2
        exact nn k1 k2 (by grind) (by grind)
      · exact Rat.le_refl
    · exact Rat.le_refl
theorem bend_mono {ws : List (Rat × Rat)} {l l' u u' : Int} {q : Rat} (hz : ∀ z ∈ ws, 0 ≤ z.2) (h1 : l' ≤ l) (h2 : l < u) (h4 : u ≤ u') (q1 : (l : Rat) ≤ q) (q2 : q ≤ (u : Rat)) : bendQ ws l u q ≤ bendQ ws l' u' q := by
  have b1 : (l' : Rat) ≤ (l : Rat) := by exact_mod_cast h1
  have b4 : (u : Rat) ≤ (u' : Rat) := by exact_mod_cast h4
  rw [bend_sum h2 q1 q2, bend_sum (by omega) (by grind) (by grind)]
  exact sum_mono ws fun z hm => lb_mono (hz z hm) h1 h2 h4 q1 q2
theorem great_mono {ws : List (Rat × Rat)} {l l' u u' : Int} (hz : ∀ z ∈ ws, 0 ≤ z.2) (h1 : l' ≤ l) (h2 : l < u) (h4 : u ≤ u') : (greatQ ws l u).1 ≤ (greatQ ws l' u').1 := by
  have b1 : (l' : Rat) ≤ (l : Rat) := by exact_mod_cast h1
  have b4 : (u : Rat) ≤ (u' : Rat) := by exact_mod_cast h4
  obtain ⟨g1, g2⟩ := great_in (ws := ws) h2
  rw [← great_at]
  exact Rat.le_trans (bend_mono hz h1 h2 h4 g1 g2) (great_all (by omega) (by grind) (by grind))
end K06
set_option synthInstance.maxSize 100000
set_option synthInstance.maxHeartbeats 4000000
set_option Elab.async false
set_option linter.all false
set_option maxRecDepth 100000
set_option maxHeartbeats 4000000
set_option autoImplicit false
/-! Ez9: what is found once, by a written key. -/
namespace Dx
open PySem PySem.Spec PyProof.Rows L2
section
variable {K : PySem.W.Frag} {W : WX} {Γ : Ga} {B B' : Hp} {ρ : Ab} {σ : L2.St} {H H' : Hp}
/-- a written key of two ints -/
def tKey2 (i j : Nat) : TE := tTupK (tCons (tVar i) (tCons (tVar j) tNil))
theorem key2_run {i j : Nat} {x y : V} {Q : VK} (h1 : σ[i]? = some (some x)) (h2 : σ[j]? = some (some y)) (h : ∀ p, H p = none → Q (.ref p) (upd H p (.tup [x, y]))) : tTupK (tCons (tVar i) (tCons (tVar j) tNil)) σ H Q :=
  ⟨x, h1, y, h2, (by show 2 ≤ sizeLine; decide), h⟩
theorem Rl.key2 (r : Rl K Γ B ρ σ H) {p : Addr} {xs : List V} (hp : H p = none) : Rl K Γ (upd B p (.tup xs)) ρ σ (upd H p (.tup xs)) ∧ Same B (upd B p (.tup xs)) := by
  have al := Al.new (K := K) (o := .tup xs) r.bh hp
  exact ⟨r.al al (Same.up2 r.bh), al.b⟩
def pMemo2 (K : PySem.W.Frag) (f : Str) (i j : Nat) (pb : PSx) (pe : PEx) : PSx := fun Δ ρ => ∃ C gs m x y, ρ[0]? = some (some (.pu (.obj C gs))) ∧ Cls K C ∧ NoAttr K C f ∧ memoName f = true ∧ gs.lookup f = some (.raw m) ∧ ρ[i]? = some (some (.pu (.int x))) ∧ ρ[j]? = some (some (.pu (.int y))) ∧ keyOk f gs [.inl x, .inl y] ∧ memoWf f gs ∧
  (∀ d, memoSpec f gs [.inl x, .inl y] d → Δ.rt d ρ) ∧
  pb (Δ.on fun ρ1 => pe ρ1 Δ.ex fun d ρ2 => ρ2[0]? = some (some (.pu (.obj C gs))) ∧ ρ2[i]? = some (some (.pu (.int x))) ∧ ρ2[j]? = some (some (.pu (.int y))) ∧ memoSpec f gs [.inl x, .inl y] d ∧ Δ.rt d ρ2) ρ
instance (priority := high) rs_memo2 {f : Str} {i j : Nat} {tb : TS} {te : TE} {pb : PSx} {pe : PEx} [hb : RfS K W tb pb] [he : RfE K W te pe] :
    RfS K W (tSeq (tIfS (tB (tDNotInF K (tTupK (tCons (tVar i) (tCons (tVar j) tNil))) (tFld K (tVar 0) f))) (tSeq tb (sDPutF K (tFld K (tVar 0) f) (tTupK (tCons (tVar i) (tCons (tVar j) tNil))) te)) tNext) (tRet (tDGet (tFld K (tVar 0) f) (tTupK (tCons (tVar i) (tCons (tVar j) tNil)))))) (pMemo2 K f i j pb pe) where
  run := fun Γ B ρ σ H E Δ r sim h => by
    obtain ⟨C, gs, m, x, y, e0, hc, na, mn, lk, ei, ej, hk, wf, there, new⟩ := h
    obtain ⟨vx, si, dx0⟩ := r.pu i _ ei
    obtain ⟨vy, sj, dy0⟩ := r.pu j _ ej
    obtain rfl := dx0.int_inv
    obtain rfl := dy0.int_inv
    unfold tSeq tIfS tB tDNotInF
    refine key2_run si sj fun p hp => ?_
    obtain ⟨r1, sB1⟩ := r.key2 (xs := [.int x, .int y]) hp
    have hb1 : (upd B p (.tup [.int x, .int y])) p = some (.tup ([.inl x, .inl y].map kV)) := upd_same
    obtain ⟨v0, s0, d0⟩ := r1.pu 0 _ e0
    obtain ⟨a, dx, fs, kvs, rfl, h1, h2, h3, h4, h5, h6⟩ := memo_at r1 d0 lk mn
    refine ⟨.ref a, s0, a, C, dx, fs, .ref m, rfl, r1.bh _ _ h1, hc, na, h3, fun kf => ?_⟩
    have kfB : KFun K (upd B p (.tup [.int x, .int y])) := fun z o e => r1.bh.free (kf z o e)
    refine ⟨m, valV kvs [.inl x, .inl y], rfl, .inr ⟨kvs, _, p, .inl h4, rfl, r1.bh _ _ hb1, rfl⟩, ?_⟩
    cases q : valV kvs [.inl x, .inl y] with
    | some v =>
      refine ⟨false, rfl, ?_⟩
      show tRet (tDGet (tFld K (tVar 0) f) (tTupK (tCons (tVar i) (tCons (tVar j) tNil)))) E σ _
      unfold tRet tDGet
      refine ⟨.ref a, s0, a, C, dx, fs, .ref m, rfl, r1.bh _ _ h1, hc, na, h3, ?_⟩
      refine key2_run si sj fun p2 hp2 => ?_
      obtain ⟨r2, sB2⟩ := r1.key2 (xs := [.int x, .int y]) hp2
      have hm : m ≠ p2 := fun z => by subst z; rw [h4] at hp2; cases hp2
      refine ⟨m, v, rfl, .inr ⟨kvs, _, p2, .inl (by rw [upd_ne hm]; exact h4), rfl, upd_same, q.symm⟩, ?_⟩
      obtain ⟨gs0, g1, g2, nd, g3⟩ := h6
      obtain ⟨_, d, dr, sp⟩ := g3 _ v (valV_mem q)
      exact sim.rt v d _ ρ σ _ r2 (sB1.trans sB2) (dr.mono sB2) (there d (memo_trans kfB g1 h2 g2 wf sp))
    | none =>
      refine ⟨true, rfl, ?_⟩
      show tSeq tb (sDPutF K (tFld K (tVar 0) f) (tTupK (tCons (tVar i) (tCons (tVar j) tNil))) te) { E with nx := tRet (tDGet (tFld K (tVar 0) f) (tTupK (tCons (tVar i) (tCons (tVar j) tNil)))) E } σ _
      refine hb.run Γ _ ρ σ _ _ (Δ.on fun ρ1 => pe ρ1 Δ.ex fun d ρ2 => ρ2[0]? = some (some (.pu (.obj C gs))) ∧ ρ2[i]? = some (some (.pu (.int x))) ∧ ρ2[j]? = some (some (.pu (.int y))) ∧ memoSpec f gs [.inl x, .inl y] d ∧ Δ.rt d ρ2) r1 ⟨fun B1 ρ1 σ1 H1 r1 s1 hq => ?_, fun v d B1 ρ1 σ1 H1 r1 s1 dr hq => sim.rt v d B1 ρ1 σ1 H1 r1 (sB1.trans s1) dr hq, fun B1 ρ1 σ1 H1 r1 s1 hq => sim.bk B1 ρ1 σ1 H1 r1 (sB1.trans s1) hq, fun B1 ρ1 σ1 H1 r1 s1 hq => sim.ct B1 ρ1 σ1 H1 r1 (sB1.trans s1) hq, sim.ex.mono sB1⟩ new
      unfold sDPutF
      refine he.run Γ B1 ρ1 σ1 H1 _ Δ.ex _ r1 ((sim.ex.mono (sB1.trans s1)).at _) hq fun v d B2 H2 ρ2 r2 s2 dr ⟨e0', ei', ej', sp, hrt⟩ => ?_
      obtain ⟨v0', s0', d0'⟩ := r2.pu 0 _ e0'
      obtain ⟨vx', si', dx'⟩ := r2.pu i _ ei'
      obtain ⟨vy', sj', dy'⟩ := r2.pu j _ ej'
      obtain rfl := dx'.int_inv
      obtain rfl := dy'.int_inv
      obtain ⟨a', dx', fs', kvs', rfl, g1, g2, g3, g4, g5, g6⟩ := memo_at r2 d0' lk mn
      refine ⟨.ref a', s0', a', C, dx', fs', .ref m, rfl, r2.bh _ _ g1, hc, na, g3, ?_⟩
      refine key2_run si' sj' fun p3 hp3 => ?_
      obtain ⟨r3, sB3⟩ := r2.key2 (xs := [.int x, .int y]) hp3
      have hm : m ≠ p3 := fun z => by subst z; rw [g4] at hp3; cases hp3
      have g4' : upd H2 p3 (.tup [.int x, .int y]) m = some (.dT kvs') := by rw [upd_ne hm]; exact g4
      intro kf2
      have kf2B : KFun K (upd B2 p3 (.tup [.int x, .int y])) := fun z o e => r3.bh.free (kf2 z o e)
      refine ⟨m, _, rfl, .inr ⟨kvs', [.inl x, .inl y], p3, g4', rfl, upd_same, g6.few, rfl⟩, ?_⟩
      have ok := (g6.mono sB3).put kf2B (g2.mono sB3) wf hk (dr.mono sB3) sp
      have r4 := r3.memo (sB3 _ _ g1) mn g3 ok g4'
      show tRet (tDGet (tFld K (tVar 0) f) (tTupK (tCons (tVar i) (tCons (tVar j) tNil)))) E σ1 _
      unfold tRet tDGet
      refine ⟨.ref a', s0', a', C, dx', fs', .ref m, rfl, r4.bh _ _ (sB3 _ _ g1), hc, na, g3, ?_⟩
      refine key2_run si' sj' fun p4 hp4 => ?_
      obtain ⟨r5, sB5⟩ := r4.key2 (xs := [.int x, .int y]) hp4
      have hm4 : m ≠ p4 := fun z => by subst z; rw [upd_same] at hp4; cases hp4
      refine ⟨m, v, rfl, .inr ⟨_, [.inl x, .inl y], p4, .inl (by rw [upd_ne hm4]; exact upd_same), rfl, upd_same, ?_⟩, ?_⟩
      · rw [valV_put, if_pos rfl]
      · exact sim.rt v d _ ρ2 σ1 _ r5 (((sB1.trans s1).trans s2).trans (sB3.trans sB5)) ((dr.mono sB3).mono sB5) hrt
end
end Dx
set_option synthInstance.maxSize 100000
set_option synthInstance.maxHeartbeats 4000000
set_option Elab.async false
set_option linter.all false
set_option maxRecDepth 100000
set_option maxHeartbeats 4000000
set_option autoImplicit false
/-! Ez10: tuples added; any of truths. -/
namespace Dx
open PySem PySem.Spec PyProof.Rows L2
theorem op_catTK {X : Cx} {K : PySem.W.Frag} (h : X.K = K := by rfl) : OpR X (binaryOp .Add) (rCatT K) := h ▸ op_catT
theorem cr_anyK {X : Cx} {K : PySem.W.Frag} (hc : X.calm = true) (h : X.K = K := by rfl) : CallR X (.builtin "any") (rAny K) := h ▸ cr_any hc
section
variable {K : PySem.W.Frag} {B : Hp}
instance ro_catT : RfO K (rCatT K) (fun x y Ψ => ∃ a b, x.tp = some a ∧ y.tp = some b ∧ a ≠ [] ∧ b ≠ [] ∧ a.length + b.length ≤ 100000 ∧ Ψ (.tup (a ++ b))) where
  run := fun B H x y dx dy Q Ψ s hx hy h po => by
    obtain ⟨a, b, ea, eb, na, nb, hl, h⟩ := h
    obtain ⟨p, xs, rfl, h1, h2⟩ := hx.tp_inv ea
    obtain ⟨q, ys, rfl, h3, h4⟩ := hy.tp_inv eb
    have nx : xs ≠ [] := fun z => by subst z; cases h2; exact na rfl
    have ny : ys ≠ [] := fun z => by subst z; cases h4; exact nb rfl
    refine ⟨p, q, xs, ys, rfl, rfl, Same.sqT s h1, Same.sqT s h3, nx, by rw [h2.length, h4.length]; exact szl hl, fun z => absurd z ny, fun _ l hl => ?_⟩
    have al := Al.new (K := K) (o := .tup (xs ++ ys)) s.s hl
    exact po _ _ _ _ al (Same.up2 s) (.tup (.inl (.inl upd_same)) ((h2.append h4).mono al.b)) h
instance rc_any : RfC K (rAny K) (fun ds Ψ => ∃ d bs, ds = [d] ∧ d.seq = some (Dx.bls bs) ∧ Ψ (.bl (bs.any id))) where
  run := fun B H xs ds Q Ψ s da h po => by
    obtain ⟨d, bs, rfl, e, h⟩ := h
    obtain ⟨v, rfl, h1⟩ := da.one
    obtain ⟨a, ys, rfl, h2, h3⟩ := h1.seq_inv e
    rw [h3.bls] at h2
    exact ⟨a, bs, rfl, s.seq h2, po _ _ _ _ (Al.refl (K := K) B H) s (.bl _) h⟩
end
end Dx
set_option Elab.async false
set_option linter.all false
set_option maxRecDepth 100000
set_option maxHeartbeats 4000000
set_option autoImplicit false
/-! Ez11: calls with keywords and with defaults, over data, of defs that tell data. -/
namespace Dx
open PySem PySem.Spec PyProof.Rows L2
section
variable {K : PySem.W.Frag} {W : WX} {Γ : Ga} {B B' : Hp} {ρ : Ab} {σ : L2.St} {H H' : Hp}
theorem callD_pus {n : Nat} {P : Pm} {Q : VK} {E : XK} {Φ : D → Ab → Prop} {vs : List V} {ds : List D} (r : Rl K Γ B ρ σ H) (h : ArsOk K B ρ σ vs (ds.map .pu)) (hn : ds.length = n) (hp : P (pus ds) X0 fun d _ => Φ d ρ) (po : PoE K Γ B σ Q Φ) : spD K n P vs H Q E :=
  call_sp (Ξ := X0) r h (by rw [List.length_map]; exact hn) (by rw [slots_pus]; exact List.nodup_nil) (by rw [map_slOf]; simpa only [back_pus] using hp) (fun _ _ _ _ _ _ _ _ _ z => z.elim) po
def pCallND (n m : Nat) (P : Pm) (pa pk : PAx) : PEx := fun ρ Ξ Φ => pa ρ Ξ fun as ρ1 => pk ρ1 Ξ fun bs ρ2 => ∃ ds es, as = ds.map .pu ∧ bs = es.map .pu ∧ ds.length = n ∧ es.length = m ∧ P (pus (ds ++ es)) X0 fun d _ => Φ d ρ2
instance rfe_callN {n m k : Nat} {P : Pm} {ta tk : TA} {pa pk : PAx} [ha : RfA K W ta pa] [hk : RfA K W tk pk] : RfE K W (tCallN n m (spD K k P) (fun vs zs => vs ++ zs) (fun _ _ _ => False) ta tk) (fun ρ Ξ Φ => k = n + m ∧ pCallND n m P pa pk ρ Ξ Φ) where
  run := fun Γ B ρ σ H Q Ξ Φ r xo h po => ha.run Γ B ρ σ H _ Ξ _ r xo h.2 fun vs as B1 H1 ρ1 r1 s1 aso hq => hk.run Γ B1 ρ1 σ H1 _ Ξ _ r1 (xo.mono s1) hq fun zs bs B2 H2 ρ2 r2 s2 bso hq2 => by
    obtain ⟨ds, es, rfl, rfl, h1, h2, hq2⟩ := hq2
    have d1 : DrA K B1 vs ds := aso.pure
    have d2 : DrA K B2 zs es := bso.pure
    refine ⟨by rw [d1.length]; exact h1, by rw [d2.length]; exact h2, ?_⟩
    exact callD_pus r2 (ArsOk.ofPure ((d1.mono s2).append d2)) (by rw [List.length_append, h1, h2]; exact h.1.symm) hq2 (po.mono (s1.trans s2))
/-- the last parameter's default is None -/
instance rfe_callD {n : Nat} {P : Pm} {ta : TA} {pa : PAx} [ha : RfA K W ta pa] : RfE K W (tCall (spD K n P) [.non] (fun _ _ _ => False) ta) (fun ρ Ξ Φ => pa ρ Ξ fun as ρ1 => ∃ ds, as = ds.map .pu ∧ ds.length + 1 = n ∧ P (pus (ds ++ [.non])) X0 fun d _ => Φ d ρ1) where
  run := fun Γ B ρ σ H Q Ξ Φ r xo h po => ha.run Γ B ρ σ H _ Ξ _ r xo h fun vs as B1 H1 ρ1 r1 s1 aso hq => by
    obtain ⟨ds, rfl, h1, hq⟩ := hq
    have d1 : DrA K B1 vs ds := aso.pure
    exact callD_pus r1 (ArsOk.ofPure (d1.append (.cons .non .nil))) (by rw [List.length_append]; exact h1) hq (po.mono s1)
end
end Dx
set_option synthInstance.maxSize 100000
set_option synthInstance.maxHeartbeats 4000000
set_option Elab.async false
set_option linter.all false
set_option maxRecDepth 100000
set_option maxHeartbeats 4000000
set_option autoImplicit false
/-! Ez12: dict(..) of a list of pairs. -/
namespace Dx
open PySem PySem.Spec PyProof.Rows L2
def rDictP (K : PySem.W.Frag) : List V → Hp → VK → Prop := fun xs H Q => ∃ (a : Addr) (ps : List Addr) (kvs : List (Key × V)), xs = [.ref a] ∧ SqL K H a (ps.map V.ref) ∧ Paired (fun p kv => SqT K H p [kV kv.1, kv.2]) ps kvs ∧ ∀ p, H p = none → Q (.ref p) (upd H p (.dK (mergeK [] kvs)))
theorem call_dictK {X : Cx} {K : PySem.W.Frag} (hc : X.calm = true) (h : X.K = K := by rfl) : CallR X (.type "dict") (rDictP K) := h ▸ call_dictP hc
def prD (d : D) : Option (Key × D) := match d.tp with
  | some [x, y] => x.key.map fun k => (k, y)
  | _ => none
def prsD : List D → Option (List (Key × D))
  | [] => some []
  | d :: ds => match prD d, prsD ds with
    | some p, some ps => some (p :: ps)
    | _, _ => none
section
variable {K : PySem.W.Frag} {W : WX} {Γ : Ga} {B B' : Hp} {ρ : Ab} {σ : L2.St} {H H' : Hp}
theorem prD_of {v : V} {d : D} {k : Key} {y : D} (h : Dr K B v d) (e : prD d = some (k, y)) : ∃ p u, v = .ref p ∧ SqT K B p [kV k, u] ∧ Dr K B u y := by
  unfold prD at e
  split at e
  · rename_i x y' et
    obtain ⟨k', ek, e2⟩ := Option.map_eq_some_iff.mp e
    cases e2
    obtain ⟨a, xs, rfl, h1, h2⟩ := h.tp_inv et
    cases h2 with
    | cons g1 g2 =>
      cases g2 with
      | cons g3 g4 =>
        cases g4
        have z := g1.key_inv ek
        subst z
        exact ⟨a, _, rfl, h1, g3⟩
  · cases e
theorem prsD_of : ∀ {xs : List V} {ds : List D} {kes : List (Key × D)}, DrA K B xs ds → prsD ds = some kes → ∃ (ps : List Addr) (kvs : List (Key × V)), xs = ps.map V.ref ∧ Paired (fun p kv => SqT K B p [kV kv.1, kv.2]) ps kvs ∧ DrK K B kvs kes
  | xs, [], kes, h, e => by
    cases h
    cases e
    exact ⟨[], [], rfl, .nil, .nil⟩
  | xs, d :: ds, kes, h, e => by
    cases h with
    | cons h1 h2 =>
      unfold prsD at e
      split at e
      · rename_i p ps e1 e2
        cases e
        obtain ⟨k, y⟩ := p
        obtain ⟨a, u, rfl, g1, g2⟩ := prD_of h1 e1
        obtain ⟨qs, kvs, rfl, g3, g4⟩ := prsD_of h2 e2
        exact ⟨a :: qs, (k, u) :: kvs, rfl, .cons g1 g3, .cons g2 g4⟩
      · cases e
def pDictF (pa : PAx) : PFx := fun ρ Ξ Φ => pa ρ Ξ fun as ρ1 => ∃ ds, as = ds.map .pu ∧ ∃ d es kes, ds = [d] ∧ d.seq = some es ∧ prsD es = some kes ∧ Φ (.dK (mergeKD [] kes)) ρ1
instance rff_dictOf {ta : TA} {pa : PAx} [ha : RfA K W ta pa] : RfF K W (tCB (rDictP K) ta) (pDictF pa) where
  run := fun Γ B ρ σ H Q Ξ Φ r xo h po => ha.run Γ B ρ σ H _ Ξ _ r xo h fun vs as B1 H1 ρ1 r1 s1 aso hq => by
    obtain ⟨ds, rfl, d, es, kes, rfl, e, ek, hq⟩ := hq
    obtain ⟨v, rfl, h1⟩ := (ArsOk.pure (ds := [d]) aso).one
    obtain ⟨a, xs, rfl, h2, h3⟩ := h1.seq_inv e
    obtain ⟨ps, kvs, rfl, h4, h5⟩ := prsD_of h3 ek
    exact ⟨a, ps, kvs, rfl, r1.bh.seq h2, L2.Paired.mapP h4 fun _ _ z => Same.sqT r1.bh z, fun p hp => po.new r1 s1 hp (.dK (h5.merge .nil)) hq⟩
end
end Dx
set_option synthInstance.maxSize 100000
set_option synthInstance.maxHeartbeats 4000000
set_option Elab.async false
set_option linter.all false
set_option maxRecDepth 100000
set_option maxHeartbeats 4000000
set_option autoImplicit false
namespace K06
open PySem L2 Dx Kd
theorem ext_rest {n : Nat} {ns : List Int} {k : Nat} (hk : k < ns.length + 2) : (extOf n ns).getD (k + 1) 0 = (restsOf n ns).getD k 0 := by
  have rl : (restsOf n ns).length = ns.length + 2 := by unfold restsOf; simp
  unfold extOf
  rw [List.getD_cons_succ, List.getD_eq_getElem?_getD, List.getD_eq_getElem?_getD, List.getElem?_append_left (by omega)]
/-- rows of rests and what lies there -/
def rowsD (rs : List Int) (f : Int → Rat) : List D := rs.map fun r => .tup [.int r, frD (f r)]
def lieQ (L : Int) (xs : List D) (ws : List (Rat × Rat)) (ns : List Int) (r : Int) : Rat := laidK L xs ws ns ((restsOf xs.length ns).idxOf r)
theorem idx_at : ∀ {l : List Int} {k : Nat}, l.Nodup → k < l.length → l.idxOf (l.getD k 0) = k
  | x :: l, 0, _, _ => by
    show (x :: l).idxOf x = 0
    exact List.idxOf_cons_self
  | x :: l, k + 1, nd, h => by
    obtain ⟨n1, n2⟩ := List.nodup_cons.mp nd
    have hk : k < l.length := by
      rw [List.length_cons] at h
      omega
    rw [List.getD_cons_succ, List.idxOf_cons]
    have ne : x ≠ l.getD k 0 := fun e => n1 (by
      rw [e, getD_at hk]
      exact List.getElem_mem _)
    rw [show (x == l.getD k 0) = false from beq_eq_false_iff_ne.mpr ne, idx_at n2 hk]
    rfl
theorem rests_nodup {n : Nat} {ns : List Int} (h : LotOk n ns) : (restsOf n ns).Nodup := by
  refine List.Pairwise.imp (fun h => ?_) (rests_rise h).1
  omega
theorem brn_rowsD {L : Int} {xs : List D} {ws : List (Rat × Rat)} {ns : List Int} (hn : LotOk xs.length ns) : brnD L xs ws ns = rowsD (restsOf xs.length ns) (lieQ L xs ws ns) := by
  have rl : (restsOf xs.length ns).length = ns.length + 2 := by unfold restsOf; simp
  unfold brnD rowsD
  refine List.ext_getElem (by rw [List.length_map, List.length_map, List.length_range, rl]) fun k h1 h2 => ?_
  rw [List.length_map, List.length_range] at h1
  rw [List.getElem_map, List.getElem_map, List.getElem_range, ext_rest h1]
  unfold lieQ
  rw [← getD_at (show k < (restsOf xs.length ns).length by omega), idx_at (rests_nodup hn) (by omega)]
def wLNoLess : Pm := fun ρ Ξ Φ => ∃ (rs rs' : List Int) (f f' : Int → Rat), ρ = pus [.lst (rowsD rs f), .lst (rowsD rs' f')] ∧ rs.length ≤ 100 ∧ (∀ r ∈ rs, r ∈ rs' ∧ f' r ≤ f r ∧ Bt 2000 2000 (f r) ∧ Bt 2000 2000 (f' r)) ∧ ∀ ρ', Φ (.bl true) ρ'
theorem prs_rows {f : Int → Rat} : ∀ rs : List Int, prsD (rowsD rs f) = some (rs.map fun r => (Sum.inl r, frD (f r)))
  | [] => rfl
  | r :: rs => by
    show prsD (.tup [.int r, frD (f r)] :: rowsD rs f) = _
    unfold prsD
    rw [prs_rows rs]
    rfl
theorem merge_rows {f : Int → Rat} : ∀ (rs : List Int) {es : List (Key × D)} {P : Int → Prop}, KOk es (fun r d => d = frD (f r)) P → KOk (mergeKD es (rs.map fun r => (Sum.inl r, frD (f r)))) (fun r d => d = frD (f r)) (fun x => P x ∨ x ∈ rs)
  | [], es, P, h => h.congr fun x => by simp
  | r :: rs, es, P, h => by
    show KOk (mergeKD (putKD es (.inl r) (frD (f r))) (rs.map fun r => (Sum.inl r, frD (f r)))) _ _
    refine (merge_rows rs (h.put (P' := fun x => P x ∨ x = r) rfl fun x => Iff.rfl)).congr fun x => ?_
    rw [List.mem_cons, or_assoc]
theorem known_at {f : Int → Rat} {rs : List Int} {r : Int} (h : r ∈ rs) : valD (mergeKD [] (rs.map fun r => (Sum.inl r, frD (f r)))) (.inl r) = some (frD (f r)) := by
  obtain ⟨d, e1, e2⟩ := (merge_rows (f := f) rs (KOk.nil (P := fun _ => False) fun _ h => h)).2 r (.inr h)
  rw [e1, e2]
section
variable {P : Program} {w : World} {K : PySem.W.Frag} {mg : Str → Option Value} {a : Nat → Addr} {fd : Nat → FuncData} {tk : Nat → Tok} {base : Heap}
theorem ok_law_no_less (T : Txt K mg a fd tk) : FnOk P w K mg base CX0 2 (a 75) (fd 75) ["_law_fewer", "_law_more"] (spD K 2 wLNoLess) := by
  refine ok0 T.F_law_no_less sc_law_no_less (fun _ _ _ h => h) fun cdv A outer s H E hr => ?_
  refine ⟨_, (pss_cons (ps_set (i := 2) sc_law_no_less.nd rfl (by first | exact Or.inl rfl | exact Or.inr rfl) (pe_callTy (call_dictK (K := K) rfl) rfl T.n_dict (by decide +kernel) (pa_cons (pv 1) pa_nil)))
      (pss_one (ps_ret (pe_not (pe_callB (cr_anyK (K := K) rfl) rfl T.n_any (by decide +kernel) (pa_cons (pe_lc (own := [("_law_rest", 3), ("_law_much", 4)]) (g := (gTup K 2 (gCons (gName 3) (gCons (gName 4) gNil)))) (by rfl) sc_law_no_less.nd (pi_list (pv 0)) (blkOk_by (own := [("_law_rest", 3), ("_law_much", 4)]) (N := N_law_no_less) (sc := defScope s_law_no_less) (by decide +kernel)) (fun _ _ _ _ _ => (pg_tup rfl (pgs_cons (pg_name (i := 3) sc_law_no_less.nd rfl (by first | exact Or.inl rfl | exact Or.inr rfl)) (pgs_cons (pg_name (i := 4) sc_law_no_less.nd rfl (by first | exact Or.inl rfl | exact Or.inr rfl)) pgs_nil)))) (fun _ _ _ _ _ => pts_nil) (fun _ _ _ _ _ => (pe_call (ok_law_below T) (hr.mono (by decide)) rfl T.n_law_below T.F_law_below.kp T.b_law_below .nil pass0 (pa_cons (pv 4) (pa_cons (pe_dget (hu_of hr) (pv 2) (pv 3) (fun _ _ => rfl)) pa_nil))))) pa_nil)))))), ?_⟩
  try dsimp only [cxOf, List.map, List.length_cons, List.length_nil]
  refine ⟨_, inferInstance, ?_⟩
  rintro ρ Ξ Φ ⟨rs, rs', f, f', rfl, hl, h, k⟩
  refine ⟨_, rfl, trivial, [_], rfl, _, _, _, rfl, rfl, prs_rows rs', .inl ?_⟩
  try simp only [pwipe1, pwipe2, back_hd, back_pu2, back_pu1, List.set_cons_succ, List.set_cons_zero]
  refine ⟨_, rfl, rowsD rs f, rfl, fun j acc ρ => acc = bls (List.replicate j false) ∧ ρ = [some (.pu (.lst (rowsD rs f))), some (.pu (.lst (rowsD rs' f'))), some (.pu (.dic (mergeKD [] (rs'.map fun r => (Sum.inl r, frD (f' r)))))), none, none], ⟨rfl, rfl⟩, ?_, ?_⟩
  · rintro j e acc ρ hj ⟨ea, rfl⟩
    have jl := (List.getElem?_eq_some_iff.mp hj).1
    unfold rowsD at hj jl
    rw [List.length_map] at jl
    rw [List.getElem?_map] at hj
    obtain ⟨r, hr, rfl⟩ := Option.map_eq_some_iff.mp hj
    obtain ⟨h1, h2, h3, h4⟩ := h r (List.mem_of_getElem? hr)
    refine ⟨[.int r, frD (f r)], rfl, rfl, _, _, rfl, _, _, rfl, rfl, ?_⟩
    try simp only [pwipe1, pwipe2, back_hd, back_pu2, back_pu1, List.set_cons_succ, List.set_cons_zero]
    refine ⟨_, rfl, _, rfl, _, rfl, _, .inl r, _, rfl, rfl, known_at h1, trivial, trivial, rfl, List.nodup_nil, [_, _], rfl, ⟨f r, f' r, rfl, h3, h4⟩, fun y ρ' hy => ?_⟩
    rw [hy (f r) (f' r) rfl, decide_eq_false (Rat.not_lt.mpr h2)]
    refine ⟨?_, ?_, rfl⟩
    · rw [ea]
      unfold bls
      rw [List.length_map, List.length_replicate]
      omega
    · rw [ea, List.replicate_succ']
      unfold bls
      rw [List.map_append]
      rfl
  · rintro acc ρ ⟨ea, rfl⟩
    subst ea
    refine ⟨trivial, [.lst _], rfl, _, _, rfl, rfl, ?_⟩
    refine ⟨_, rfl, ?_⟩
    have e : (List.replicate (rowsD rs f).length false).any id = false := by
      rw [List.any_eq_false]
      intro x hx
      rw [(List.mem_replicate.mp hx).2]
      decide
    rw [e]
    exact k _

end
end K06
set_option synthInstance.maxSize 100000
set_option synthInstance.maxHeartbeats 4000000
set_option Elab.async false
set_option linter.all false
set_option maxRecDepth 100000
set_option maxHeartbeats 4000000
set_option autoImplicit false
namespace K06
open PySem L2 Dx Kd
theorem MOk.pk {L : Int} {xs : List D} {b : D} (h : MOk (.int L) xs b) : Pk L xs := by
  obtain ⟨n, e, n1, n2⟩ := Kd.MOk.len h
  cases e
  exact ⟨n1, n2, h.2.1, h.2.2.1⟩
theorem sum_btG {n m : Nat} {qs : List Rat} (hb : ∀ q ∈ qs, Bt n m q) : ∀ i, i ≤ qs.length → Bt (n + 1 + (m + 1) * i) (m * i + 1) (sumQ (qs.take i))
  | 0, _ => by
    show Bt (n + 1) 1 0
    exact ⟨by show 0 < 2 ^ (n + 1); exact Nat.pow_pos (by decide), by show (1 : Nat) < 2 ^ 1; decide⟩
  | i + 1, hi => by
    have h : qs[i]? = some qs[i] := List.getElem?_eq_getElem (by omega)
    rw [← sumQ_next h]
    have e1 : (m + 1) * (i + 1) = (m + 1) * i + (m + 1) := Nat.mul_succ _ _
    have e2 : m * (i + 1) = m * i + m := Nat.mul_succ _ _
    have e3 : (m + 1) * i = m * i + i := Nat.succ_mul _ _
    refine ((sum_btG hb i (by omega)).add (hb _ (List.getElem_mem (by omega)))).mono ?_ ?_
    · rw [e1]
      rcases Nat.le_total (n + 1 + (m + 1) * i + m) (n + (m * i + 1)) with h | h
      · rw [Nat.max_eq_right h]; omega
      · rw [Nat.max_eq_left h]; omega
    · rw [e2]; omega
theorem lb_bt {L : Int} {l u : Int} {q : Rat} {z : Rat × Rat} (h0 : 0 ≤ l) (h : l < u) (h1 : u ≤ 1000) (hq : Bt 30 20 q) (hz : WtOk L z) : Bt 110 85 (lbT l u q z) := by
  have bl : Bt 11 1 (l : Rat) := int_bt (by omega)
  have bu : Bt 11 1 (u : Rat) := int_bt (by omega)
  have iv : Bt 1 11 (Rat.divInt 1 (u - l)) := inv_bt (by omega) (by omega)
  have bx := hz.2.2.1.1
  have bw := hz.2.2.1.2
  have z0 : Bt 110 85 0 := ⟨by decide, by decide⟩
  unfold lbT
  split
  · split
    · split
      · exact ((bw.mul ((hq.sub bl).mul (bu.sub bx))).mul iv).mono (by decide) (by decide)
      · exact ((bw.mul ((bx.sub bl).mul (bu.sub hq))).mul iv).mono (by decide) (by decide)
    · exact z0
  · exact z0
theorem bend_bt {L : Int} {ws : List (Rat × Rat)} {l u : Int} {q : Rat} (hw : ws.length ≤ 16) (hz : ∀ z ∈ ws, WtOk L z) (h0 : 0 ≤ l) (h : l < u) (h1 : u ≤ 1000) (hq : Bt 30 20 q) : Bt 2000 2000 (sumQ (ws.map (lbT l u q))) := by
  have sb := sum_btG (n := 110) (m := 85) (qs := ws.map (lbT l u q)) (fun y hy => by
    obtain ⟨z', hz', rfl⟩ := List.mem_map.mp hy
    exact lb_bt h0 h h1 hq (hz z' hz')) ws.length (by rw [List.length_map]; exact Nat.le_refl _)
  rw [show ws.length = (ws.map (lbT l u q)).length from by rw [List.length_map], List.take_length, List.length_map] at sb
  exact sb.mono (by omega) (by omega)
theorem great_pl {ws : List (Rat × Rat)} {l u : Int} : (greatQ ws l u).2 = (l : Rat) ∨ ∃ z ∈ ws, (greatQ ws l u).2 = z.1 := by
  unfold greatQ gfold
  suffices h : ∀ (xs : List Rat) (s : Rat × Rat), (s.2 = (l : Rat) ∨ ∃ z ∈ ws, s.2 = z.1) → (∀ x ∈ xs, ∃ z ∈ ws, x = z.1) → ((xs.foldl (gstep ws l u) s).2 = (l : Rat) ∨ ∃ z ∈ ws, (xs.foldl (gstep ws l u) s).2 = z.1) from
    h _ _ (.inl rfl) fun x hx => by
      obtain ⟨z, hz, rfl⟩ := List.mem_map.mp hx
      exact ⟨z, hz, rfl⟩
  intro xs
  induction xs with
  | nil => intro s h _; exact h
  | cons x xs ih =>
    intro s h hx
    refine ih _ ?_ fun y hy => hx y (List.mem_cons_of_mem _ hy)
    have g := hx x List.mem_cons_self
    unfold gstep
    split
    · split
      · split
        · exact .inr g
        · split
          · exact h
          · split
            · exact .inr g
            · exact h
      · exact h
    · exact h
theorem great_bt {L : Int} {ws : List (Rat × Rat)} {l u : Int} (hw : ws.length ≤ 16) (hz : ∀ z ∈ ws, WtOk L z) (h0 : 0 ≤ l) (h : l < u) (h1 : u ≤ 1000) : Bt 2000 2000 (greatQ ws l u).1 := by
  obtain ⟨g1, g2⟩ := great_in (ws := ws) h
  rw [← great_at, bend_sum h g1 g2]
  refine bend_bt hw hz h0 h h1 ?_
  rcases great_pl (ws := ws) (l := l) (u := u) with e | ⟨z, hm, e⟩
  · rw [e]
    exact (int_bt (n := 11) (by omega)).mono (by decide) (by decide)
  · rw [e]
    exact (hz z hm).2.2.1.1
/-- a board as the law tells it -/
def dueD (L : Int) (xs : List D) (ws : List (Rat × Rat)) (ns : List Int) (k : Nat) : D := .tup [.int (rgO xs.length ns k), .int (rgO xs.length ns (k + 1)), frD (greatQ ws (pE L xs (rgO xs.length ns k)) (pE L xs (rgO xs.length ns (k + 1)))).1, trkD (greatQ ws (pE L xs (rgO xs.length ns k)) (pE L xs (rgO xs.length ns (k + 1)))).2]
theorem brds_due {L : Int} {xs : List D} {ws : List (Rat × Rat)} {ns : List Int} : brdsD L xs ws ns = (List.range (ns.length + 1)).map (dueD L xs ws ns) := by
  unfold brdsD
  refine List.map_congr_left fun k _ => ?_
  unfold boardD dueD
  rw [great_at]
theorem rg_le {n : Nat} {ns : List Int} (h : LotOk n ns) {i j : Nat} (hij : i ≤ j) (hj : j < ns.length + 2) : rgO n ns i ≤ rgO n ns j := by
  rcases Nat.eq_or_lt_of_le hij with e | e
  · rw [e]
    exact Int.le_refl _
  · obtain ⟨h1, h2⟩ := rests_rise h
    have l0 : i < (restsOf n ns).length := by rw [rests_len]; omega
    have l1 : j < (restsOf n ns).length := by rw [rests_len]; omega
    unfold rgO
    rw [getD_at l0, getD_at l1]
    exact Int.le_of_lt (List.pairwise_iff_getElem.mp h1 _ _ _ _ e)
theorem pE_le {L : Int} {xs : List D} (hp : Pk L xs) {i j : Int} (h0 : -2 ≤ i) (h1 : i ≤ j) (h2 : j ≤ xs.length + 1) : pE L xs i ≤ pE L xs j := by
  rcases Int.lt_or_eq_of_le h1 with e | e
  · exact Int.le_of_lt (pE_lt hp h0 e h2)
  · rw [e]
    exact Int.le_refl _
theorem rest_in {n : Nat} {ns ms : List Int} (h : ∀ r ∈ ns, r ∈ ms) {r : Int} (hr : r ∈ restsOf n ns) : r ∈ restsOf n ms := by
  unfold restsOf at hr ⊢
  rcases List.mem_cons.mp hr with rfl | hr
  · exact List.mem_cons_self
  · refine List.mem_cons_of_mem _ (List.mem_append.mpr ?_)
    rcases List.mem_append.mp hr with hr | hr
    · exact .inl (h r hr)
    · exact .inr hr
theorem rg_in {n : Nat} {ns : List Int} {k : Nat} (h : k < ns.length + 2) : rgO n ns k ∈ restsOf n ns := by
  rw [← rests_len (n := n)] at h
  unfold rgO
  rw [getD_at h]
  exact List.getElem_mem h
theorem rg_find {n : Nat} {ns : List Int} {r : Int} (h : r ∈ restsOf n ns) : ∃ j, j < ns.length + 2 ∧ rgO n ns j = r := by
  obtain ⟨j, hj, e⟩ := List.mem_iff_getElem.mp h
  refine ⟨j, by rw [rests_len] at hj; exact hj, ?_⟩
  unfold rgO
  rw [getD_at hj]
  exact e
theorem rg_slt {n : Nat} {ns : List Int} (h : LotOk n ns) {i j : Nat} (hij : i < j) (hj : j < ns.length + 2) : rgO n ns i < rgO n ns j := by
  obtain ⟨h1, h2⟩ := rests_rise h
  have l0 : i < (restsOf n ns).length := by rw [rests_len]; omega
  have l1 : j < (restsOf n ns).length := by rw [rests_len]; omega
  unfold rgO
  rw [getD_at l0, getD_at l1]
  exact List.pairwise_iff_getElem.mp h1 _ _ _ _ hij
theorem rg_first {n : Nat} {ns : List Int} : rgO n ns 0 = -1 := rfl
theorem rg_bd {n : Nat} {ns : List Int} (h : LotOk n ns) {k : Nat} (hk : k < ns.length + 2) : -1 ≤ rgO n ns k ∧ rgO n ns k ≤ n := (rests_rise h).2 _ (rg_in hk)
theorem notB_le {L : Int} {xs : List D} {ns : List Int} {q : Rat} {k : Nat} (h : notB L xs ns q k = true) : q ≤ ((pE L xs (rgO xs.length ns (k + 1)) : Int) : Rat) := by
  unfold notB at h
  have : decide (((pE L xs (rgO xs.length ns (k + 1)) : Int) : Rat) < q) = false := by
    cases h' : decide (((pE L xs (rgO xs.length ns (k + 1)) : Int) : Rat) < q) with
    | false => rfl
    | true => rw [h'] at h; cases h
  exact Rat.not_lt.mp (of_decide_eq_false this)
theorem notB_lt {L : Int} {xs : List D} {ns : List Int} {q : Rat} {k : Nat} (h : notB L xs ns q k = false) : ((pE L xs (rgO xs.length ns (k + 1)) : Int) : Rat) < q := by
  unfold notB at h
  have : decide (((pE L xs (rgO xs.length ns (k + 1)) : Int) : Rat) < q) = true := by
    cases h' : decide (((pE L xs (rgO xs.length ns (k + 1)) : Int) : Rat) < q) with
    | true => rfl
    | false => rw [h'] at h; cases h
  exact of_decide_eq_true this
theorem pE_first {L : Int} {xs : List D} : pE L xs (-1) = 0 := rfl
/-- the first board whose right end is not ahead of a place: it is there -/
theorem board_in {L : Int} {xs : List D} {ns : List Int} {q : Rat} {k : Nat} (q0 : 0 ≤ q) (h1 : notB L xs ns q k = true) (h2 : ∀ i, i < k → notB L xs ns q i = false) : ((pE L xs (rgO xs.length ns k) : Int) : Rat) ≤ q ∧ q ≤ ((pE L xs (rgO xs.length ns (k + 1)) : Int) : Rat) := by
  refine ⟨?_, notB_le h1⟩
  cases k with
  | zero =>
    rw [rg_first, pE_first]
    exact q0
  | succ k => exact Rat.le_of_lt (notB_lt (h2 k (by omega)))
/-- the board of a greater lot lies within that of a lesser one -/
theorem board_within {L : Int} {xs : List D} {ns ms : List Int} {q : Rat} {k j : Nat} (hp : Pk L xs) (hn : LotOk xs.length ns) (hm : LotOk xs.length ms) (sub : ∀ r ∈ ns, r ∈ ms) (hk : k < ns.length + 1) (hj : j < ms.length + 1)
    (h1 : notB L xs ns q k = true) (h2 : ∀ i, i < k → notB L xs ns q i = false) (g1 : notB L xs ms q j = true) (g2 : ∀ i, i < j → notB L xs ms q i = false) :
    rgO xs.length ns k ≤ rgO xs.length ms j ∧ rgO xs.length ms (j + 1) ≤ rgO xs.length ns (k + 1) := by
  constructor
  · cases k with
    | zero =>
      rw [rg_first]
      exact (rg_bd hm (by omega)).1
    | succ k =>
      obtain ⟨i, hi, e⟩ := rg_find (rest_in sub (rg_in (n := xs.length) (ns := ns) (k := k + 1) (by omega)))
      have lt := notB_lt (h2 k (by omega))
      rw [← e] at lt ⊢
      rcases Nat.lt_or_ge j i with c | c
      · exfalso
        have le := notB_le g1
        have m := rg_le hm (show j + 1 ≤ i by omega) hi
        have b1 := rg_bd hm (show j + 1 < ms.length + 2 by omega)
        have b2 := rg_bd hm hi
        have m2 : ((pE L xs (rgO xs.length ms (j + 1)) : Int) : Rat) ≤ ((pE L xs (rgO xs.length ms i) : Int) : Rat) := by
          have := pE_le hp (by omega : -2 ≤ rgO xs.length ms (j + 1)) m (by omega)
          exact_mod_cast this
        grind
      · exact rg_le hm c (by omega)
  · obtain ⟨i, hi, e⟩ := rg_find (rest_in sub (rg_in (n := xs.length) (ns := ns) (k := k + 1) (by omega)))
    have le := notB_le h1
    rw [← e] at le ⊢
    have p1 := rg_slt hn (show 0 < k + 1 by omega) (by omega)
    rw [rg_first, ← e] at p1
    rcases Nat.lt_or_ge j i with c | c
    · exact rg_le hm (show j + 1 ≤ i by omega) hi
    · exfalso
      cases i with
      | zero =>
        rw [rg_first] at p1
        omega
      | succ i =>
        have := notB_lt (g2 i (by omega))
        grind
/-- no place is bent less while the lesser lot stands -/
theorem bend_lesser {L : Int} {xs : List D} {ws : List (Rat × Rat)} {ns ms : List Int} {q : Rat} {k j : Nat} (hp : Pk L xs) (hz : ∀ z ∈ ws, 0 ≤ z.2) (hn : LotOk xs.length ns) (hm : LotOk xs.length ms) (sub : ∀ r ∈ ns, r ∈ ms) (hk : k < ns.length + 1) (hj : j < ms.length + 1) (q0 : 0 ≤ q)
    (h1 : notB L xs ns q k = true) (h2 : ∀ i, i < k → notB L xs ns q i = false) (g1 : notB L xs ms q j = true) (g2 : ∀ i, i < j → notB L xs ms q i = false) :
    bendQ ws (pE L xs (rgO xs.length ms j)) (pE L xs (rgO xs.length ms (j + 1))) q ≤ bendQ ws (pE L xs (rgO xs.length ns k)) (pE L xs (rgO xs.length ns (k + 1))) q := by
  obtain ⟨w1, w2⟩ := board_within hp hn hm sub hk hj h1 h2 g1 g2
  obtain ⟨i1, i2⟩ := board_in q0 g1 g2
  have a1 := rg_bd hn (show k < ns.length + 2 by omega)
  have a2 := rg_bd hn (show k + 1 < ns.length + 2 by omega)
  have b1 := rg_bd hm (show j < ms.length + 2 by omega)
  have b2 := rg_bd hm (show j + 1 < ms.length + 2 by omega)
  exact bend_mono hz (pE_le hp (by omega) w1 (by omega)) (pE_lt hp (by omega) (rg_slt hm (by omega) (by omega)) (by omega)) (pE_le hp (by omega) w2 (by omega)) i1 i2
theorem bend_btB {L : Int} {xs : List D} {ws : List (Rat × Rat)} {ns : List Int} {q : Rat} {k : Nat} (hp : Pk L xs) (hw : ws.length ≤ 16) (hz : ∀ z ∈ ws, WtOk L z) (hn : LotOk xs.length ns) (hk : k < ns.length + 1) (bq : Bt 30 20 q) (q0 : 0 ≤ q) (h1 : notB L xs ns q k = true) (h2 : ∀ i, i < k → notB L xs ns q i = false) :
    Bt 2000 2000 (bendQ ws (pE L xs (rgO xs.length ns k)) (pE L xs (rgO xs.length ns (k + 1))) q) := by
  obtain ⟨i1, i2⟩ := board_in q0 h1 h2
  obtain ⟨g1, g2, g3⟩ := rg_lt hn hk
  obtain ⟨L0, L1, hpr, h12⟩ := id hp
  have lu := pE_lt hp (by omega) g2 (by omega)
  rw [bend_sum lu i1 i2]
  refine bend_bt hw hz ?_ lu ?_ bq
  · rw [pE_in (by omega) (by omega)]
    exact plc_ge hpr (by omega) g1 (by omega)
  · rw [pE_in (by omega) (by omega)]
    have := plc_le hpr (by omega) (i := rgO xs.length ns (k + 1)) (by omega) g3
    omega
theorem great_btB {L : Int} {xs : List D} {ws : List (Rat × Rat)} {ns : List Int} {k : Nat} (hp : Pk L xs) (hw : ws.length ≤ 16) (hz : ∀ z ∈ ws, WtOk L z) (hn : LotOk xs.length ns) (hk : k < ns.length + 1) : Bt 2000 2000 (greatQ ws (pE L xs (rgO xs.length ns k)) (pE L xs (rgO xs.length ns (k + 1)))).1 := by
  obtain ⟨g1, g2, g3⟩ := rg_lt hn hk
  obtain ⟨L0, L1, hpr, h12⟩ := id hp
  refine great_bt hw hz ?_ (pE_lt hp (by omega) g2 (by omega)) ?_
  · rw [pE_in (by omega) (by omega)]
    exact plc_ge hpr (by omega) g1 (by omega)
  · rw [pE_in (by omega) (by omega)]
    have := plc_le hpr (by omega) (i := rgO xs.length ns (k + 1)) (by omega) g3
    omega
theorem pl_div7 {r : Int} (h0 : 0 ≤ r) (h1 : r ≤ 7000) : PlOk (Rat.divInt r 7) ∧ Bt 30 20 (Rat.divInt r 7) := by
  have b := divInt_bt (t := r) (b := 7) (n := 13) (m := 3) (by decide) (by omega) (by decide)
  refine ⟨⟨?_, ?_, ?_⟩, b.mono (by decide) (by decide)⟩
  · have := b.1
    omega
  · have := b.1
    omega
  · have := b.2
    omega
def wLBR (C : Addr) : Pm := fun ρ Ξ Φ => ∃ (t : List D) (L : Int) (xs : List D) (b : D) (ws : List (Rat × Rat)) (ms ns : List Int), ρ = [some (.ow true (.lst t)), some (.pu (mD (.int L) xs b)), some (.pu (plk C (.int L) xs b)), some (.pu (.lst (ws.map wtK))), some (.pu (.lst [.tup (ms.map D.int), .tup (ns.map D.int)]))] ∧ SrcOk t ∧ MOk (.int L) xs b ∧ BdOk b ∧ ws.length ≤ 16 ∧ (∀ z ∈ ws, WtOk L z) ∧ LotOk xs.length ms ∧ LotOk xs.length ns ∧ (∀ r ∈ ns, r ∈ ms) ∧
  ∀ t' ρ', SrcOk t' → ρ'.head? = some (some (.ow true (.lst t'))) → Φ (.bl true) ρ'
theorem cut_le {r b L : Int} (hb : 0 < b) (h : r ≤ L * b) : Rat.divInt r b ≤ (L : Rat) := by
  have b0 : (0 : Rat) < (b : Rat) := by exact_mod_cast hb
  rw [Rat.divInt_eq_div]
  refine Rat.not_lt.mp fun g => ?_
  rw [Rat.lt_div_iff b0] at g
  have : ((L * b : Int) : Rat) < (r : Rat) := by rw [Rat.intCast_mul]; exact g
  have : L * b < r := by exact_mod_cast this
  omega
/-- a place that may be asked for -/
def SpQ (L : Int) (ws : List (Rat × Rat)) (q : Rat) : Prop := 0 ≤ q ∧ q ≤ (L : Rat) ∧ Bt 30 20 q ∧ (PlOk q ∨ ∃ z ∈ ws, q = z.1)
theorem sp_wt {L : Int} {ws : List (Rat × Rat)} (hz : ∀ z ∈ ws, WtOk L z) {z : Rat × Rat} (h : z ∈ ws) : SpQ L ws z.1 := ⟨(hz z h).1.1, (hz z h).1.2, (hz z h).2.2.1.1, .inr ⟨z, h, rfl⟩⟩
theorem sp_int {L : Int} {ws : List (Rat × Rat)} {p : Int} (h0 : 0 ≤ p) (h1 : p ≤ L) (hL : L ≤ 1000) : SpQ L ws (p : Rat) := ⟨by exact_mod_cast h0, by exact_mod_cast h1, (int_bt (n := 11) (by omega)).mono (by decide) (by decide), .inl (pl_int (by omega) (by omega))⟩
theorem sp_seven {L : Int} {ws : List (Rat × Rat)} {r : Int} (h0 : 0 ≤ r) (h1 : r ≤ L * 7) (hL : L ≤ 1000) : SpQ L ws (Rat.divInt r 7) := ⟨cut_nonneg h0 (by decide), cut_le (by decide) h1, (pl_div7 h0 (by omega)).2, .inl (pl_div7 h0 (by omega)).1⟩
section
variable {P : Program} {w : World} {K : PySem.W.Frag} {mg : Str → Option Value} {a : Nat → Addr} {fd : Nat → FuncData} {tk : Nat → Tok} {base : Heap}
theorem ok_law_bends_right (T : Txt K mg a fd tk) : FnOk P w K mg base CX0 10 (a 76) (fd 76) ["_law_source_here", "_law_m", "_law_plank_here", "_law_weights_here", "_law_lots"] (spD K 5 (wLBR (a 107))) := by
  refine ok0 T.F_law_bends_right sc_law_bends_right (fun _ _ _ h => h) fun cdv A outer s H E hr => ?_
  refine ⟨_, (pss_cons (ps_set (i := 5) sc_law_bends_right.nd rfl (by first | exact Or.inl rfl | exact Or.inr rfl) (pe_op op_cat (pe_lc (own := [("_law_spot", 7), ("_law_much", 8)]) (g := (gTup K 2 (gCons (gName 7) (gCons (gName 8) gNil)))) (by rfl) sc_law_bends_right.nd (pi_list (pe_slice (sl_listK (K := K)) (pv 3) po_none (po_some pe_int))) (blkOk_by (own := [("_law_spot", 7), ("_law_much", 8)]) (N := N_law_bends_right) (sc := defScope s_law_bends_right) (by decide +kernel)) (fun _ _ _ _ _ => (pg_tup rfl (pgs_cons (pg_name (i := 7) sc_law_bends_right.nd rfl (by first | exact Or.inl rfl | exact Or.inr rfl)) (pgs_cons (pg_name (i := 8) sc_law_bends_right.nd rfl (by first | exact Or.inl rfl | exact Or.inr rfl)) pgs_nil)))) (fun _ _ _ _ _ => pts_nil) (fun _ _ _ _ _ => (pv 7))) (pe_lc (own := [("_law_prop", 6)]) (g := (gName 6)) (by rfl) sc_law_bends_right.nd (pi_list (pe_slice (sl_listK (K := K)) (pe_dget (hu_of hr) (pv 1) pe_str (fun _ _ => rfl)) po_none (po_some pe_int))) (blkOk_by (own := [("_law_prop", 6)]) (N := N_law_bends_right) (sc := defScope s_law_bends_right) (by decide +kernel)) (fun _ _ _ _ _ => (pg_name (i := 6) sc_law_bends_right.nd rfl (by first | exact Or.inl rfl | exact Or.inr rfl))) (fun _ _ _ _ _ => pts_nil) (fun _ _ _ _ _ => (PE.tupK (pe_tup (pa_cons (pe_ix (ix_ltK (K := K)) (pv 6) pe_int (fun _ _ => rfl)) (pa_cons pe_int pa_nil))))))))
      (pss_cons (ps_set (i := 5) sc_law_bends_right.nd rfl (by first | exact Or.inl rfl | exact Or.inr rfl) (pe_op op_cat (pv 5) (pe_lc (own := [("_law_k", 9)]) (g := (gName 9)) (by rfl) sc_law_bends_right.nd (pi_range1 rfl T.n_range (pa_cons pe_int pa_nil)) (blkOk_by (own := [("_law_k", 9)]) (N := N_law_bends_right) (sc := defScope s_law_bends_right) (by decide +kernel)) (fun _ _ _ _ _ => (pg_name (i := 9) sc_law_bends_right.nd rfl (by first | exact Or.inl rfl | exact Or.inr rfl))) (fun _ _ _ _ _ => pts_nil) (fun _ _ _ _ _ => (pe_call (ok_law_cut T) (hr.mono (by decide)) rfl T.n_law_cut T.F_law_cut.kp T.b_law_cut .nil pass0 (pa_cons (pe_call (ok_law_take T) (hr.mono (by decide)) rfl T.n_law_take T.F_law_take.kp T.b_law_take .nil pass0 (pa_cons (pv 0) (pa_cons (pe_op op_add (pe_op op_mulA pe_int (pe_dget (hu_of hr) (pv 1) pe_str (fun _ _ => rfl))) pe_int) pa_nil))) (pa_cons pe_int pa_nil)))))))
      (pss_cons (ps_for PassesOwn.never rfl (pi_list (pv 5)) (pg_name (i := 7) sc_law_bends_right.nd rfl (by first | exact Or.inl rfl | exact Or.inr rfl)) (pss_one (ps_if (pt_val (pe_call (ok_law_below T) (hr.mono (by decide)) rfl T.n_law_below T.F_law_below.kp T.b_law_below .nil pass0 (pa_cons (pe_callN (ok_bend_at T) (hr.mono (by decide)) rfl T.n_bend_at T.F_bend_at.kp T.bK_bend_at pass0 (pa_cons (pv 2) (pa_cons (pv 3) (pa_cons (pv 7) pa_nil))) (pk_cons (pe_ix (ix_ltK (K := K)) (pv 4) pe_int (fun _ _ => rfl)) pk_nil)) (pa_cons (pe_callN (ok_bend_at T) (hr.mono (by decide)) rfl T.n_bend_at T.F_bend_at.kp T.bK_bend_at pass0 (pa_cons (pv 2) (pa_cons (pv 3) (pa_cons (pv 7) pa_nil))) (pk_cons (pe_ix (ix_ltK (K := K)) (pv 4) pe_int (fun _ _ => rfl)) pk_nil)) pa_nil)))) (pss_one (ps_ret pe_bl)) pss_nil)))
      (pss_cons (ps_set (i := 10) sc_law_bends_right.nd rfl (by first | exact Or.inl rfl | exact Or.inr rfl) (pe_callN (ok_boards T) (hr.mono (by decide)) rfl T.n_boards T.F_boards.kp T.bK_boards pass0 (pa_cons (pv 2) (pa_cons (pv 3) pa_nil)) (pk_cons (pe_ix (ix_ltK (K := K)) (pv 4) pe_int (fun _ _ => rfl)) pk_nil)))
      (pss_cons (ps_for PassesOwn.never rfl (pi_list (pe_callN (ok_boards T) (hr.mono (by decide)) rfl T.n_boards T.F_boards.kp T.bK_boards pass0 (pa_cons (pv 2) (pa_cons (pv 3) pa_nil)) (pk_cons (pe_ix (ix_ltK (K := K)) (pv 4) pe_int (fun _ _ => rfl)) pk_nil))) (pg_tup rfl (pgs_cons (pg_name (i := 11) sc_law_bends_right.nd rfl (by first | exact Or.inl rfl | exact Or.inr rfl)) (pgs_cons (pg_name (i := 12) sc_law_bends_right.nd rfl (by first | exact Or.inl rfl | exact Or.inr rfl)) (pgs_cons (pg_name (i := 13) sc_law_bends_right.nd rfl (by first | exact Or.inl rfl | exact Or.inr rfl)) (pgs_cons (pg_name (i := 14) sc_law_bends_right.nd rfl (by first | exact Or.inl rfl | exact Or.inr rfl)) pgs_nil))))) (pss_one (ps_for PassesOwn.never rfl (pi_list (pv 10)) (pg_name (i := 15) sc_law_bends_right.nd rfl (by first | exact Or.inl rfl | exact Or.inr rfl)) (pss_one (ps_if (PW.pt (pw_and (pt_cmpR op_le (pv 11) (pe_ix (ix_ltK (K := K)) (pv 15) pe_int (fun _ _ => rfl)) (nomark _)) (pw_and (pt_cmpR op_le (pe_ix (ix_ltK (K := K)) (pv 15) pe_int (fun _ _ => rfl)) (pv 12) (nomark _)) (pw_and1 (pt_val (pe_call (ok_law_below T) (hr.mono (by decide)) rfl T.n_law_below T.F_law_below.kp T.b_law_below .nil pass0 (pa_cons (pv 13) (pa_cons (pe_ix (ix_ltK (K := K)) (pv 15) pe_int (fun _ _ => rfl)) pa_nil)))))))) (pss_one (ps_ret pe_bl)) pss_nil)))))
      (pss_one (ps_ret pe_bl))))))), ?_⟩
  try dsimp only [cxOf, List.map, List.length_cons, List.length_nil]
  refine ⟨_, inferInstance, ?_⟩
  rintro ρ Ξ Φ ⟨t, L, xs, b, ws, ms, ns, rfl, ht, hm, hbd, hw, hz, hms, hns, sub, k⟩
  have hp := MOk.pk hm
  obtain ⟨L0, L1, hpr, h12⟩ := id hp
  have z0 : ∀ z ∈ ws, 0 ≤ z.2 := fun z hm => Rat.le_of_lt (hz z hm).2.1
  obtain ⟨lots, elots⟩ : ∃ d, d = D.lst [.tup (ms.map D.int), .tup (ns.map D.int)] := ⟨_, rfl⟩
  rw [← elots]
  refine ⟨_, rfl, 5, rfl, ws.map wtK, rfl, _, rfl, ?_⟩
  rw [show cutD (ws.map wtK) none (some 5) = (ws.map wtK).take 5 from cut_to _ 5, ← List.map_take]
  have l5 : (ws.take 5).length ≤ 5 := by rw [List.length_take]; omega
  have h5 : ∀ z ∈ ws.take 5, z ∈ ws := fun z h => List.mem_of_mem_take h
  generalize ws.take 5 = vs at *
  refine ⟨fun i acc ρ => acc = (vs.take i).map (fun z => trkD z.1) ∧ ρ = [some (.ow true (.lst t)), some (.pu (mD (.int L) xs b)), some (.pu (plk (a 107) (.int L) xs b)), some (.pu (.lst (ws.map wtK))), some (.pu lots), none, none, none, none, none, none, none, none, none, none, none], ⟨rfl, rfl⟩, ?_, ?_⟩
  · rintro i e acc ρ hi ⟨ea, rfl⟩
    rw [List.getElem?_map] at hi
    obtain ⟨z, hz1, rfl⟩ := Option.map_eq_some_iff.mp hi
    refine ⟨[trkD z.1, frD z.2], rfl, rfl, _, _, rfl, _, _, rfl, rfl, ?_⟩
    try simp only [pwipe1, pwipe2, back_hd, back_pu2, back_pu1, List.set_cons_succ, List.set_cons_zero]
    refine ⟨_, rfl, ?_, ?_, rfl⟩
    · rw [ea, List.length_map, List.length_take]
      omega
    · rw [ea, List.take_add_one, hz1, List.map_append]
      rfl
  rintro acc ρ ⟨ea, rfl⟩
  rw [List.length_map, List.take_length] at ea
  subst ea
  refine ⟨_, rfl, _, _, _, rfl, rfl, val2 _ _ _, 6, rfl, xs, rfl, _, rfl, ?_⟩
  rw [show cutD xs none (some 6) = xs.take 6 from cut_to _ 6]
  have l6 : (xs.take 6).length ≤ 6 := by rw [List.length_take]; omega
  have h6 : ∀ d ∈ xs.take 6, ∃ (p : Int) (y : D), d = .tup [.int p, y] ∧ 0 ≤ p ∧ p ≤ L := fun d h => by
    obtain ⟨p, y, rfl, p0, p1⟩ := props_place hpr d (List.mem_of_mem_take h)
    exact ⟨p, y, rfl, by omega, by omega⟩
  generalize xs.take 6 = ys at *
  refine ⟨fun i acc ρ => (∃ ps : List Int, acc = ps.map (fun p => trkD ((p : Int) : Rat)) ∧ ps.length = i ∧ ∀ p ∈ ps, 0 ≤ p ∧ p ≤ L) ∧ ρ = [some (.ow true (.lst t)), some (.pu (mD (.int L) xs b)), some (.pu (plk (a 107) (.int L) xs b)), some (.pu (.lst (ws.map wtK))), some (.pu lots), none, none, none, none, none, none, none, none, none, none, none], ⟨⟨[], rfl, rfl, fun p h => nomatch h⟩, rfl⟩, ?_, ?_⟩
  · rintro i e acc ρ hi ⟨⟨ps, ea, el, hps⟩, rfl⟩
    have il := (List.getElem?_eq_some_iff.mp hi).1
    obtain ⟨p, y, rfl, p0, p1⟩ := h6 e (List.mem_of_getElem? hi)
    try simp only [pwipe1, pwipe2, back_hd, back_pu2, back_pu1, List.set_cons_succ, List.set_cons_zero]
    refine ⟨_, rfl, _, 0, _, rfl, rfl, rfl, trivial, trivial, [.int p, .int 1], rfl, (by show 2 ≤ 100000; decide), ?_, ⟨ps ++ [p], ?_, ?_, ?_⟩, rfl⟩
    · rw [ea, List.length_map]
      omega
    · rw [ea, List.map_append]
      rfl
    · rw [List.length_append, el]
      rfl
    · intro q hq
      rcases List.mem_append.mp hq with hq | hq
      · exact hps q hq
      · rw [List.mem_singleton.mp hq]
        exact ⟨p0, p1⟩
  rintro acc ρ ⟨⟨ps, ea, el, hps⟩, rfl⟩
  subst ea
  have l5' : vs.length ≤ 5 := l5
  have ps6 : ps.length ≤ 6 := by omega
  refine ⟨_, _, rfl, rfl, (by rw [List.length_map, List.length_map]; omega), ?_⟩
  try simp only [pwipe1, pwipe2, back_hd, back_pu2, back_pu1, List.set_cons_succ, List.set_cons_zero]
  have eqs0 : vs.map (fun z => trkD z.1) ++ ps.map (fun p => trkD ((p : Int) : Rat)) = (vs.map (fun z => z.1) ++ ps.map (fun p => ((p : Int) : Rat))).map trkD := by
    rw [List.map_append, List.map_map, List.map_map]
    rfl
  rw [eqs0]
  have hqs0 : ∀ q ∈ vs.map (fun z => z.1) ++ ps.map (fun p => ((p : Int) : Rat)), SpQ L ws q := fun q h => by
    rcases List.mem_append.mp h with h | h
    · obtain ⟨z, hz1, rfl⟩ := List.mem_map.mp h
      exact sp_wt hz (h5 z hz1)
    · obtain ⟨p, hp1, rfl⟩ := List.mem_map.mp h
      exact sp_int (hps p hp1).1 (hps p hp1).2 L1
  have lqs0 : (vs.map (fun z => z.1) ++ ps.map (fun p => ((p : Int) : Rat))).length ≤ 11 := by
    rw [List.length_append, List.length_map, List.length_map]
    omega
  generalize vs.map (fun z => z.1) ++ ps.map (fun p => ((p : Int) : Rat)) = qs0 at *
  clear eqs0 hps el h5 l5 l5' ps6 h6 l6
  refine ⟨_, rfl, trivial, 4, rfl, by decide, by decide, ?_⟩
  refine ⟨fun i acc ρ => ∃ (qs : List Rat) (t' : List D), acc = qs.map trkD ∧ qs.length = i ∧ (∀ q ∈ qs, SpQ L ws q) ∧ SrcOk t' ∧ ρ = [some (.ow true (.lst t')), some (.pu (mD (.int L) xs b)), some (.pu (plk (a 107) (.int L) xs b)), some (.pu (.lst (ws.map wtK))), some (.pu lots), some (.pu (.lst (qs0.map trkD))), none, none, none, none, none, none, none, none, none, none], ⟨[], t, rfl, rfl, (fun q h => nomatch h), ht, rfl⟩, ?_, ?_⟩
  · rintro i e acc ρ hi ⟨qs, t1, ea, el, hqs, ht1, rfl⟩
    have il : i < 4 := by
      have := (List.getElem?_eq_some_iff.mp hi).1
      rw [rngD_len] at this
      exact this
    try simp only [pwipe1, pwipe2, back_hd, back_pu2, back_pu1, List.set_cons_succ, List.set_cons_zero]
    refine ⟨_, rfl, .inl ⟨_, rfl, _, _, _, rfl, rfl, val1 _ _ _, 7, L, rfl, rfl, .inl (.inl ⟨by decide, by decide⟩), 7 * L, 1, rfl, rfl, trivial, take_at rfl ht1 (by omega) (by omega) fun r t2 tl2 ht2 r0 r1 => ?_⟩⟩
    refine ⟨trivial, trivial, rfl, List.nodup_nil, [.int r, .int 7], rfl, ⟨r, 7, rfl, by decide, small_abs (by decide)⟩, fun d2 ρ2 h2 => ?_⟩
    rw [h2 _ _ rfl]
    clear h2
    try simp only [pwipe1, pwipe2, back_hd, back_pu2, back_pu1, List.set_cons_succ, List.set_cons_zero]
    refine ⟨?_, qs ++ [Rat.divInt r 7], t2, ?_, ?_, ?_, ht2, rfl⟩
    · rw [ea, List.length_map]
      omega
    · rw [ea, List.map_append]
      rfl
    · rw [List.length_append, el]
      rfl
    · intro q hq
      rcases List.mem_append.mp hq with hq | hq
      · exact hqs q hq
      · rw [List.mem_singleton.mp hq]
        exact sp_seven r0 (by omega) L1
  rintro acc ρ ⟨qs, t1, ea, el, hqs, ht1, rfl⟩
  subst ea
  rw [rngD_len] at el
  refine ⟨_, _, rfl, rfl, (by rw [List.length_map, List.length_map]; omega), ?_⟩
  try simp only [pwipe1, pwipe2, back_hd, back_pu2, back_pu1, List.set_cons_succ, List.set_cons_zero]
  rw [← List.map_append]
  have hall : ∀ q ∈ qs0 ++ qs, SpQ L ws q := fun q h => (List.mem_append.mp h).elim (hqs0 q) (hqs q)
  generalize qs0 ++ qs = qa at *
  clear hqs hqs0 el lqs0
  refine ⟨_, rfl, qa.map trkD, rfl, fun i ρ => ∃ a7, ρ = [some (.ow true (.lst t1)), some (.pu (mD (.int L) xs b)), some (.pu (plk (a 107) (.int L) xs b)), some (.pu (.lst (ws.map wtK))), some (.pu lots), some (.pu (.lst (qa.map trkD))), none, a7, none, none, none, none, none, none, none, none], ⟨_, rfl⟩, ?_, ?_⟩
  · rintro i e ρ hi ⟨a7, rfl⟩
    rw [List.getElem?_map] at hi
    obtain ⟨q, hqi, rfl⟩ := Option.map_eq_some_iff.mp hi
    obtain ⟨q0, q1, bq, hq⟩ := hall q (List.mem_of_getElem? hqi)
    clear hi hqi
    try simp only [pwipe1, pwipe2, back_hd, back_pu2, back_pu1, List.set_cons_succ, List.set_cons_zero]
    refine ⟨trivial, _, rfl, _, rfl, _, rfl, trivial, trivial, trivial, _, rfl, [.tup (ms.map D.int), .tup (ns.map D.int)], 1, _, (by rw [elots]; rfl), rfl, rfl, trivial, [plk (a 107) (.int L) xs b, .lst (ws.map wtK), trkD q], [.tup (ns.map D.int)], rfl, rfl, rfl, rfl, ⟨L, xs, _, ws, q, _, ns, rfl, hp, hbd, hw, hz, .inr ⟨rfl, hns⟩, q0, q1, hq, fun k1 ρ' hk1 h1 h2 => ?_⟩⟩
    refine ⟨trivial, _, rfl, _, rfl, _, rfl, trivial, trivial, trivial, _, rfl, [.tup (ms.map D.int), .tup (ns.map D.int)], 0, _, (by rw [elots]; rfl), rfl, rfl, trivial, [plk (a 107) (.int L) xs b, .lst (ws.map wtK), trkD q], [.tup (ms.map D.int)], rfl, rfl, rfl, rfl, ⟨L, xs, _, ws, q, _, ms, rfl, hp, hbd, hw, hz, .inr ⟨rfl, hms⟩, q0, q1, hq, fun k2 ρ' hk2 g1 g2 => ?_⟩⟩
    refine ⟨trivial, trivial, rfl, List.nodup_nil, [_, _], rfl, ⟨_, _, rfl, bend_btB hp hw hz hns hk1 bq q0 h1 h2, bend_btB hp hw hz hms hk2 bq q0 g1 g2⟩, fun r ρ' h => ?_⟩
    rw [h _ _ rfl, decide_eq_false (Rat.not_lt.mpr (bend_lesser hp z0 hns hms sub hk1 hk2 q0 h1 h2 g1 g2))]
    exact ⟨_, rfl, _, rfl⟩
  rintro ρ ⟨a7, rfl⟩
  refine ⟨trivial, _, rfl, _, rfl, trivial, trivial, _, rfl, [.tup (ms.map D.int), .tup (ns.map D.int)], 0, _, (by rw [elots]; rfl), rfl, rfl, trivial, [plk (a 107) (.int L) xs b, .lst (ws.map wtK)], [.tup (ms.map D.int)], rfl, rfl, rfl, rfl, ⟨L, xs, _, ws, _, ms, rfl, hp, hbd, hw, hz, .inr ⟨rfl, hms⟩, fun ρ' => .inl ?_⟩⟩
  rw [brds_due]
  try simp only [pwipe1, pwipe2, back_hd, back_pu2, back_pu1, List.set_cons_succ, List.set_cons_zero]
  refine ⟨trivial, _, rfl, _, rfl, trivial, trivial, _, rfl, [.tup (ms.map D.int), .tup (ns.map D.int)], 1, _, (by rw [elots]; rfl), rfl, rfl, trivial, [plk (a 107) (.int L) xs b, .lst (ws.map wtK)], [.tup (ns.map D.int)], rfl, rfl, rfl, rfl, ⟨L, xs, _, ws, _, ns, rfl, hp, hbd, hw, hz, .inr ⟨rfl, hns⟩, fun ρ' => ?_⟩⟩
  rw [brds_due]
  obtain ⟨mr, emr⟩ : ∃ mr, mr = (List.range (ms.length + 1)).map (dueD L xs ws ms) := ⟨_, rfl⟩
  refine ⟨_, rfl, fun j ρ => ∃ a11 a12 a13 a14 a15, ρ = [some (.ow true (.lst t1)), some (.pu (mD (.int L) xs b)), some (.pu (plk (a 107) (.int L) xs b)), some (.pu (.lst (ws.map wtK))), some (.pu lots), some (.pu (.lst (qa.map trkD))), none, a7, none, none, some (.pu (.lst mr)), a11, a12, a13, a14, a15], ⟨_, _, _, _, _, by rw [emr]; rfl⟩, ?_, ?_⟩
  rotate_left
  · rintro ρ ⟨a11, a12, a13, a14, a15, rfl⟩
    exact k t1 _ ht1 rfl
  rintro j e ρ hj ⟨a11, a12, a13, a14, a15, rfl⟩
  rw [List.getElem?_map] at hj
  obtain ⟨j', hj1, rfl⟩ := Option.map_eq_some_iff.mp hj
  obtain ⟨hjl, hj2⟩ := List.getElem?_eq_some_iff.mp hj1
  rw [List.length_range] at hjl
  rw [List.getElem_range] at hj2
  subst hj2
  clear hj hj1
  refine ⟨[.int _, .int _, frD _, trkD _], rfl, rfl, _, _, rfl, _, _, rfl, _, _, rfl, _, _, rfl, rfl, ?_⟩
  try simp only [pwipe1, pwipe2, back_hd, back_pu2, back_pu1, List.set_cons_succ, List.set_cons_zero]
  refine ⟨_, rfl, mr, rfl, fun i ρ => ∃ a15, ρ = [some (.ow true (.lst t1)), some (.pu (mD (.int L) xs b)), some (.pu (plk (a 107) (.int L) xs b)), some (.pu (.lst (ws.map wtK))), some (.pu lots), some (.pu (.lst (qa.map trkD))), none, a7, none, none, some (.pu (.lst mr)), some (.pu (.int (rgO xs.length ns j))), some (.pu (.int (rgO xs.length ns (j + 1)))), some (.pu (frD (greatQ ws (pE L xs (rgO xs.length ns j)) (pE L xs (rgO xs.length ns (j + 1)))).1)), some (.pu (trkD (greatQ ws (pE L xs (rgO xs.length ns j)) (pE L xs (rgO xs.length ns (j + 1)))).2)), a15], ⟨_, rfl⟩, ?_, ?_⟩
  rotate_left
  · rintro ρ ⟨a15, rfl⟩
    exact ⟨_, _, _, _, _, rfl⟩
  rintro i e ρ hi ⟨a15, rfl⟩
  rw [emr, List.getElem?_map] at hi
  obtain ⟨i', hi1, rfl⟩ := Option.map_eq_some_iff.mp hi
  obtain ⟨hil, hi2⟩ := List.getElem?_eq_some_iff.mp hi1
  rw [List.length_range] at hil
  rw [List.getElem_range] at hi2
  subst hi2
  clear hi hi1
  try simp only [pwipe1, pwipe2, back_hd, back_pu2, back_pu1, List.set_cons_succ, List.set_cons_zero]
  obtain ⟨g1, g2, g3⟩ := rg_lt hns hjl
  obtain ⟨f1, f2, f3⟩ := rg_lt hms hil
  refine ⟨_, rfl, _, rfl, _, 0, _, rfl, rfl, rfl, _, _, rfl, rfl, _, rfl, ?_⟩
  show if decide (rgO xs.length ns j ≤ rgO xs.length ms i) = true then _ else _
  by_cases c1 : rgO xs.length ns j ≤ rgO xs.length ms i
  · rw [decide_eq_true c1]
    refine ⟨_, rfl, _, 1, _, rfl, rfl, rfl, _, rfl, _, _, rfl, rfl, _, rfl, ?_⟩
    show if decide (rgO xs.length ms (i + 1) ≤ rgO xs.length ns (j + 1)) = true then _ else _
    by_cases c2 : rgO xs.length ms (i + 1) ≤ rgO xs.length ns (j + 1)
    · rw [decide_eq_true c2]
      refine ⟨_, rfl, _, rfl, _, 2, _, rfl, rfl, rfl, trivial, trivial, rfl, List.nodup_nil, [_, _], rfl, ⟨_, _, rfl, great_btB hp hw hz hns hjl, great_btB hp hw hz hms hil⟩, fun r ρ' h => ?_⟩
      rw [h _ _ rfl, decide_eq_false (Rat.not_lt.mpr (great_mono z0 (pE_le hp (by omega) c1 (by omega)) (pE_lt hp (by omega) f2 (by omega)) (pE_le hp (by omega) c2 (by omega))))]
      exact ⟨_, rfl, _, rfl⟩
    · rw [decide_eq_false c2]
      exact ⟨_, rfl⟩
  · rw [decide_eq_false c1]
    exact ⟨_, rfl⟩

end
end K06
set_option synthInstance.maxSize 100000
set_option synthInstance.maxHeartbeats 4000000
set_option Elab.async false
set_option linter.all false
set_option maxRecDepth 100000
set_option maxHeartbeats 4000000
set_option autoImplicit false
namespace K06
open PySem L2 Dx Kd
abbrev s_law : Stmt := top 68
abbrev N_law : List Str := ["_law_script", "_law_cell", "_law_source_here", "_law_m", "_law_weights_here", "_law_plank_here", "_law_some", "_law_fewer", "_law_more", "_law_prop"]
theorem sc_law : FnScope N_law ["_law_script"] (defScope s_law) := ⟨rfl, rfl, rfl, by decide +kernel, rfl, by decide +kernel, by decide +kernel⟩
def wLaw : Pm := fnP (fun ds => ∃ ns : List Int, ds = [.sql (intsD ns)]) fun ds r => r = .bl true
section
variable {x0 x1 : Option Sl} {p : Bool} {c e : OC} {d d2 d3 d4 : D} {ρ tl : Ab}
theorem back_j1 : back (x0 :: x1 :: some (.ow p c) :: ρ) [Ar.sl 2] (some (.ow true e) :: tl) = x0 :: x1 :: some (.ow p e) :: ρ := by unfold back; rfl
theorem back_j2 : back (x0 :: x1 :: some (.ow p c) :: ρ) [Ar.sl 2, Ar.pu d] (some (.ow true e) :: tl) = x0 :: x1 :: some (.ow p e) :: ρ := by unfold back; rfl
theorem back_j3 : back (x0 :: x1 :: some (.ow p c) :: ρ) [Ar.sl 2, Ar.pu d, Ar.pu d2] (some (.ow true e) :: tl) = x0 :: x1 :: some (.ow p e) :: ρ := by unfold back; rfl
theorem back_j5 : back (x0 :: x1 :: some (.ow p c) :: ρ) [Ar.sl 2, Ar.pu d, Ar.pu d2, Ar.pu d3, Ar.pu d4] (some (.ow true e) :: tl) = x0 :: x1 :: some (.ow p e) :: ρ := by unfold back; rfl
theorem back_pu3 {ρ' : Ab} {d3 : D} : back ρ [Ar.pu d, Ar.pu d2, Ar.pu d3] ρ' = ρ := rfl
end
theorem head_inv {ρ : Ab} {s : Option Sl} (h : ρ.head? = some s) : ∃ tl, ρ = s :: tl := by
  cases ρ with
  | nil => cases h
  | cons x tl =>
    cases h
    exact ⟨tl, rfl⟩
theorem ext_in {n : Nat} {ns ms : List Int} (h : ∀ r ∈ ns, r ∈ ms) {r : Int} (hr : r ∈ extOf n ns) : r ∈ extOf n ms := by
  unfold extOf at hr ⊢
  rcases List.mem_cons.mp hr with rfl | hr
  · exact List.mem_cons_self
  · refine List.mem_cons_of_mem _ (List.mem_append.mpr ?_)
    rcases List.mem_append.mp hr with hr | hr
    · exact .inl (rest_in h hr)
    · exact .inr hr
theorem ext_mem {n : Nat} {ns : List Int} {k : Nat} (h : k < ns.length + 4) : (extOf n ns).getD k 0 ∈ extOf n ns := by
  rw [← ext_len (n := n)] at h
  rw [getD_at h]
  exact List.getElem_mem h
theorem ext_find {n : Nat} {ns : List Int} {r : Int} (h : r ∈ extOf n ns) : ∃ j, j < ns.length + 4 ∧ (extOf n ns).getD j 0 = r := by
  obtain ⟨j, hj, e⟩ := List.mem_iff_getElem.mp h
  refine ⟨j, by rw [ext_len] at hj; exact hj, ?_⟩
  rw [getD_at hj]
  exact e
theorem ext_le {n : Nat} {ns : List Int} (h : LotOk n ns) {i j : Nat} (hij : i ≤ j) (hj : j < ns.length + 4) : (extOf n ns).getD i 0 ≤ (extOf n ns).getD j 0 := by
  rcases Nat.eq_or_lt_of_le hij with e | e
  · rw [e]
    exact Int.le_refl _
  · exact Int.le_of_lt (ext_lt h e hj)
/-- a rest's number in a lot -/
theorem lie_at {L : Int} {xs : List D} {ws : List (Rat × Rat)} {ns : List Int} {r : Int} (hn : LotOk xs.length ns) (hr : r ∈ restsOf xs.length ns) : ∃ k, k < ns.length + 2 ∧ (extOf xs.length ns).getD (k + 1) 0 = r ∧ ∀ ws, lieQ L xs ws ns r = laidK L xs ws ns k := by
  obtain ⟨k, hk, e⟩ := rg_find hr
  refine ⟨k, hk, by rw [ext_rest hk]; exact e, fun ws => ?_⟩
  unfold lieQ
  have rl : (restsOf xs.length ns).length = ns.length + 2 := by unfold restsOf; simp
  rw [← e]
  unfold rgO
  rw [idx_at (rests_nodup hn) (by omega)]
theorem lie_bt {L : Int} {xs : List D} {ws : List (Rat × Rat)} {ns : List Int} {r : Int} (hp : Pk L xs) (hw : ws.length ≤ 16) (hz : ∀ z ∈ ws, WtOk L z) (hn : LotOk xs.length ns) (hr : r ∈ restsOf xs.length ns) : Bt 2000 2000 (lieQ L xs ws ns r) := by
  obtain ⟨k, hk, _, e⟩ := lie_at (L := L) (ws := ws) hn hr
  rw [e]
  unfold laidK
  have a0 := ext_bd hn (j := k) (by omega)
  have a1 := ext_bd hn (j := k + 1) (by omega)
  have a2 := ext_bd hn (j := k + 2) (by omega)
  have b0 := ext_lt hn (i := k) (j := k + 1) (by omega) (by omega)
  have b1 := ext_lt hn (i := k + 1) (j := k + 2) (by omega) (by omega)
  exact (laid_bt hw hz (pE_bd hp a0.1 a0.2).1 (pE_lt hp a0.1 b0 (by omega)) (pE_lt hp (by omega) b1 a2.2) (pE_bd hp a2.1 a2.2).2).mono (by decide) (by decide)
/-- no less lies while a lesser lot stands -/
theorem lie_lesser {L : Int} {xs : List D} {ws : List (Rat × Rat)} {ns ms : List Int} {r : Int} (hp : Pk L xs) (hz : ∀ z ∈ ws, 0 ≤ z.2) (hn : LotOk xs.length ns) (hm : LotOk xs.length ms) (sub : ∀ r ∈ ns, r ∈ ms) (hr : r ∈ restsOf xs.length ns) : lieQ L xs ws ms r ≤ lieQ L xs ws ns r := by
  obtain ⟨k, hk, ek, e1⟩ := lie_at (L := L) (ws := ws) hn hr
  obtain ⟨j, hj, ej, e2⟩ := lie_at (L := L) (ws := ws) hm (rest_in sub hr)
  rw [e1, e2]
  unfold laidK
  have a0 := ext_bd hn (j := k) (by omega)
  have a2 := ext_bd hn (j := k + 2) (by omega)
  have c0 := ext_bd hm (j := j) (by omega)
  have c1 := ext_bd hm (j := j + 1) (by omega)
  have c2 := ext_bd hm (j := j + 2) (by omega)
  have b0 := ext_lt hn (i := k) (j := k + 1) (by omega) (by omega)
  have b1 := ext_lt hn (i := k + 1) (j := k + 2) (by omega) (by omega)
  have d0 := ext_lt hm (i := j) (j := j + 1) (by omega) (by omega)
  have d1 := ext_lt hm (i := j + 1) (j := j + 2) (by omega) (by omega)
  rw [ek] at b0 b1
  rw [ej] at d0 d1 c1
  rw [ek, ej]
  have lo : (extOf xs.length ns).getD k 0 ≤ (extOf xs.length ms).getD j 0 := by
    obtain ⟨i, hi, e⟩ := ext_find (ext_in sub (ext_mem (n := xs.length) (ns := ns) (k := k) (by omega)))
    rw [← e] at b0 ⊢
    rcases Nat.lt_or_ge j i with c | c
    · have := ext_le hm (show j + 1 ≤ i by omega) hi
      rw [ej] at this
      omega
    · exact ext_le hm c (by omega)
  have hi : (extOf xs.length ms).getD (j + 2) 0 ≤ (extOf xs.length ns).getD (k + 2) 0 := by
    obtain ⟨i, hi, e⟩ := ext_find (ext_in sub (ext_mem (n := xs.length) (ns := ns) (k := k + 2) (by omega)))
    rw [← e] at b1 ⊢
    rcases Nat.lt_or_ge i (j + 2) with c | c
    · have := ext_le hm (show i ≤ j + 1 by omega) (by omega)
      rw [ej] at this
      omega
    · exact ext_le hm c hi
  exact laid_mono hz (pE_le hp (by omega) lo (by omega)) (pE_lt hp (by omega) d0 (by omega)) (pE_lt hp (by omega) d1 (by omega)) (pE_le hp (by omega) hi (by omega))
/-- weights more make none less -/
theorem lie_more {L : Int} {xs : List D} {ws vs : List (Rat × Rat)} {ns : List Int} {r : Int} (hp : Pk L xs) (hz : ∀ z ∈ vs, 0 ≤ z.2) (hn : LotOk xs.length ns) (hr : r ∈ restsOf xs.length ns) : lieQ L xs ws ns r ≤ lieQ L xs (ws ++ vs) ns r := by
  obtain ⟨k, hk, ek, e⟩ := lie_at (L := L) (ws := ws) hn hr
  rw [e, e]
  unfold laidK
  have a0 := ext_bd hn (j := k) (by omega)
  have a1 := ext_bd hn (j := k + 1) (by omega)
  have a2 := ext_bd hn (j := k + 2) (by omega)
  exact laid_more hz (pE_lt hp (by omega) (ext_lt hn (by omega) (by omega)) (by omega)) (pE_lt hp (by omega) (ext_lt hn (by omega) (by omega)) (by omega))
theorem rests_few {n : Nat} {ns : List Int} (h : LotOk n ns) (hn : n ≤ 12) : (restsOf n ns).length ≤ 100 := by
  rw [rests_len]
  have := lot_len h
  omega
theorem half3 : frD (Rat.divInt 3 2) = .tup [.int 3, .int 2] := by
  rw [frD_divInt (by decide)]
  rfl
theorem half_ok {L r : Int} (r0 : 0 ≤ r) (r1 : r ≤ L * 5) (hL : L ≤ 1000) : WtOk L (Rat.divInt r 5, Rat.divInt 3 2) := by
  have sp := spot_cut (t := r) (b := 5) (L := L) (by decide) r0 r1 hL (by decide) (by decide)
  exact ⟨sp.1, (by show 0 < Rat.divInt 3 2; decide +kernel), ⟨sp.2.1, divInt_bt (by decide) (by decide) (by decide)⟩, sp.2.2, by show (Rat.divInt 3 2).den ∣ 693000000; decide +kernel⟩
theorem lot_sub {n : Nat} {ms ns : List Int} (h : LotOk n ms) (s : ns.Sublist ms) : LotOk n ns := ⟨h.1.sublist s, fun r hr => h.2 r (s.subset hr)⟩
section
variable {P : Program} {w : World} {K : PySem.W.Frag} {mg : Str → Option Value} {a : Nat → Addr} {fd : Nat → FuncData} {tk : Nat → Tok} {base : Heap}
theorem ok_law (T : Txt K mg a fd tk) {f : Addr} {fdl : FuncData} (F : Fun K "law" "law" s_law f fdl) : FnOk P w K mg base CX0 12 f fdl ["_law_script"] (spD K 1 wLaw) := by
  refine ok0 F sc_law (fun _ _ _ h => h) fun cdv A outer s H E hr => ?_
  refine ⟨_, (pss_cons (ps_for PassesOwn.never rfl (pi_list (pe_op op_cat (pe_lst (pa_cons (pe_call (ok_law_cell_at T) (hr.mono (by decide)) rfl T.n_law_cell_at T.F_law_cell_at.kp T.b_law_cell_at .nil pass0 (pa_cons (pv 0) (pa_cons pe_int pa_nil))) pa_nil)) (pe_slice (sl_listK (K := K)) (pv 0) (po_some pe_int) (po_some pe_int)))) (pg_name (i := 1) sc_law.nd rfl (by first | exact Or.inl rfl | exact Or.inr rfl)) (pss_cons (ps_set (i := 2) sc_law.nd rfl (by first | exact Or.inl rfl | exact Or.inr rfl) (pe_call (ok_law_source T) (hr.mono (by decide)) rfl T.n_law_source T.F_law_source.kp T.b_law_source .nil pass0 (pa_cons (pv 1) pa_nil)))
      (pss_cons (ps_set (i := 3) sc_law.nd rfl (by first | exact Or.inl rfl | exact Or.inr rfl) (pe_call (ok_law_plank T) (hr.mono (by decide)) rfl T.n_law_plank T.F_law_plank.kp T.b_law_plank .nil pass0 (pa_cons (pv 2) pa_nil)))
      (pss_cons (ps_set (i := 4) sc_law.nd rfl (by first | exact Or.inl rfl | exact Or.inr rfl) (pe_op op_cat (pe_call (ok_law_weights T) (hr.mono (by decide)) rfl T.n_law_weights T.F_law_weights.kp T.b_law_weights .nil pass0 (pa_cons (pv 2) (pa_cons (pv 3) (pa_cons pe_int pa_nil)))) (pe_lst (pa_cons (pe_tup (pa_cons (pe_call (ok_law_cut T) (hr.mono (by decide)) rfl T.n_law_cut T.F_law_cut.kp T.b_law_cut .nil pass0 (pa_cons (pe_call (ok_law_take T) (hr.mono (by decide)) rfl T.n_law_take T.F_law_take.kp T.b_law_take .nil pass0 (pa_cons (pv 2) (pa_cons (pe_op op_add (pe_op op_mulA pe_int (pe_dget (hu_of hr) (pv 3) pe_str (fun _ _ => rfl))) pe_int) pa_nil))) (pa_cons pe_int pa_nil))) (pa_cons (pe_tup (pa_cons pe_int (pa_cons pe_int pa_nil))) pa_nil))) pa_nil))))
      (pss_cons (ps_set (i := 5) sc_law.nd rfl (by first | exact Or.inl rfl | exact Or.inr rfl) (pe_call (ok_law_made T) (hr.mono (by decide)) rfl T.n_law_made T.F_law_made.kp T.b_law_made .nil pass0 (pa_cons (pv 3) pa_nil)))
      (pss_cons (ps_set (i := 6) sc_law.nd rfl (by first | exact Or.inl rfl | exact Or.inr rfl) (pe_call (ok_law_lot T) (hr.mono (by decide)) rfl T.n_law_lot T.F_law_lot.kp T.b_law_lot .nil pass0 (pa_cons (pv 2) (pa_cons (pv 3) pa_nil))))
      (pss_cons (ps_set (i := 7) sc_law.nd rfl (by first | exact Or.inl rfl | exact Or.inr rfl) (pe_callTy (call_tupleK (K := K)) rfl T.n_tuple (by decide +kernel) (pa_cons (pe_lc (own := [("_law_prop", 9)]) (g := (gName 9)) (by rfl) sc_law.nd (pi_tup (pv 6)) (blkOk_by (own := [("_law_prop", 9)]) (N := N_law) (sc := defScope s_law) (by decide +kernel)) (fun _ _ _ _ _ => (pg_name (i := 9) sc_law.nd rfl (by first | exact Or.inl rfl | exact Or.inr rfl))) (fun _ _ _ _ _ => (pts_one (pt_cmpR (op_eqK (K := K) hr.units) (pe_call (ok_law_take T) (hr.mono (by decide)) rfl T.n_law_take T.F_law_take.kp T.b_law_take .nil pass0 (pa_cons (pv 2) (pa_cons pe_int pa_nil))) pe_int (nomark _)))) (fun _ _ _ _ _ => (pv 9))) pa_nil)))
      (pss_cons (ps_if (pt_not (pt_val (pe_call (ok_law_no_less T) (hr.mono (by decide)) rfl T.n_law_no_less T.F_law_no_less.kp T.b_law_no_less .nil pass0 (pa_cons (pe_callN (ok_borne T) (hr.mono (by decide)) rfl T.n_borne T.F_borne.kp T.bK_borne pass0 (pa_cons (pv 5) (pa_cons (pv 4) pa_nil)) (pk_cons (pv 7) pk_nil)) (pa_cons (pe_callN (ok_borne T) (hr.mono (by decide)) rfl T.n_borne T.F_borne.kp T.bK_borne pass0 (pa_cons (pv 5) (pa_cons (pv 4) pa_nil)) (pk_cons (pv 6) pk_nil)) pa_nil))))) (pss_one (ps_ret pe_bl)) pss_nil)
      (pss_cons (ps_if (pt_not (pt_val (pe_call (ok_law_bends_right T) (hr.mono (by decide)) rfl T.n_law_bends_right T.F_law_bends_right.kp T.b_law_bends_right .nil pass0 (pa_cons (pv 2) (pa_cons (pv 3) (pa_cons (pv 5) (pa_cons (pv 4) (pa_cons (pe_lst (pa_cons (pv 6) (pa_cons (pv 7) pa_nil))) pa_nil)))))))) (pss_one (ps_ret pe_bl)) pss_nil)
      (pss_cons (ps_set (i := 8) sc_law.nd rfl (by first | exact Or.inl rfl | exact Or.inr rfl) (pe_op op_cat (pv 4) (pe_call (ok_law_weights T) (hr.mono (by decide)) rfl T.n_law_weights T.F_law_weights.kp T.b_law_weights .nil pass0 (pa_cons (pv 2) (pa_cons (pv 3) (pa_cons pe_int pa_nil))))))
      (pss_one (ps_if (pt_not (pt_val (pe_call (ok_law_no_less T) (hr.mono (by decide)) rfl T.n_law_no_less T.F_law_no_less.kp T.b_law_no_less .nil pass0 (pa_cons (pe_callN (ok_borne T) (hr.mono (by decide)) rfl T.n_borne T.F_borne.kp T.bK_borne pass0 (pa_cons (pv 5) (pa_cons (pv 8) pa_nil)) (pk_cons (pv 6) pk_nil)) (pa_cons (pe_callN (ok_borne T) (hr.mono (by decide)) rfl T.n_borne T.F_borne.kp T.bK_borne pass0 (pa_cons (pv 5) (pa_cons (pv 4) pa_nil)) (pk_cons (pv 6) pk_nil)) pa_nil))))) (pss_one (ps_ret pe_bl)) pss_nil))))))))))))
      (pss_one (ps_ret pe_bl))), ?_⟩
  try dsimp only [cxOf, List.map, List.length_cons, List.length_nil]
  refine ⟨_, inferInstance, ?_⟩
  rintro ρ Ξ Φ ⟨ds, rfl, ⟨ns, rfl⟩, k⟩
  have k : ∀ ρ', Φ (.bl true) ρ' := fun ρ' => k _ _ rfl
  refine ⟨_, rfl, trivial, trivial, rfl, List.nodup_nil, [.sql (intsD ns), .int 0], rfl, ⟨_, ns, 0, rfl, rfl, Int.le_refl _⟩, fun r ρ' h => ?_⟩
  obtain ⟨i, rfl⟩ := h
  have hl : (cutD (intsD ns) (some 1) (some 5)).length ≤ 5 := by
    unfold cutD
    rw [List.length_take]
    have : HT.sIx (intsD ns).length (intsD ns).length (some 5) ≤ 5 := Nat.le_trans (Nat.le_of_eq (HT.sIx_nat _ _ 5)) (Nat.min_le_left _ _)
    omega
  refine ⟨trivial, [.int i], rfl, (by show 1 ≤ 100000; decide), _, rfl, 1, rfl, 5, rfl, intsD ns, rfl, _, _, rfl, rfl, ?_, ?_⟩
  · simp only [List.length_cons, List.length_nil]
    omega
  refine ⟨_, rfl, fun i ρ => ∃ a1 a2 a3 a4 a5 a6 a7 a8 a9, ρ = [some (.pu (.sql (intsD ns))), a1, a2, a3, a4, a5, a6, a7, a8, a9], ⟨_, _, _, _, _, _, _, _, _, rfl⟩, ?_, ?_⟩
  rotate_left
  · rintro ρ ⟨a1, a2, a3, a4, a5, a6, a7, a8, a9, rfl⟩
    exact k _
  rintro j x ρ hx ⟨a1, a2, a3, a4, a5, a6, a7, a8, a9, rfl⟩
  obtain ⟨c, rfl⟩ : ∃ c : Int, x = .int c := by
    rcases List.mem_append.mp (List.mem_of_getElem? hx) with hx | hx
    · exact ⟨i, List.mem_singleton.mp hx⟩
    · have hx : x ∈ intsD ns := List.mem_of_mem_drop (List.mem_of_mem_take hx)
      obtain ⟨n, _, e⟩ := List.mem_map.mp hx
      exact ⟨n, e.symm⟩
  clear hx
  -- the source, the plank
  refine ⟨_, rfl, trivial, rfl, List.nodup_nil, [.int c], rfl, ⟨c, rfl⟩, fun cc ρ' h => ?_⟩
  obtain ⟨t, ht, rfl⟩ := h
  try simp only [pwipe1, pwipe2, back_j1, back_j2, back_j3, back_j5, back_pu3, back_pu2, back_pu1, List.set_cons_succ, List.set_cons_zero]
  refine .inr ?_
  try simp only [pwipe1, pwipe2, back_j1, back_j2, back_j3, back_j5, back_pu3, back_pu2, back_pu1, List.set_cons_succ, List.set_cons_zero]
  refine ⟨_, rfl, .inl ⟨⟨_, _, rfl⟩, rfl, (by show [2].Nodup; decide), t, rfl, ht, fun l xs b t1 ρ1 ht1 hm hbd hh => ?_⟩⟩
  match ρ1, hh with
  | y :: tl, hh =>
  cases hh
  obtain ⟨L, rfl, L1, L2⟩ := hm.len
  have hp : Pk L xs := ⟨L1, L2, hm.2.1, hm.2.2.1⟩
  have h12 := hm.2.2.1
  try simp only [pwipe1, pwipe2, back_j1, back_j2, back_j3, back_j5, back_pu3, back_pu2, back_pu1, List.set_cons_succ, List.set_cons_zero]
  -- weights
  refine ⟨_, rfl, .inl ⟨_, rfl, trivial, trivial, ⟨_, _, rfl⟩, rfl, (by show [2].Nodup; decide), t1, .int L, xs, b, 9, rfl, ht1, hm, by decide, by decide, fun ws t2 ρ2 ht2 hw hz hh => ?_⟩⟩
  obtain ⟨tl2, rfl⟩ := head_inv hh
  have hz : ∀ z ∈ ws, WtOk L z := hz
  try simp only [pwipe1, pwipe2, back_j1, back_j2, back_j3, back_j5, back_pu3, back_pu2, back_pu1, List.set_cons_succ, List.set_cons_zero]
  clear hh
  refine ⟨_, rfl, .inl ⟨_, rfl, _, _, _, rfl, rfl, val1 _ _ _, 5, L, rfl, rfl, .inl (.inl ⟨by decide, by decide⟩), 5 * L, 1, rfl, rfl, trivial, ⟨_, _, rfl⟩, rfl, (by show [2].Nodup; decide), t2, 5 * L + 1, rfl, ht2, by omega, by omega, fun r t3 ρ3 ht3 r0 r1 hh => ?_⟩⟩
  obtain ⟨tl3, rfl⟩ := head_inv hh
  try simp only [pwipe1, pwipe2, back_j1, back_j2, back_j3, back_j5, back_pu3, back_pu2, back_pu1, List.set_cons_succ, List.set_cons_zero]
  clear hh
  refine ⟨trivial, trivial, rfl, List.nodup_nil, [.int r, .int 5], rfl, ⟨r, 5, rfl, by decide, small_abs (by decide)⟩, fun d2 ρ2 h2 => ?_⟩
  rw [h2 _ _ rfl]
  clear h2
  try simp only [pwipe1, pwipe2, back_j1, back_j2, back_j3, back_j5, back_pu3, back_pu2, back_pu1, List.set_cons_succ, List.set_cons_zero]
  refine ⟨trivial, trivial, [.int 3, .int 2], rfl, (by show 2 ≤ 100000; decide), trivial, trivial, [_, _], rfl, (by show 2 ≤ 100000; decide), trivial, [_], rfl, (by show 1 ≤ 100000; decide), _, _, rfl, rfl, (by rw [List.length_map]; show ws.length + 1 ≤ _; omega), ?_⟩
  have eW : ws.map wtK ++ [.tup [trkD (Rat.divInt r 5), .tup [.int 3, .int 2]]] = (ws ++ [(Rat.divInt r 5, Rat.divInt 3 2)]).map wtK := by
    rw [List.map_append, ← half3]
    rfl
  rw [eW]
  have hW : (ws ++ [(Rat.divInt r 5, Rat.divInt 3 2)]).length ≤ 10 := by
    rw [List.length_append]
    show ws.length + 1 ≤ 10
    omega
  have zW : ∀ z ∈ ws ++ [(Rat.divInt r 5, Rat.divInt 3 2)], WtOk L z := fun z h => by
    rcases List.mem_append.mp h with h | h
    · exact hz z h
    · rw [List.mem_singleton.mp h]
      exact half_ok r0 (by omega) L2
  generalize ws ++ [(Rat.divInt r 5, Rat.divInt 3 2)] = W at *
  clear eW hz hw
  try simp only [pwipe1, pwipe2, back_j1, back_j2, back_j3, back_j5, back_pu3, back_pu2, back_pu1, List.set_cons_succ, List.set_cons_zero]
  have hW16 : W.length ≤ 16 := by omega
  have nW : ∀ z ∈ W, 0 ≤ z.2 := fun z h => Rat.le_of_lt (zW z h).2.1
  refine ⟨_, rfl, trivial, rfl, List.nodup_nil, [_], rfl, ⟨_, _, _, rfl, hm⟩, fun y ρ' h => ?_⟩
  rw [h _ _ _ rfl]
  clear h
  try simp only [pwipe1, pwipe2, back_j1, back_j2, back_j3, back_j5, back_pu3, back_pu2, back_pu1, List.set_cons_succ, List.set_cons_zero]
  refine ⟨_, rfl, .inl ⟨_, rfl, trivial, ⟨_, _, rfl⟩, rfl, (by show [2].Nodup; decide), t3, .int L, xs, b, rfl, ht3, hm, fun ms t4 ρ4 ht4 hms hh => ?_⟩⟩
  obtain ⟨tl4, rfl⟩ := head_inv hh
  have hms : LotOk xs.length ms := hms
  try simp only [pwipe1, pwipe2, back_j1, back_j2, back_j3, back_j5, back_pu3, back_pu2, back_pu1, List.set_cons_succ, List.set_cons_zero]
  clear hh
  have hml := lot_len hms
  -- the fewer ones
  refine ⟨_, rfl, ms.map D.int, rfl, fun i acc ρ => ∃ (qs : List Int) (t' : List D), acc = qs.map D.int ∧ qs.Sublist (ms.take i) ∧ SrcOk t' ∧ ρ = [some (.pu (.sql (intsD ns))), some (.pu (.int c)), some (.ow false (.lst t')), some (.pu (mD (.int L) xs b)), some (.pu (.lst (W.map wtK))), some (.pu (plk (a 107) (.int L) xs b)), some (.pu (.tup (ms.map D.int))), a7, a8, none], ⟨[], t4, rfl, List.nil_sublist _, ht4, rfl⟩, ?_, ?_⟩
  · rintro i e acc ρ hi ⟨qs, t5, ea, es, ht5, rfl⟩
    rw [List.getElem?_map] at hi
    obtain ⟨m, hmi, rfl⟩ := Option.map_eq_some_iff.mp hi
    try simp only [pwipe1, pwipe2, back_j1, back_j2, back_j3, back_j5, back_pu3, back_pu2, back_pu1, List.set_cons_succ, List.set_cons_zero]
    refine ⟨_, rfl, .inl ⟨trivial, ⟨_, _, rfl⟩, rfl, (by show [2].Nodup; decide), t5, 2, rfl, ht5, by decide, by decide, fun r t6 ρ6 ht6 r0 r1 hh => ?_⟩⟩
    obtain ⟨tl6, rfl⟩ := head_inv hh
    try simp only [pwipe1, pwipe2, back_j1, back_j2, back_j3, back_j5, back_pu3, back_pu2, back_pu1, List.set_cons_succ, List.set_cons_zero]
    clear hh
    refine .inl ⟨r, 0, rfl, rfl, _, rfl, ?_⟩
    show if decide (r = 0) = true then _ else _
    have tk : ms.take (i + 1) = ms.take i ++ [m] := by rw [List.take_add_one, hmi]; rfl
    by_cases c : r = 0
    · rw [decide_eq_true c]
      refine ⟨_, rfl, ?_, qs ++ [m], t6, ?_, ?_, ht6, rfl⟩
      · rw [ea, List.length_map]
        have := es.length_le
        rw [List.length_take] at this
        omega
      · rw [ea, List.map_append]
        rfl
      · rw [tk]
        exact es.append (List.Sublist.refl _)
    · rw [decide_eq_false c]
      refine ⟨qs, t6, ea, ?_, ht6, rfl⟩
      rw [tk]
      exact es.trans (List.sublist_append_left _ _)
  rintro acc ρ ⟨fs, t5, ea, es, ht5, rfl⟩
  subst ea
  rw [List.length_map, List.take_length] at es
  have hfs := lot_sub hms es
  have sub : ∀ r ∈ fs, r ∈ ms := fun r h => es.subset h
  refine ⟨trivial, [_], rfl, _, _, rfl, rfl, ?_⟩
  try simp only [pwipe1, pwipe2, back_j1, back_j2, back_j3, back_j5, back_pu3, back_pu2, back_pu1, List.set_cons_succ, List.set_cons_zero]
  have cb : ∀ {V : List (Rat × Rat)} {ls : List Int} {Ψ : OC → Ab → Prop} {ρ : Ab}, V.length ≤ 16 → (∀ z ∈ V, WtOk L z) → LotOk xs.length ls → Ψ (.lst (rowsD (restsOf xs.length ls) (lieQ L xs V ls))) ρ → wBor (a 107) (pus ([plk (a 107) (.int L) xs b, .lst (V.map wtK)] ++ [.tup (ls.map D.int)])) fun c _ => Ψ c ρ := fun {V ls Ψ ρ} hV zV hl h => ⟨L, xs, _, V, _, ls, rfl, hp, hbd, hV, zV, .inr ⟨rfl, hl⟩, fun ρ' => by rw [brn_rowsD hl]; exact h⟩
  refine ⟨trivial, _, rfl, _, rfl, trivial, trivial, _, rfl, trivial, [plk (a 107) (.int L) xs b, .lst (W.map wtK)], [.tup (fs.map D.int)], rfl, rfl, rfl, rfl, cb hW16 zW hfs ?_⟩
  refine ⟨trivial, _, rfl, _, rfl, trivial, trivial, _, rfl, trivial, [plk (a 107) (.int L) xs b, .lst (W.map wtK)], [.tup (ms.map D.int)], rfl, rfl, rfl, rfl, cb hW16 zW hms ?_⟩
  refine ⟨trivial, trivial, rfl, List.nodup_nil, ⟨_, _, _, _, rfl, rests_few hfs h12, fun r hr => ⟨rest_in sub hr, lie_lesser hp nW hfs hms sub hr, lie_bt hp hW16 zW hfs hr, lie_bt hp hW16 zW hms (rest_in sub hr)⟩, fun ρ' => ?_⟩⟩
  refine ⟨_, rfl, ?_⟩
  show if (!true) = true then _ else _
  try simp only [pwipe1, pwipe2, back_j1, back_j2, back_j3, back_j5, back_pu3, back_pu2, back_pu1, List.set_cons_succ, List.set_cons_zero]
  refine ⟨_, rfl, .inl ⟨_, rfl, _, rfl, _, rfl, _, rfl, _, rfl, trivial, trivial, [_, _], rfl, (by show 2 ≤ 100000; decide), trivial, trivial, trivial, trivial, ⟨_, _, rfl⟩, rfl, (by show [2].Nodup; decide), t5, L, xs, b, W, ms, fs, rfl, ht5, hm, hbd, hW16, zW, hms, hfs, sub, fun t6 ρ6 ht6 hh => ?_⟩⟩
  obtain ⟨tl6, rfl⟩ := head_inv hh
  clear hh
  refine ⟨_, rfl, ?_⟩
  show if (!true) = true then _ else _
  try simp only [pwipe1, pwipe2, back_j1, back_j2, back_j3, back_j5, back_pu3, back_pu2, back_pu1, List.set_cons_succ, List.set_cons_zero]
  refine ⟨_, rfl, _, rfl, .inl ⟨_, rfl, trivial, trivial, ⟨_, _, rfl⟩, rfl, (by show [2].Nodup; decide), t6, .int L, xs, b, 3, rfl, ht6, hm, by decide, by decide, fun vs t7 ρ7 ht7 hv zv hh => ?_⟩⟩
  obtain ⟨tl7, rfl⟩ := head_inv hh
  have zv : ∀ z ∈ vs, WtOk L z := zv
  clear hh
  try simp only [pwipe1, pwipe2, back_j1, back_j2, back_j3, back_j5, back_pu3, back_pu2, back_pu1, List.set_cons_succ, List.set_cons_zero]
  refine ⟨_, _, rfl, rfl, (by rw [List.length_map, List.length_map]; omega), ?_⟩
  rw [← List.map_append]
  try simp only [pwipe1, pwipe2, back_j1, back_j2, back_j3, back_j5, back_pu3, back_pu2, back_pu1, List.set_cons_succ, List.set_cons_zero]
  have hV16 : (W ++ vs).length ≤ 16 := by rw [List.length_append]; omega
  have zV : ∀ z ∈ W ++ vs, WtOk L z := fun z h => (List.mem_append.mp h).elim (zW z) (zv z)
  have nv : ∀ z ∈ vs, 0 ≤ z.2 := fun z h => Rat.le_of_lt (zv z h).2.1
  refine ⟨trivial, _, rfl, _, rfl, trivial, trivial, _, rfl, trivial, [plk (a 107) (.int L) xs b, .lst ((W ++ vs).map wtK)], [.tup (ms.map D.int)], rfl, rfl, rfl, rfl, cb hV16 zV hms ?_⟩
  refine ⟨trivial, _, rfl, _, rfl, trivial, trivial, _, rfl, trivial, [plk (a 107) (.int L) xs b, .lst (W.map wtK)], [.tup (ms.map D.int)], rfl, rfl, rfl, rfl, cb hW16 zW hms ?_⟩
  refine ⟨trivial, trivial, rfl, List.nodup_nil, ⟨_, _, _, _, rfl, rests_few hms h12, fun r hr => ⟨hr, lie_more hp nv hms hr, lie_bt hp hV16 zV hms hr, lie_bt hp hW16 zW hms hr⟩, fun ρ' => ?_⟩⟩
  refine ⟨_, rfl, ?_⟩
  show if (!true) = true then _ else _
  exact ⟨_, _, _, _, _, _, _, _, _, rfl⟩

end
end K06
set_option synthInstance.maxSize 100000
set_option synthInstance.maxHeartbeats 4000000
set_option Elab.async false
set_option linter.all false
set_option maxRecDepth 100000
set_option maxHeartbeats 8000000
set_option autoImplicit false
namespace K06
open PySem PySem.Spec L2 Dx Kd
/-! ### what the head shows, as one Bool a thing -/
def okF (K : PySem.W.Frag) (f : Addr) (cd : Value) (q : Str) : Bool := PySem.W.codeIn K cd q && PySem.W.keepIn K (.ref f)
theorem okF_c {K : PySem.W.Frag} {f : Addr} {cd : Value} {q : Str} (h : okF K f cd q = true) : PySem.W.codeIn K cd q = true := (Bool.and_eq_true_iff.mp h).1
theorem okF_k {K : PySem.W.Frag} {f : Addr} {cd : Value} {q : Str} (h : okF K f cd q = true) : PySem.W.keepIn K (.ref f) = true := (Bool.and_eq_true_iff.mp h).2
def allB (l : List Bool) : Bool := l.all id
theorem allB_cons {b : Bool} {l : List Bool} (h : allB (b :: l) = true) : b = true ∧ allB l = true := Bool.and_eq_true_iff.mp h
def clsB (K : PySem.W.Frag) (C : Addr) : Bool := allB [PySem.W.plainGet K C Str.empty, PySem.W.hasDictIn K C, PySem.W.plainOver K C, decide (PySem.W.findIn K (.ref C) "__setattr__" = some (some (.builtin "object.__setattr__")))]
theorem clsB_ok {K : PySem.W.Frag} {C : Addr} (h : clsB K C = true) : Cls K C := by
  obtain ⟨h1, h⟩ := allB_cons h
  obtain ⟨h2, h⟩ := allB_cons h
  obtain ⟨h3, h⟩ := allB_cons h
  exact ⟨h1, h2, h3, of_decide_eq_true (allB_cons h).1⟩
def mkB (K : PySem.W.Frag) (C f : Addr) : Bool := allB [PySem.W.makesIn K C, decide (PySem.W.findIn K (.ref C) "__init__" = some (some (.ref f))), PySem.W.isFn K (.ref f), PySem.W.keepIn K (.ref C)]
theorem mkB_ok {K : PySem.W.Frag} {C f : Addr} (h : mkB K C f = true) : Mk K C f := by
  obtain ⟨h1, h⟩ := allB_cons h
  obtain ⟨h2, h⟩ := allB_cons h
  obtain ⟨h3, h⟩ := allB_cons h
  exact ⟨h1, of_decide_eq_true h2, h3, (allB_cons h).1⟩
def eqB (K : PySem.W.Frag) (C f : Addr) : Bool := allB [decide (PySem.W.findIn K (.ref C) "__eq__" = some (some (.ref f))), PySem.W.isFn K (.ref f), decide (PySem.W.findIn K (.ref C) "__ne__" = some (some (.builtin "object.__ne__"))), decide (PySem.W.mroIn K C (.type "object") = some true), decide (PySem.W.mroIn K C (.type "list") = some false), decide (PySem.W.mroIn K C (.type "NoneType") = some false)]
theorem eqB_ok {K : PySem.W.Frag} {C f : Addr} (h : eqB K C f = true) : OwnEqK K C f := by
  obtain ⟨h1, h⟩ := allB_cons h
  obtain ⟨h2, h⟩ := allB_cons h
  obtain ⟨h3, h⟩ := allB_cons h
  obtain ⟨h4, h⟩ := allB_cons h
  obtain ⟨h5, h⟩ := allB_cons h
  exact ⟨of_decide_eq_true h1, h2, of_decide_eq_true h3, of_decide_eq_true h4, of_decide_eq_true h5, of_decide_eq_true (allB_cons h).1⟩
def insB (K : PySem.W.Frag) (C : Addr) : Bool := allB [decide (PySem.W.findIn K (.ref C) "__class__" = some (some (.builtin "object.__class__"))), decide (PySem.W.specialIn K (.builtin "object.__class__") "__get__" = some (some (.builtin "getset_descriptor.__get__"))), decide (PySem.W.takesIn K (.builtin "object.__class__") = some true), decide (PySem.W.mroIn K C (.type "object") = some true)]
theorem insB_ok {K : PySem.W.Frag} {C : Addr} (c : Cls K C) (h : insB K C = true) : InsK K C := by
  obtain ⟨h1, h⟩ := allB_cons h
  obtain ⟨h2, h⟩ := allB_cons h
  obtain ⟨h3, h⟩ := allB_cons h
  exact ⟨c, of_decide_eq_true h1, of_decide_eq_true h2, of_decide_eq_true h3, of_decide_eq_true (allB_cons h).1⟩
def kinds : List String := ["NoneType", "bool", "int", "str", "tuple", "list", "dict"]
def plankB (K : PySem.W.Frag) (C fi fe : Addr) : Bool := allB [clsB K C, decide (PySem.W.findIn K (.ref C) "_length" = some none), decide (PySem.W.findIn K (.ref C) "_props" = some none), decide (PySem.W.findIn K (.ref C) "_bend" = some none), mkB K C fi, eqB K C fe, insB K C, kinds.all fun n => decide (PySem.W.kitOne K (.type n) (.ref C) = some false)]
theorem plankB_ok {K : PySem.W.Frag} {C fi fe : Addr} (h : plankB K C fi fe = true) : Cls K C ∧ NoAttr K C "_length" ∧ NoAttr K C "_props" ∧ NoAttr K C "_bend" ∧ Mk K C fi ∧ OwnEqK K C fe ∧ InsK K C ∧ ∀ n ∈ (["NoneType", "bool", "int", "str", "tuple", "list", "dict"] : List String), PySem.W.kitOne K (.type n) (.ref C) = some false := by
  obtain ⟨h1, h⟩ := allB_cons h
  obtain ⟨h2, h⟩ := allB_cons h
  obtain ⟨h3, h⟩ := allB_cons h
  obtain ⟨h4, h⟩ := allB_cons h
  obtain ⟨h5, h⟩ := allB_cons h
  obtain ⟨h6, h⟩ := allB_cons h
  obtain ⟨h7, h⟩ := allB_cons h
  exact ⟨clsB_ok h1, show PySem.W.findIn K (.ref C) "_length" = some none from of_decide_eq_true h2, show PySem.W.findIn K (.ref C) "_props" = some none from of_decide_eq_true h3, show PySem.W.findIn K (.ref C) "_bend" = some none from of_decide_eq_true h4, mkB_ok h5, eqB_ok h6, insB_ok (clsB_ok h1) h7, fun n hn => of_decide_eq_true (List.all_eq_true.mp (allB_cons h).1 n hn)⟩
def exB (K : PySem.W.Frag) (C : Addr) : Bool := allB [decide (PySem.W.findIn K (.ref C) "__getattribute__" = some (some (.builtin "BaseException.__getattribute__"))), decide (PySem.W.findIn K (.ref C) "__getattr__" = some none), decide (PySem.W.subIn K (.ref C) (.type "BaseException") = some true), PySem.W.hasDictIn K C, insB K C]
theorem exB_ok {K : PySem.W.Frag} {C : Addr} (h : exB K C = true) : ExcC K C := by
  obtain ⟨h1, h⟩ := allB_cons h
  obtain ⟨h2, h⟩ := allB_cons h
  obtain ⟨h3, h⟩ := allB_cons h
  obtain ⟨h4, h⟩ := allB_cons h
  have h := (allB_cons h).1
  obtain ⟨g1, h⟩ := allB_cons h
  obtain ⟨g2, h⟩ := allB_cons h
  obtain ⟨g3, h⟩ := allB_cons h
  exact ⟨of_decide_eq_true h1, of_decide_eq_true h2, of_decide_eq_true h3, h4, of_decide_eq_true g1, of_decide_eq_true g2, of_decide_eq_true g3, of_decide_eq_true (allB_cons h).1⟩
def veL : List Value := [.type "ValueError", .type "Exception", .type "BaseException", .type "object"]
def sxB (K : PySem.W.Frag) (C : Addr) : Bool := allB [PySem.W.excIn K C veL "ValueError.__new__", PySem.W.keepIn K (.ref C), decide (PySem.W.subIn K (.ref C) (.type "BaseException") = some true), decide (PySem.W.typeIn K (.ref C) = some (.type "type"))]
theorem sxB_ok {K : PySem.W.Frag} {C : Addr} (h : sxB K C = true) : PySem.W.excIn K C [.type "ValueError", .type "Exception", .type "BaseException", .type "object"] "ValueError.__new__" = true ∧ PySem.W.keepIn K (.ref C) = true ∧ PySem.W.subIn K (.ref C) (.type "BaseException") = some true ∧ PySem.W.typeIn K (.ref C) = some (.type "type") := by
  obtain ⟨h1, h⟩ := allB_cons h
  obtain ⟨h2, h⟩ := allB_cons h
  obtain ⟨h3, h⟩ := allB_cons h
  exact ⟨h1, h2, of_decide_eq_true h3, of_decide_eq_true (allB_cons h).1⟩
def xcB (K : PySem.W.Frag) (C f : Addr) (bm : List Value) (x : Str) : Bool := allB [PySem.HandSPX.refsVE bm, decide (PySem.W.findIn K (.ref C) "__setattr__" = some (some (.builtin "object.__setattr__"))), decide (PySem.W.subIn K (.ref C) (.type "BaseException") = some true), decide (PySem.W.typeIn K (.ref C) = some (.type "type")), PySem.W.keepIn K (.ref C), decide (PySem.W.findIn K (.ref C) "__init__" = some (some (.ref f))), decide (PySem.W.typeIn K (.ref f) = some (.type "function")), decide (PySem.W.findIn K (.ref C) x = some none)]
theorem xcB_ok {K : PySem.W.Frag} {C f N : Addr} {nm q x : Str} {bs bm : List Value} {sn : List Str} {sub : List Value} {ab : Bool} {col : Option Bool} {dd : Option Addr} {k0 k1 k2 k3 k5 : Option Value} (l : K.lookup C = some (excClassObj nm q C N bs bm true sn sub ab col dd k0 k1 k2 k3 k5 "ValueError.__new__")) (h : xcB K C f bm x = true) : Xc K C f x := by
  obtain ⟨h1, h⟩ := allB_cons h
  obtain ⟨h2, h⟩ := allB_cons h
  obtain ⟨h3, h⟩ := allB_cons h
  obtain ⟨h4, h⟩ := allB_cons h
  obtain ⟨h5, h⟩ := allB_cons h
  obtain ⟨h6, h⟩ := allB_cons h
  obtain ⟨h7, h⟩ := allB_cons h
  exact ⟨⟨⟨_, _, _, _, _, _, _, _, _, _, _, _, _, _, _, l, h1⟩, of_decide_eq_true h2, of_decide_eq_true h3, of_decide_eq_true h4, h5⟩, of_decide_eq_true h6, of_decide_eq_true h7, of_decide_eq_true (allB_cons h).1⟩
def clsMB (K : PySem.W.Frag) (C fi : Addr) (ns : List Str) : Bool := allB [clsB K C, ns.all (fun f => decide (PySem.W.findIn K (.ref C) f = some none)), mkB K C fi]
theorem clsMB_ok {K : PySem.W.Frag} {C fi : Addr} {ns : List Str} (h : clsMB K C fi ns = true) : Cls K C ∧ (∀ f : Str, f ∈ ns → NoAttr K C f) ∧ Mk K C fi := by
  obtain ⟨h1, h⟩ := allB_cons h
  obtain ⟨h2, h⟩ := allB_cons h
  exact ⟨clsB_ok h1, fun f hf => show PySem.W.findIn K (.ref C) f = some none from of_decide_eq_true (List.all_eq_true.mp h2 f hf), mkB_ok (allB_cons h).1⟩
theorem dra_is {K : PySem.W.Frag} {B : Hp} : ∀ ns : List Int, DrA K B (ns.map V.int) (intsD ns)
  | [] => .nil
  | n :: ns => .cons (.int n) (dra_is ns)
theorem law_sp {K : PySem.W.Frag} {H : Hp} {sa : Addr} {ns : List Int} (hS : SqL K H sa (ns.map V.int)) : spD K 1 wLaw [.ref sa] H (fun v _ => v = .bl true) fun _ _ _ => False := by
  have s0 : Same (noIns H) H := fun b o e => (noIns_inv e).1
  have hS' : SqL K (noIns H) sa (ns.map V.int) := hS.imp (fun z => noIns_rd z fun _ _ _ z => nomatch z) id
  refine ⟨fun _ => True, noIns H, [some (.pu (.sql (intsD ns)))], X0, fun d _ => d = .bl true, rfl, ⟨s0, Same.refl _, fun b o e _ _ => e, fun b o e => .inl e, fun b e => e, (fun b o e => nomatch e), rfl, fun i d e => ?_, fun i p c e => ?_, fun i j p q c e h1 => ?_, fun _ _ _ _ => trivial, trivial, ⟨noIns_mm, fun _ x => .inl x, fun _ _ => rfl⟩⟩, ⟨[_], rfl, ⟨ns, rfl⟩, fun r ρ' h => h⟩, fun v d B' H' ρ' fi dr q => ?_, fun _ _ _ _ _ _ _ _ z => z.elim⟩
  · match i, e with
    | 0, e =>
      cases e
      exact ⟨.ref sa, rfl, .sql hS' (dra_is ns)⟩
    | i + 1, e => cases e
  · match i, e with
    | 0, e => cases e
    | i + 1, e => cases e
  · match i, h1 with
    | 0, h1 => cases h1
    | i + 1, h1 => cases h1
  · subst q
    cases dr
    rfl
theorem walk {l : PySem.W.OpenLaw} {q : Program} {loose : List Str} {XP : (Str → Option Value) → Heap → Prop} {YP : World → Heap → Prop} {d : DefRec} {K : Params → PySem.W.Frag} (hn : l.most = some 63) (hdf : d.params.defaults = [])
    (hY : ∀ (w : World) (h : Heap), YP w h → (K w.params).In h)
    (F : ∀ (w : World) (mg : Str → Option Value) (fa : Addr) (h : Heap), (K w.params).In h → h.Ns mainGlobals mg → mg d.name = some (.ref fa) →
      ∃ fd : FuncData, (∀ (s : Shared) (u : Value), BindsTo s fd ⟨[u], []⟩ [("_law_script", u)]) ∧ ∀ base : Heap, (K w.params).In base → base.Ns mainGlobals mg → FnOk l.prog w (K w.params) mg base CX0 12 fa fd ["_law_script"] (spD (K w.params) 1 wLaw)) :
    PySem.W.WalkO q loose XP YP l.row.toRowW d [] (fun f vs => PySem.call f vs) :=
  L2.walk_of (n := 63) (k := 12) (x := "_law_script") (CX := fun _ => CX0) (sp := fun w => spD (K w.params) 1 wLaw) hn (by decide) hdf ⟨rfl, by decide, by decide⟩ hY F (fun _ _ _ _ _ _ hS => law_sp hS) fun _ _ _ _ _ z => z
def noughtB (its : Array Value) : Bool := match its.toList with
  | [.int i _, .int j _] => decide (i = 0) && decide (j = 1)
  | _ => false
theorem noughtB_ok {K : PySem.W.Frag} {A : Addr} {od : Option Addr} {its : Array Value} {m : Nat} {sl : Array (Option Value)} (l : K.lookup A = some ⟨.type "tuple", od, .seq its m, sl⟩) (z : noughtB its = true) : ∀ H : Hp, SqT K H A [.int 0, .int 1] := by
  intro H
  unfold noughtB at z
  split at z
  · rename_i i t j u e
    obtain ⟨z1, z2⟩ := Bool.and_eq_true_iff.mp z
    have z1 := of_decide_eq_true z1
    have z2 := of_decide_eq_true z2
    subst z1 z2
    refine .inr ⟨_, its, m, l, rfl, rfl, ?_, ?_⟩
    · have : its.size = its.toList.length := rfl
      rw [this, e]
      show 2 ≤ sizeLine
      decide
    · rw [e]
      exact .cons ⟨_, rfl⟩ (.cons ⟨_, rfl⟩ .nil)
  · cases z

theorem all_mk {P : Program} {w : World} {K : PySem.W.Frag} {h : Heap} {mg : Str → Option Value} {fn : Addr} (X : K.In h) (G : h.Ns mainGlobals mg) (hfn : mg "law" = some (.ref fn))
    {C101 : Addr}
    {C103 : Addr}
    {C104 : Addr}
    {C105 : Addr}
    {C106 : Addr}
    {C107 : Addr}
    {C108 : Addr}
    {C114 : Addr}
    {f1 : Addr} {oc1 cd1 kv1 dc1 pm1 ct1 : Value} {od1 an1 : Option Addr} {sl1 : Array (Option Value)}
    {f2 : Addr} {oc2 cd2 kv2 dc2 pm2 ct2 : Value} {od2 an2 : Option Addr} {sl2 : Array (Option Value)}
    {f3 : Addr} {oc3 cd3 kv3 dc3 pm3 ct3 : Value} {od3 an3 : Option Addr} {sl3 : Array (Option Value)}
    {f4 : Addr} {oc4 cd4 kv4 dc4 pm4 ct4 : Value} {od4 an4 : Option Addr} {sl4 : Array (Option Value)}
    {f5 : Addr} {oc5 cd5 kv5 dc5 pm5 ct5 : Value} {od5 an5 : Option Addr} {sl5 : Array (Option Value)}
    {f6 : Addr} {oc6 cd6 kv6 dc6 pm6 ct6 : Value} {od6 an6 : Option Addr} {sl6 : Array (Option Value)}
    {f7 : Addr} {oc7 cd7 kv7 dc7 pm7 ct7 : Value} {od7 an7 : Option Addr} {sl7 : Array (Option Value)}
    {f8 : Addr} {oc8 cd8 kv8 dc8 pm8 ct8 : Value} {od8 an8 : Option Addr} {sl8 : Array (Option Value)}
    {f9 : Addr} {oc9 cd9 kv9 dc9 pm9 ct9 : Value} {od9 an9 : Option Addr} {sl9 : Array (Option Value)}
    {f10 : Addr} {oc10 cd10 kv10 dc10 pm10 ct10 : Value} {od10 an10 : Option Addr} {sl10 : Array (Option Value)}
    {f11 : Addr} {oc11 cd11 kv11 dc11 pm11 ct11 : Value} {od11 an11 : Option Addr} {sl11 : Array (Option Value)}
    {f12 : Addr} {oc12 cd12 kv12 dc12 pm12 ct12 : Value} {od12 an12 : Option Addr} {sl12 : Array (Option Value)}
    {f13 : Addr} {oc13 cd13 kv13 dc13 pm13 ct13 : Value} {od13 an13 : Option Addr} {sl13 : Array (Option Value)}
    {f14 : Addr} {oc14 cd14 kv14 dc14 pm14 ct14 : Value} {od14 an14 : Option Addr} {sl14 : Array (Option Value)}
    {f15 : Addr} {oc15 cd15 kv15 dc15 pm15 ct15 : Value} {od15 an15 : Option Addr} {sl15 : Array (Option Value)}
    {f16 : Addr} {oc16 cd16 kv16 dc16 pm16 ct16 : Value} {od16 an16 : Option Addr} {sl16 : Array (Option Value)}
    {f17 : Addr} {oc17 cd17 kv17 dc17 pm17 ct17 : Value} {od17 an17 : Option Addr} {sl17 : Array (Option Value)}
    {f18 : Addr} {oc18 cd18 kv18 dc18 pm18 ct18 : Value} {od18 an18 : Option Addr} {sl18 : Array (Option Value)}
    {f19 : Addr} {oc19 cd19 kv19 dc19 pm19 ct19 : Value} {od19 an19 : Option Addr} {sl19 : Array (Option Value)}
    {f20 : Addr} {oc20 cd20 kv20 dc20 pm20 ct20 : Value} {od20 an20 : Option Addr} {sl20 : Array (Option Value)}
    {f21 : Addr} {oc21 cd21 kv21 dc21 pm21 ct21 : Value} {od21 an21 : Option Addr} {sl21 : Array (Option Value)}
    {f22 : Addr} {oc22 cd22 kv22 dc22 pm22 ct22 : Value} {od22 an22 : Option Addr} {sl22 : Array (Option Value)}
    {f23 : Addr} {oc23 cd23 kv23 dc23 pm23 ct23 : Value} {od23 an23 : Option Addr} {sl23 : Array (Option Value)}
    {f24 : Addr} {oc24 cd24 kv24 dc24 pm24 ct24 : Value} {od24 an24 : Option Addr} {sl24 : Array (Option Value)}
    {f25 : Addr} {oc25 cd25 kv25 dc25 pm25 ct25 : Value} {od25 an25 : Option Addr} {sl25 : Array (Option Value)}
    {f26 : Addr} {oc26 cd26 kv26 dc26 pm26 ct26 : Value} {od26 an26 : Option Addr} {sl26 : Array (Option Value)}
    {f27 : Addr} {oc27 cd27 kv27 dc27 pm27 ct27 : Value} {od27 an27 : Option Addr} {sl27 : Array (Option Value)}
    {f28 : Addr} {oc28 cd28 kv28 dc28 pm28 ct28 : Value} {od28 an28 : Option Addr} {sl28 : Array (Option Value)}
    {f29 : Addr} {oc29 cd29 kv29 dc29 pm29 ct29 : Value} {od29 an29 : Option Addr} {sl29 : Array (Option Value)}
    {f30 : Addr} {oc30 cd30 kv30 dc30 pm30 ct30 : Value} {od30 an30 : Option Addr} {sl30 : Array (Option Value)}
    {f31 : Addr} {oc31 cd31 kv31 dc31 pm31 ct31 : Value} {od31 an31 : Option Addr} {sl31 : Array (Option Value)}
    {f32 : Addr} {oc32 cd32 kv32 dc32 pm32 ct32 : Value} {od32 an32 : Option Addr} {sl32 : Array (Option Value)}
    {f33 : Addr} {oc33 cd33 kv33 dc33 pm33 ct33 : Value} {od33 an33 : Option Addr} {sl33 : Array (Option Value)}
    {f34 : Addr} {oc34 cd34 kv34 dc34 pm34 ct34 : Value} {od34 an34 : Option Addr} {sl34 : Array (Option Value)}
    {f35 : Addr} {oc35 cd35 kv35 dc35 pm35 ct35 : Value} {od35 an35 : Option Addr} {sl35 : Array (Option Value)}
    {f36 : Addr} {oc36 cd36 kv36 dc36 pm36 ct36 : Value} {od36 an36 : Option Addr} {sl36 : Array (Option Value)}
    {f37 : Addr} {oc37 cd37 kv37 dc37 pm37 ct37 : Value} {od37 an37 : Option Addr} {sl37 : Array (Option Value)}
    {f39 : Addr} {oc39 cd39 kv39 dc39 pm39 ct39 : Value} {od39 an39 : Option Addr} {sl39 : Array (Option Value)}
    {f40 : Addr} {oc40 cd40 kv40 dc40 pm40 ct40 : Value} {od40 an40 : Option Addr} {sl40 : Array (Option Value)}
    {f41 : Addr} {oc41 cd41 kv41 dc41 pm41 ct41 : Value} {od41 an41 : Option Addr} {sl41 : Array (Option Value)}
    {f42 : Addr} {oc42 cd42 kv42 dc42 pm42 ct42 : Value} {od42 an42 : Option Addr} {sl42 : Array (Option Value)}
    {f43 : Addr} {oc43 cd43 kv43 dc43 pm43 ct43 : Value} {od43 an43 : Option Addr} {sl43 : Array (Option Value)}
    {f45 : Addr} {oc45 cd45 kv45 dc45 pm45 ct45 : Value} {od45 an45 : Option Addr} {sl45 : Array (Option Value)}
    {f46 : Addr} {oc46 cd46 kv46 dc46 pm46 ct46 : Value} {od46 an46 : Option Addr} {sl46 : Array (Option Value)}
    {f47 : Addr} {oc47 cd47 kv47 dc47 pm47 ct47 : Value} {od47 an47 : Option Addr} {sl47 : Array (Option Value)}
    {f54 : Addr} {oc54 cd54 kv54 dc54 pm54 ct54 : Value} {od54 an54 : Option Addr} {sl54 : Array (Option Value)}
    {f55 : Addr} {oc55 cd55 kv55 dc55 pm55 ct55 : Value} {od55 an55 : Option Addr} {sl55 : Array (Option Value)}
    {f56 : Addr} {oc56 cd56 dc56 pm56 ct56 : Value} {od56 an56 : Option Addr} {sl56 : Array (Option Value)}
    {f57 : Addr} {oc57 cd57 dc57 pm57 ct57 : Value} {od57 an57 : Option Addr} {sl57 : Array (Option Value)}
    {f58 : Addr} {oc58 cd58 dc58 pm58 ct58 : Value} {od58 an58 : Option Addr} {sl58 : Array (Option Value)}
    {f59 : Addr} {oc59 cd59 kv59 dc59 pm59 ct59 : Value} {od59 an59 : Option Addr} {sl59 : Array (Option Value)}
    {f60 : Addr} {oc60 cd60 kv60 dc60 pm60 ct60 : Value} {od60 an60 : Option Addr} {sl60 : Array (Option Value)}
    {f61 : Addr} {oc61 cd61 kv61 dc61 pm61 ct61 : Value} {od61 an61 : Option Addr} {sl61 : Array (Option Value)}
    {f62 : Addr} {oc62 cd62 kv62 dc62 pm62 ct62 : Value} {od62 an62 : Option Addr} {sl62 : Array (Option Value)}
    {f63 : Addr} {oc63 cd63 kv63 dc63 pm63 ct63 : Value} {od63 an63 : Option Addr} {sl63 : Array (Option Value)}
    {f64 : Addr} {oc64 cd64 kv64 dc64 pm64 ct64 : Value} {od64 an64 : Option Addr} {sl64 : Array (Option Value)}
    {f67 : Addr} {oc67 cd67 kv67 dc67 pm67 ct67 : Value} {od67 an67 : Option Addr} {sl67 : Array (Option Value)}
    {f69 : Addr} {oc69 cd69 kv69 dc69 pm69 ct69 : Value} {od69 an69 : Option Addr} {sl69 : Array (Option Value)}
    {f70 : Addr} {oc70 cd70 kv70 dc70 pm70 ct70 : Value} {od70 an70 : Option Addr} {sl70 : Array (Option Value)}
    {f71 : Addr} {oc71 cd71 kv71 dc71 pm71 ct71 : Value} {od71 an71 : Option Addr} {sl71 : Array (Option Value)}
    {f72 : Addr} {oc72 cd72 kv72 dc72 pm72 ct72 : Value} {od72 an72 : Option Addr} {sl72 : Array (Option Value)}
    {f73 : Addr} {oc73 cd73 kv73 dc73 pm73 ct73 : Value} {od73 an73 : Option Addr} {sl73 : Array (Option Value)}
    {f75 : Addr} {oc75 cd75 kv75 dc75 pm75 ct75 : Value} {od75 an75 : Option Addr} {sl75 : Array (Option Value)}
    {f76 : Addr} {oc76 cd76 kv76 dc76 pm76 ct76 : Value} {od76 an76 : Option Addr} {sl76 : Array (Option Value)}
    {f77 : Addr} {oc77 cd77 kv77 dc77 pm77 ct77 : Value} {od77 an77 : Option Addr} {sl77 : Array (Option Value)}
    {dkw56 : Addr}
    {dkw58 : Addr}
    {dkw57 : Addr}
    {t0 : Tok}
    {t1 : Tok}
    {t2 : Tok}
    {t3 : Tok}
    {A120 : Addr}
    {od120 : Option Addr} {its120 : Array Value} {m120 : Nat} {sl120 : Array (Option Value)}
    {N101 : Addr} {nm101 qn101 : Str} {bs101 bm101 : List Value} {sn101 : List Str} {su101 : List Value} {ab101 : Bool} {co101 : Option Bool} {dy101 : Option Addr} {k0101 k1101 k2101 k3101 k5101 : Option Value}
    {N103 : Addr} {nm103 qn103 : Str} {bs103 bm103 : List Value} {sn103 : List Str} {su103 : List Value} {ab103 : Bool} {co103 : Option Bool} {dy103 : Option Addr} {k0103 k1103 k2103 k3103 k5103 : Option Value}
    {N104 : Addr} {nm104 qn104 : Str} {bs104 bm104 : List Value} {sn104 : List Str} {su104 : List Value} {ab104 : Bool} {co104 : Option Bool} {dy104 : Option Addr} {k0104 k1104 k2104 k3104 k5104 : Option Value}
    {N105 : Addr} {nm105 qn105 : Str} {bs105 bm105 : List Value} {sn105 : List Str} {su105 : List Value} {ab105 : Bool} {co105 : Option Bool} {dy105 : Option Addr} {k0105 k1105 k2105 k3105 k5105 : Option Value}
    (g_NoPlank : PySem.W.nsIn K mainGlobals "NoPlank" = some (some (.ref C101)))
    (g_NoRest : PySem.W.nsIn K mainGlobals "NoRest" = some (some (.ref C103)))
    (g_NoWeights : PySem.W.nsIn K mainGlobals "NoWeights" = some (some (.ref C104)))
    (g_NoPlace : PySem.W.nsIn K mainGlobals "NoPlace" = some (some (.ref C105)))
    (g_NoLot : PySem.W.nsIn K mainGlobals "NoLot" = some (some (.ref C106)))
    (g_Plank : PySem.W.nsIn K mainGlobals "Plank" = some (some (.ref C107)))
    (g_Bearing : PySem.W.nsIn K mainGlobals "Bearing" = some (some (.ref C108)))
    (g_Moments : PySem.W.nsIn K mainGlobals "Moments" = some (some (.ref C114)))
    (n_1 : PySem.W.findIn K (.ref C101) "__init__" = some (some (.ref f1)))
    (l_1 : K.lookup f1 = some ⟨oc1, od1, .func (PySem.W.fnOf "__init__" "NoPlank.__init__" (defArgs s_NoPlank___init) (defBody s_NoPlank___init) (defScope s_NoPlank___init) .none kv1 dc1 pm1 an1 cd1 ct1), sl1⟩)
    (c_1 : okF K f1 cd1 "NoPlank.__init__" = true)
    (n_2 : PySem.W.findIn K (.ref C103) "__init__" = some (some (.ref f2)))
    (l_2 : K.lookup f2 = some ⟨oc2, od2, .func (PySem.W.fnOf "__init__" "NoRest.__init__" (defArgs s_NoRest___init) (defBody s_NoRest___init) (defScope s_NoRest___init) .none kv2 dc2 pm2 an2 cd2 ct2), sl2⟩)
    (c_2 : okF K f2 cd2 "NoRest.__init__" = true)
    (n_3 : PySem.W.findIn K (.ref C104) "__init__" = some (some (.ref f3)))
    (l_3 : K.lookup f3 = some ⟨oc3, od3, .func (PySem.W.fnOf "__init__" "NoWeights.__init__" (defArgs s_NoWeights___init) (defBody s_NoWeights___init) (defScope s_NoWeights___init) .none kv3 dc3 pm3 an3 cd3 ct3), sl3⟩)
    (c_3 : okF K f3 cd3 "NoWeights.__init__" = true)
    (n_4 : PySem.W.findIn K (.ref C105) "__init__" = some (some (.ref f4)))
    (l_4 : K.lookup f4 = some ⟨oc4, od4, .func (PySem.W.fnOf "__init__" "NoPlace.__init__" (defArgs s_NoPlace___init) (defBody s_NoPlace___init) (defScope s_NoPlace___init) .none kv4 dc4 pm4 an4 cd4 ct4), sl4⟩)
    (c_4 : okF K f4 cd4 "NoPlace.__init__" = true)
    (n_5 : PySem.W.nsIn K mainGlobals "is_whole" = some (some (.ref f5)))
    (l_5 : K.lookup f5 = some ⟨oc5, od5, .func (PySem.W.fnOf "is_whole" "is_whole" (defArgs s_is_whole) (defBody s_is_whole) (defScope s_is_whole) .none kv5 dc5 pm5 an5 cd5 ct5), sl5⟩)
    (c_5 : okF K f5 cd5 "is_whole" = true)
    (n_6 : PySem.W.nsIn K mainGlobals "is_pair" = some (some (.ref f6)))
    (l_6 : K.lookup f6 = some ⟨oc6, od6, .func (PySem.W.fnOf "is_pair" "is_pair" (defArgs s_is_pair) (defBody s_is_pair) (defScope s_is_pair) .none kv6 dc6 pm6 an6 cd6 ct6), sl6⟩)
    (c_6 : okF K f6 cd6 "is_pair" = true)
    (n_7 : PySem.W.nsIn K mainGlobals "is_fraction" = some (some (.ref f7)))
    (l_7 : K.lookup f7 = some ⟨oc7, od7, .func (PySem.W.fnOf "is_fraction" "is_fraction" (defArgs s_is_fraction) (defBody s_is_fraction) (defScope s_is_fraction) .none kv7 dc7 pm7 an7 cd7 ct7), sl7⟩)
    (c_7 : okF K f7 cd7 "is_fraction" = true)
    (n_8 : PySem.W.nsIn K mainGlobals "is_from_nought" = some (some (.ref f8)))
    (l_8 : K.lookup f8 = some ⟨oc8, od8, .func (PySem.W.fnOf "is_from_nought" "is_from_nought" (defArgs s_is_from_nought) (defBody s_is_from_nought) (defScope s_is_from_nought) .none kv8 dc8 pm8 an8 cd8 ct8), sl8⟩)
    (c_8 : okF K f8 cd8 "is_from_nought" = true)
    (n_9 : PySem.W.nsIn K mainGlobals "reduced" = some (some (.ref f9)))
    (l_9 : K.lookup f9 = some ⟨oc9, od9, .func (PySem.W.fnOf "reduced" "reduced" (defArgs s_reduced) (defBody s_reduced) (defScope s_reduced) .none kv9 dc9 pm9 an9 cd9 ct9), sl9⟩)
    (c_9 : okF K f9 cd9 "reduced" = true)
    (n_10 : PySem.W.nsIn K mainGlobals "of_whole" = some (some (.ref f10)))
    (l_10 : K.lookup f10 = some ⟨oc10, od10, .func (PySem.W.fnOf "of_whole" "of_whole" (defArgs s_of_whole) (defBody s_of_whole) (defScope s_of_whole) .none kv10 dc10 pm10 an10 cd10 ct10), sl10⟩)
    (c_10 : okF K f10 cd10 "of_whole" = true)
    (n_11 : PySem.W.nsIn K mainGlobals "is_below" = some (some (.ref f11)))
    (l_11 : K.lookup f11 = some ⟨oc11, od11, .func (PySem.W.fnOf "is_below" "is_below" (defArgs s_is_below) (defBody s_is_below) (defScope s_is_below) .none kv11 dc11 pm11 an11 cd11 ct11), sl11⟩)
    (c_11 : okF K f11 cd11 "is_below" = true)
    (n_12 : PySem.W.nsIn K mainGlobals "is_place" = some (some (.ref f12)))
    (l_12 : K.lookup f12 = some ⟨oc12, od12, .func (PySem.W.fnOf "is_place" "is_place" (defArgs s_is_place) (defBody s_is_place) (defScope s_is_place) .none kv12 dc12 pm12 an12 cd12 ct12), sl12⟩)
    (c_12 : okF K f12 cd12 "is_place" = true)
    (n_13 : PySem.W.nsIn K mainGlobals "is_above_nought" = some (some (.ref f13)))
    (l_13 : K.lookup f13 = some ⟨oc13, od13, .func (PySem.W.fnOf "is_above_nought" "is_above_nought" (defArgs s_is_above_nought) (defBody s_is_above_nought) (defScope s_is_above_nought) .none kv13 dc13 pm13 an13 cd13 ct13), sl13⟩)
    (c_13 : okF K f13 cd13 "is_above_nought" = true)
    (n_14 : PySem.W.nsIn K mainGlobals "_is_weight" = some (some (.ref f14)))
    (l_14 : K.lookup f14 = some ⟨oc14, od14, .func (PySem.W.fnOf "_is_weight" "_is_weight" (defArgs s_is_weight) (defBody s_is_weight) (defScope s_is_weight) .none kv14 dc14 pm14 an14 cd14 ct14), sl14⟩)
    (c_14 : okF K f14 cd14 "_is_weight" = true)
    (n_15 : PySem.W.nsIn K mainGlobals "_fault_in_weights" = some (some (.ref f15)))
    (l_15 : K.lookup f15 = some ⟨oc15, od15, .func (PySem.W.fnOf "_fault_in_weights" "_fault_in_weights" (defArgs s_fault_in_weights) (defBody s_fault_in_weights) (defScope s_fault_in_weights) .none kv15 dc15 pm15 an15 cd15 ct15), sl15⟩)
    (c_15 : okF K f15 cd15 "_fault_in_weights" = true)
    (n_16 : PySem.W.nsIn K mainGlobals "check_weights" = some (some (.ref f16)))
    (l_16 : K.lookup f16 = some ⟨oc16, od16, .func (PySem.W.fnOf "check_weights" "check_weights" (defArgs s_check_weights) (defBody s_check_weights) (defScope s_check_weights) .none kv16 dc16 pm16 an16 cd16 ct16), sl16⟩)
    (c_16 : okF K f16 cd16 "check_weights" = true)
    (n_17 : PySem.W.nsIn K mainGlobals "check_place" = some (some (.ref f17)))
    (l_17 : K.lookup f17 = some ⟨oc17, od17, .func (PySem.W.fnOf "check_place" "check_place" (defArgs s_check_place) (defBody s_check_place) (defScope s_check_place) .none kv17 dc17 pm17 an17 cd17 ct17), sl17⟩)
    (c_17 : okF K f17 cd17 "check_place" = true)
    (n_18 : PySem.W.nsIn K mainGlobals "is_prop_of" = some (some (.ref f18)))
    (l_18 : K.lookup f18 = some ⟨oc18, od18, .func (PySem.W.fnOf "is_prop_of" "is_prop_of" (defArgs s_is_prop_of) (defBody s_is_prop_of) (defScope s_is_prop_of) .none kv18 dc18 pm18 an18 cd18 ct18), sl18⟩)
    (c_18 : okF K f18 cd18 "is_prop_of" = true)
    (n_19 : PySem.W.nsIn K mainGlobals "is_lot_of" = some (some (.ref f19)))
    (l_19 : K.lookup f19 = some ⟨oc19, od19, .func (PySem.W.fnOf "is_lot_of" "is_lot_of" (defArgs s_is_lot_of) (defBody s_is_lot_of) (defScope s_is_lot_of) .none kv19 dc19 pm19 an19 cd19 ct19), sl19⟩)
    (c_19 : okF K f19 cd19 "is_lot_of" = true)
    (n_20 : PySem.W.nsIn K mainGlobals "all_props" = some (some (.ref f20)))
    (l_20 : K.lookup f20 = some ⟨oc20, od20, .func (PySem.W.fnOf "all_props" "all_props" (defArgs s_all_props) (defBody s_all_props) (defScope s_all_props) .none kv20 dc20 pm20 an20 cd20 ct20), sl20⟩)
    (c_20 : okF K f20 cd20 "all_props" = true)
    (n_21 : PySem.W.nsIn K mainGlobals "lot_of" = some (some (.ref f21)))
    (l_21 : K.lookup f21 = some ⟨oc21, od21, .func (PySem.W.fnOf "lot_of" "lot_of" (defArgs s_lot_of) (defBody s_lot_of) (defScope s_lot_of) .none kv21 dc21 pm21 an21 cd21 ct21), sl21⟩)
    (c_21 : okF K f21 cd21 "lot_of" = true)
    (n_22 : PySem.W.findIn K (.ref C114) "__init__" = some (some (.ref f22)))
    (l_22 : K.lookup f22 = some ⟨oc22, od22, .func (PySem.W.fnOf "__init__" "Moments.__init__" (defArgs s_Moments___init) (defBody s_Moments___init) (defScope s_Moments___init) .none kv22 dc22 pm22 an22 cd22 ct22), sl22⟩)
    (c_22 : okF K f22 cd22 "Moments.__init__" = true)
    (n_23 : PySem.W.findIn K (.ref C114) "_over_bottom" = some (some (.ref f23)))
    (l_23 : K.lookup f23 = some ⟨oc23, od23, .func (PySem.W.fnOf "_over_bottom" "Moments._over_bottom" (defArgs s_Moments__over_bottom) (defBody s_Moments__over_bottom) (defScope s_Moments__over_bottom) .none kv23 dc23 pm23 an23 cd23 ct23), sl23⟩)
    (c_23 : okF K f23 cd23 "Moments._over_bottom" = true)
    (n_24 : PySem.W.findIn K (.ref C114) "_moment" = some (some (.ref f24)))
    (l_24 : K.lookup f24 = some ⟨oc24, od24, .func (PySem.W.fnOf "_moment" "Moments._moment" (defArgs s_Moments__moment) (defBody s_Moments__moment) (defScope s_Moments__moment) .none kv24 dc24 pm24 an24 cd24 ct24), sl24⟩)
    (c_24 : okF K f24 cd24 "Moments._moment" = true)
    (n_25 : PySem.W.findIn K (.ref C114) "laid" = some (some (.ref f25)))
    (l_25 : K.lookup f25 = some ⟨oc25, od25, .func (PySem.W.fnOf "laid" "Moments.laid" (defArgs s_Moments_laid) (defBody s_Moments_laid) (defScope s_Moments_laid) .none kv25 dc25 pm25 an25 cd25 ct25), sl25⟩)
    (c_25 : okF K f25 cd25 "Moments.laid" = true)
    (n_26 : PySem.W.findIn K (.ref C114) "_above" = some (some (.ref f26)))
    (l_26 : K.lookup f26 = some ⟨oc26, od26, .func (PySem.W.fnOf "_above" "Moments._above" (defArgs s_Moments__above) (defBody s_Moments__above) (defScope s_Moments__above) .none kv26 dc26 pm26 an26 cd26 ct26), sl26⟩)
    (c_26 : okF K f26 cd26 "Moments._above" = true)
    (n_27 : PySem.W.findIn K (.ref C114) "bend" = some (some (.ref f27)))
    (l_27 : K.lookup f27 = some ⟨oc27, od27, .func (PySem.W.fnOf "bend" "Moments.bend" (defArgs s_Moments_bend) (defBody s_Moments_bend) (defScope s_Moments_bend) .none kv27 dc27 pm27 an27 cd27 ct27), sl27⟩)
    (c_27 : okF K f27 cd27 "Moments.bend" = true)
    (n_28 : PySem.W.findIn K (.ref C114) "greatest_bend" = some (some (.ref f28)))
    (l_28 : K.lookup f28 = some ⟨oc28, od28, .func (PySem.W.fnOf "greatest_bend" "Moments.greatest_bend" (defArgs s_Moments_greatest_bend) (defBody s_Moments_greatest_bend) (defScope s_Moments_greatest_bend) .none kv28 dc28 pm28 an28 cd28 ct28), sl28⟩)
    (c_28 : okF K f28 cd28 "Moments.greatest_bend" = true)
    (n_29 : PySem.W.nsIn K mainGlobals "_is_length" = some (some (.ref f29)))
    (l_29 : K.lookup f29 = some ⟨oc29, od29, .func (PySem.W.fnOf "_is_length" "_is_length" (defArgs s_is_length) (defBody s_is_length) (defScope s_is_length) .none kv29 dc29 pm29 an29 cd29 ct29), sl29⟩)
    (c_29 : okF K f29 cd29 "_is_length" = true)
    (n_30 : PySem.W.nsIn K mainGlobals "_are_props" = some (some (.ref f30)))
    (l_30 : K.lookup f30 = some ⟨oc30, od30, .func (PySem.W.fnOf "_are_props" "_are_props" (defArgs s_are_props) (defBody s_are_props) (defScope s_are_props) .none kv30 dc30 pm30 an30 cd30 ct30), sl30⟩)
    (c_30 : okF K f30 cd30 "_are_props" = true)
    (n_31 : PySem.W.nsIn K mainGlobals "_is_bend" = some (some (.ref f31)))
    (l_31 : K.lookup f31 = some ⟨oc31, od31, .func (PySem.W.fnOf "_is_bend" "_is_bend" (defArgs s_is_bend) (defBody s_is_bend) (defScope s_is_bend) .none kv31 dc31 pm31 an31 cd31 ct31), sl31⟩)
    (c_31 : okF K f31 cd31 "_is_bend" = true)
    (n_32 : PySem.W.findIn K (.ref C107) "__init__" = some (some (.ref f32)))
    (l_32 : K.lookup f32 = some ⟨oc32, od32, .func (PySem.W.fnOf "__init__" "Plank.__init__" (defArgs s_Plank___init) (defBody s_Plank___init) (defScope s_Plank___init) .none kv32 dc32 pm32 an32 cd32 ct32), sl32⟩)
    (c_32 : okF K f32 cd32 "Plank.__init__" = true)
    (n_33 : PySem.W.findIn K (.ref C107) "length" = some (some (.ref f33)))
    (l_33 : K.lookup f33 = some ⟨oc33, od33, .func (PySem.W.fnOf "length" "Plank.length" (defArgs s_Plank_length) (defBody s_Plank_length) (defScope s_Plank_length) .none kv33 dc33 pm33 an33 cd33 ct33), sl33⟩)
    (c_33 : okF K f33 cd33 "Plank.length" = true)
    (n_34 : PySem.W.findIn K (.ref C107) "props" = some (some (.ref f34)))
    (l_34 : K.lookup f34 = some ⟨oc34, od34, .func (PySem.W.fnOf "props" "Plank.props" (defArgs s_Plank_props) (defBody s_Plank_props) (defScope s_Plank_props) .none kv34 dc34 pm34 an34 cd34 ct34), sl34⟩)
    (c_34 : okF K f34 cd34 "Plank.props" = true)
    (n_35 : PySem.W.findIn K (.ref C107) "bend" = some (some (.ref f35)))
    (l_35 : K.lookup f35 = some ⟨oc35, od35, .func (PySem.W.fnOf "bend" "Plank.bend" (defArgs s_Plank_bend) (defBody s_Plank_bend) (defScope s_Plank_bend) .none kv35 dc35 pm35 an35 cd35 ct35), sl35⟩)
    (c_35 : okF K f35 cd35 "Plank.bend" = true)
    (n_36 : PySem.W.findIn K (.ref C107) "count" = some (some (.ref f36)))
    (l_36 : K.lookup f36 = some ⟨oc36, od36, .func (PySem.W.fnOf "count" "Plank.count" (defArgs s_Plank_count) (defBody s_Plank_count) (defScope s_Plank_count) .none kv36 dc36 pm36 an36 cd36 ct36), sl36⟩)
    (c_36 : okF K f36 cd36 "Plank.count" = true)
    (n_37 : PySem.W.findIn K (.ref C107) "place_of" = some (some (.ref f37)))
    (l_37 : K.lookup f37 = some ⟨oc37, od37, .func (PySem.W.fnOf "place_of" "Plank.place_of" (defArgs s_Plank_place_of) (defBody s_Plank_place_of) (defScope s_Plank_place_of) .none kv37 dc37 pm37 an37 cd37 ct37), sl37⟩)
    (c_37 : okF K f37 cd37 "Plank.place_of" = true)
    (n_39 : PySem.W.findIn K (.ref C107) "__eq__" = some (some (.ref f39)))
    (l_39 : K.lookup f39 = some ⟨oc39, od39, .func (PySem.W.fnOf "__eq__" "Plank.__eq__" (defArgs s_Plank___eq) (defBody s_Plank___eq) (defScope s_Plank___eq) .none kv39 dc39 pm39 an39 cd39 ct39), sl39⟩)
    (c_39 : okF K f39 cd39 "Plank.__eq__" = true)
    (n_40 : PySem.W.findIn K (.ref C108) "__init__" = some (some (.ref f40)))
    (l_40 : K.lookup f40 = some ⟨oc40, od40, .func (PySem.W.fnOf "__init__" "Bearing.__init__" (defArgs s_Bearing___init) (defBody s_Bearing___init) (defScope s_Bearing___init) .none kv40 dc40 pm40 an40 cd40 ct40), sl40⟩)
    (c_40 : okF K f40 cd40 "Bearing.__init__" = true)
    (n_41 : PySem.W.findIn K (.ref C108) "_laid" = some (some (.ref f41)))
    (l_41 : K.lookup f41 = some ⟨oc41, od41, .func (PySem.W.fnOf "_laid" "Bearing._laid" (defArgs s_Bearing__laid) (defBody s_Bearing__laid) (defScope s_Bearing__laid) .none kv41 dc41 pm41 an41 cd41 ct41), sl41⟩)
    (c_41 : okF K f41 cd41 "Bearing._laid" = true)
    (n_42 : PySem.W.findIn K (.ref C108) "rests" = some (some (.ref f42)))
    (l_42 : K.lookup f42 = some ⟨oc42, od42, .func (PySem.W.fnOf "rests" "Bearing.rests" (defArgs s_Bearing_rests) (defBody s_Bearing_rests) (defScope s_Bearing_rests) .none kv42 dc42 pm42 an42 cd42 ct42), sl42⟩)
    (c_42 : okF K f42 cd42 "Bearing.rests" = true)
    (n_43 : PySem.W.findIn K (.ref C108) "ends_of_boards" = some (some (.ref f43)))
    (l_43 : K.lookup f43 = some ⟨oc43, od43, .func (PySem.W.fnOf "ends_of_boards" "Bearing.ends_of_boards" (defArgs s_Bearing_ends_of_boards) (defBody s_Bearing_ends_of_boards) (defScope s_Bearing_ends_of_boards) .none kv43 dc43 pm43 an43 cd43 ct43), sl43⟩)
    (c_43 : okF K f43 cd43 "Bearing.ends_of_boards" = true)
    (n_45 : PySem.W.findIn K (.ref C108) "borne" = some (some (.ref f45)))
    (l_45 : K.lookup f45 = some ⟨oc45, od45, .func (PySem.W.fnOf "borne" "Bearing.borne" (defArgs s_Bearing_borne) (defBody s_Bearing_borne) (defScope s_Bearing_borne) .none kv45 dc45 pm45 an45 cd45 ct45), sl45⟩)
    (c_45 : okF K f45 cd45 "Bearing.borne" = true)
    (n_46 : PySem.W.findIn K (.ref C108) "bend" = some (some (.ref f46)))
    (l_46 : K.lookup f46 = some ⟨oc46, od46, .func (PySem.W.fnOf "bend" "Bearing.bend" (defArgs s_Bearing_bend) (defBody s_Bearing_bend) (defScope s_Bearing_bend) .none kv46 dc46 pm46 an46 cd46 ct46), sl46⟩)
    (c_46 : okF K f46 cd46 "Bearing.bend" = true)
    (n_47 : PySem.W.findIn K (.ref C108) "board" = some (some (.ref f47)))
    (l_47 : K.lookup f47 = some ⟨oc47, od47, .func (PySem.W.fnOf "board" "Bearing.board" (defArgs s_Bearing_board) (defBody s_Bearing_board) (defScope s_Bearing_board) .none kv47 dc47 pm47 an47 cd47 ct47), sl47⟩)
    (c_47 : okF K f47 cd47 "Bearing.board" = true)
    (n_54 : PySem.W.nsIn K mainGlobals "around" = some (some (.ref f54)))
    (l_54 : K.lookup f54 = some ⟨oc54, od54, .func (PySem.W.fnOf "around" "around" (defArgs s_around) (defBody s_around) (defScope s_around) .none kv54 dc54 pm54 an54 cd54 ct54), sl54⟩)
    (c_54 : okF K f54 cd54 "around" = true)
    (n_55 : PySem.W.nsIn K mainGlobals "asked" = some (some (.ref f55)))
    (l_55 : K.lookup f55 = some ⟨oc55, od55, .func (PySem.W.fnOf "asked" "asked" (defArgs s_asked) (defBody s_asked) (defScope s_asked) .none kv55 dc55 pm55 an55 cd55 ct55), sl55⟩)
    (c_55 : okF K f55 cd55 "asked" = true)
    (n_56 : PySem.W.nsIn K mainGlobals "borne" = some (some (.ref f56)))
    (l_56 : K.lookup f56 = some ⟨oc56, od56, .func (PySem.W.fnOf "borne" "borne" (defArgs s_borne) (defBody s_borne) (defScope s_borne) .none (.ref dkw56) dc56 pm56 an56 cd56 ct56), sl56⟩)
    (c_56 : okF K f56 cd56 "borne" = true)
    (n_57 : PySem.W.nsIn K mainGlobals "bend_at" = some (some (.ref f57)))
    (l_57 : K.lookup f57 = some ⟨oc57, od57, .func (PySem.W.fnOf "bend_at" "bend_at" (defArgs s_bend_at) (defBody s_bend_at) (defScope s_bend_at) .none (.ref dkw57) dc57 pm57 an57 cd57 ct57), sl57⟩)
    (c_57 : okF K f57 cd57 "bend_at" = true)
    (n_58 : PySem.W.nsIn K mainGlobals "boards" = some (some (.ref f58)))
    (l_58 : K.lookup f58 = some ⟨oc58, od58, .func (PySem.W.fnOf "boards" "boards" (defArgs s_boards) (defBody s_boards) (defScope s_boards) .none (.ref dkw58) dc58 pm58 an58 cd58 ct58), sl58⟩)
    (c_58 : okF K f58 cd58 "boards" = true)
    (n_59 : PySem.W.nsIn K mainGlobals "_law_cell_at" = some (some (.ref f59)))
    (l_59 : K.lookup f59 = some ⟨oc59, od59, .func (PySem.W.fnOf "_law_cell_at" "_law_cell_at" (defArgs s_law_cell_at) (defBody s_law_cell_at) (defScope s_law_cell_at) .none kv59 dc59 pm59 an59 cd59 ct59), sl59⟩)
    (c_59 : okF K f59 cd59 "_law_cell_at" = true)
    (n_60 : PySem.W.nsIn K mainGlobals "_law_source" = some (some (.ref f60)))
    (l_60 : K.lookup f60 = some ⟨oc60, od60, .func (PySem.W.fnOf "_law_source" "_law_source" (defArgs s_law_source) (defBody s_law_source) (defScope s_law_source) .none kv60 dc60 pm60 an60 cd60 ct60), sl60⟩)
    (c_60 : okF K f60 cd60 "_law_source" = true)
    (n_61 : PySem.W.nsIn K mainGlobals "_law_take" = some (some (.ref f61)))
    (l_61 : K.lookup f61 = some ⟨oc61, od61, .func (PySem.W.fnOf "_law_take" "_law_take" (defArgs s_law_take) (defBody s_law_take) (defScope s_law_take) .none kv61 dc61 pm61 an61 cd61 ct61), sl61⟩)
    (c_61 : okF K f61 cd61 "_law_take" = true)
    (n_62 : PySem.W.nsIn K mainGlobals "_law_one" = some (some (.ref f62)))
    (l_62 : K.lookup f62 = some ⟨oc62, od62, .func (PySem.W.fnOf "_law_one" "_law_one" (defArgs s_law_one) (defBody s_law_one) (defScope s_law_one) .none kv62 dc62 pm62 an62 cd62 ct62), sl62⟩)
    (c_62 : okF K f62 cd62 "_law_one" = true)
    (n_63 : PySem.W.nsIn K mainGlobals "_law_cut" = some (some (.ref f63)))
    (l_63 : K.lookup f63 = some ⟨oc63, od63, .func (PySem.W.fnOf "_law_cut" "_law_cut" (defArgs s_law_cut) (defBody s_law_cut) (defScope s_law_cut) .none kv63 dc63 pm63 an63 cd63 ct63), sl63⟩)
    (c_63 : okF K f63 cd63 "_law_cut" = true)
    (n_64 : PySem.W.nsIn K mainGlobals "_law_plus" = some (some (.ref f64)))
    (l_64 : K.lookup f64 = some ⟨oc64, od64, .func (PySem.W.fnOf "_law_plus" "_law_plus" (defArgs s_law_plus) (defBody s_law_plus) (defScope s_law_plus) .none kv64 dc64 pm64 an64 cd64 ct64), sl64⟩)
    (c_64 : okF K f64 cd64 "_law_plus" = true)
    (n_67 : PySem.W.nsIn K mainGlobals "_law_below" = some (some (.ref f67)))
    (l_67 : K.lookup f67 = some ⟨oc67, od67, .func (PySem.W.fnOf "_law_below" "_law_below" (defArgs s_law_below) (defBody s_law_below) (defScope s_law_below) .none kv67 dc67 pm67 an67 cd67 ct67), sl67⟩)
    (c_67 : okF K f67 cd67 "_law_below" = true)
    (n_69 : PySem.W.nsIn K mainGlobals "_law_measure" = some (some (.ref f69)))
    (l_69 : K.lookup f69 = some ⟨oc69, od69, .func (PySem.W.fnOf "_law_measure" "_law_measure" (defArgs s_law_measure) (defBody s_law_measure) (defScope s_law_measure) .none kv69 dc69 pm69 an69 cd69 ct69), sl69⟩)
    (c_69 : okF K f69 cd69 "_law_measure" = true)
    (n_70 : PySem.W.nsIn K mainGlobals "_law_plank" = some (some (.ref f70)))
    (l_70 : K.lookup f70 = some ⟨oc70, od70, .func (PySem.W.fnOf "_law_plank" "_law_plank" (defArgs s_law_plank) (defBody s_law_plank) (defScope s_law_plank) .none kv70 dc70 pm70 an70 cd70 ct70), sl70⟩)
    (c_70 : okF K f70 cd70 "_law_plank" = true)
    (n_71 : PySem.W.nsIn K mainGlobals "_law_weights" = some (some (.ref f71)))
    (l_71 : K.lookup f71 = some ⟨oc71, od71, .func (PySem.W.fnOf "_law_weights" "_law_weights" (defArgs s_law_weights) (defBody s_law_weights) (defScope s_law_weights) .none kv71 dc71 pm71 an71 cd71 ct71), sl71⟩)
    (c_71 : okF K f71 cd71 "_law_weights" = true)
    (n_72 : PySem.W.nsIn K mainGlobals "_law_made" = some (some (.ref f72)))
    (l_72 : K.lookup f72 = some ⟨oc72, od72, .func (PySem.W.fnOf "_law_made" "_law_made" (defArgs s_law_made) (defBody s_law_made) (defScope s_law_made) .none kv72 dc72 pm72 an72 cd72 ct72), sl72⟩)
    (c_72 : okF K f72 cd72 "_law_made" = true)
    (n_73 : PySem.W.nsIn K mainGlobals "_law_lot" = some (some (.ref f73)))
    (l_73 : K.lookup f73 = some ⟨oc73, od73, .func (PySem.W.fnOf "_law_lot" "_law_lot" (defArgs s_law_lot) (defBody s_law_lot) (defScope s_law_lot) .none kv73 dc73 pm73 an73 cd73 ct73), sl73⟩)
    (c_73 : okF K f73 cd73 "_law_lot" = true)
    (n_75 : PySem.W.nsIn K mainGlobals "_law_no_less" = some (some (.ref f75)))
    (l_75 : K.lookup f75 = some ⟨oc75, od75, .func (PySem.W.fnOf "_law_no_less" "_law_no_less" (defArgs s_law_no_less) (defBody s_law_no_less) (defScope s_law_no_less) .none kv75 dc75 pm75 an75 cd75 ct75), sl75⟩)
    (c_75 : okF K f75 cd75 "_law_no_less" = true)
    (n_76 : PySem.W.nsIn K mainGlobals "_law_bends_right" = some (some (.ref f76)))
    (l_76 : K.lookup f76 = some ⟨oc76, od76, .func (PySem.W.fnOf "_law_bends_right" "_law_bends_right" (defArgs s_law_bends_right) (defBody s_law_bends_right) (defScope s_law_bends_right) .none kv76 dc76 pm76 an76 cd76 ct76), sl76⟩)
    (c_76 : okF K f76 cd76 "_law_bends_right" = true)
    (n_77 : PySem.W.nsIn K mainGlobals "law" = some (some (.ref f77)))
    (l_77 : K.lookup f77 = some ⟨oc77, od77, .func (PySem.W.fnOf "law" "law" (defArgs s_law) (defBody s_law) (defScope s_law) .none kv77 dc77 pm77 an77 cd77 ct77), sl77⟩)
    (c_77 : okF K f77 cd77 "law" = true)
    (kw56 : PySem.W.nsIn K dkw56 "lot" = some (some .none))
    (kw58 : PySem.W.nsIn K dkw58 "lot" = some (some .none))
    (kw57 : PySem.W.nsIn K dkw57 "lot" = some (some .none))
    (zs : (["any", "all", "dict", "type", "int", "tuple", "len", "list", "abs", "zip", "range", "sorted", "set", "isinstance", "enumerate"] : List Str).all (fun x => decide (PySem.W.nsIn K mainGlobals x = some none)) = true)
    (gcd : PySem.W.nsIn K mainGlobals "gcd" = some (some (.builtin "math.gcd")))
    (lcm : PySem.W.nsIn K mainGlobals "lcm" = some (some (.builtin "math.lcm")))
    (i_0 : PySem.W.nsIn K mainGlobals "LEAST_LENGTH" = some (some (.int (2) t0)))
    (i_1 : PySem.W.nsIn K mainGlobals "MOST_LENGTH" = some (some (.int (1000) t1)))
    (i_2 : PySem.W.nsIn K mainGlobals "MOST_PROPS" = some (some (.int (12) t2)))
    (i_3 : PySem.W.nsIn K mainGlobals "LEFT_REST" = some (some (.int (-1) t3)))
    (g_NOUGHT : PySem.W.nsIn K mainGlobals "NOUGHT" = some (some (.ref A120)))
    (l_NOUGHT : K.lookup A120 = some ⟨.type "tuple", od120, .seq its120 m120, sl120⟩)
    (z_NOUGHT : noughtB its120 = true)
    (n_ab : PySem.W.nsIn K mainGlobals "around_bearing" = some (some (.ref f54)))
    (pl : plankB K C107 f32 f39 = true)
    (be : clsMB K C108 f40 ["_count", "_strengths", "_places", "_moments", "_overlaid", "_spares", "_held", "_bend"] = true)
    (mo : clsMB K C114 f22 ["_bottom", "_weights", "_known"] = true)
    (me : ([f23, f24, f25, f26, f27, f28, f33, f34, f35, f36, f37, f39, f41, f42, f43, f45, f46, f47] : List Addr).all (fun f => PySem.W.isFn K (.ref f)) = true)
    (o_NoPlank : K.lookup C101 = some (excClassObj nm101 qn101 C101 N101 bs101 bm101 true sn101 su101 ab101 co101 dy101 k0101 k1101 k2101 k3101 k5101 "ValueError.__new__"))
    (x_NoPlank : xcB K C101 f1 bm101 "part" = true)
    (o_NoRest : K.lookup C103 = some (excClassObj nm103 qn103 C103 N103 bs103 bm103 true sn103 su103 ab103 co103 dy103 k0103 k1103 k2103 k3103 k5103 "ValueError.__new__"))
    (x_NoRest : xcB K C103 f2 bm103 "rest" = true)
    (o_NoWeights : K.lookup C104 = some (excClassObj nm104 qn104 C104 N104 bs104 bm104 true sn104 su104 ab104 co104 dy104 k0104 k1104 k2104 k3104 k5104 "ValueError.__new__"))
    (x_NoWeights : xcB K C104 f3 bm104 "at" = true)
    (o_NoPlace : K.lookup C105 = some (excClassObj nm105 qn105 C105 N105 bs105 bm105 true sn105 su105 ab105 co105 dy105 k0105 k1105 k2105 k3105 k5105 "ValueError.__new__"))
    (x_NoPlace : xcB K C105 f4 bm105 "place" = true)
    (lo : sxB K C106 = true) : ∃ fd : FuncData, (∀ (s : Shared) (u : Value), BindsTo s fd ⟨[u], []⟩ [("_law_script", u)]) ∧ ∀ base : Heap, K.In base → base.Ns mainGlobals mg → FnOk P w K mg base CX0 12 fn fd ["_law_script"] (spD K 1 wLaw) := by
  have e := hfn.symm.trans (PySem.W.mg_of X G n_77)
  cases e
  have zn : ∀ x : Str, x ∈ (["any", "all", "dict", "type", "int", "tuple", "len", "list", "abs", "zip", "range", "sorted", "set", "isinstance", "enumerate"] : List Str) → mg x = none := fun x hx => PySem.W.mg_none_of X G (of_decide_eq_true (List.all_eq_true.mp zs x hx))
  have me1 : ∀ f : Addr, f ∈ ([f23, f24, f25, f26, f27, f28, f33, f34, f35, f36, f37, f39, f41, f42, f43, f45, f46, f47] : List Addr) → PySem.W.isFn K (.ref f) = true := fun f hf => List.all_eq_true.mp me f hf
  obtain ⟨P1, P2, P3, P4, P5, P6, P7, P8⟩ := plankB_ok pl
  obtain ⟨Q1, Q2, Q9⟩ := clsMB_ok be
  obtain ⟨R1, R2, R9⟩ := clsMB_ok mo
  have F1 := fun_mk (st := s_NoPlank___init) l_1 (okF_c c_1) (okF_k c_1)
  have F2 := fun_mk (st := s_NoRest___init) l_2 (okF_c c_2) (okF_k c_2)
  have F3 := fun_mk (st := s_NoWeights___init) l_3 (okF_c c_3) (okF_k c_3)
  have F4 := fun_mk (st := s_NoPlace___init) l_4 (okF_c c_4) (okF_k c_4)
  have F5 := fun_mk (st := s_is_whole) l_5 (okF_c c_5) (okF_k c_5)
  have F6 := fun_mk (st := s_is_pair) l_6 (okF_c c_6) (okF_k c_6)
  have F7 := fun_mk (st := s_is_fraction) l_7 (okF_c c_7) (okF_k c_7)
  have F8 := fun_mk (st := s_is_from_nought) l_8 (okF_c c_8) (okF_k c_8)
  have F9 := fun_mk (st := s_reduced) l_9 (okF_c c_9) (okF_k c_9)
  have F10 := fun_mk (st := s_of_whole) l_10 (okF_c c_10) (okF_k c_10)
  have F11 := fun_mk (st := s_is_below) l_11 (okF_c c_11) (okF_k c_11)
  have F12 := fun_mk (st := s_is_place) l_12 (okF_c c_12) (okF_k c_12)
  have F13 := fun_mk (st := s_is_above_nought) l_13 (okF_c c_13) (okF_k c_13)
  have F14 := fun_mk (st := s_is_weight) l_14 (okF_c c_14) (okF_k c_14)
  have F15 := fun_mk (st := s_fault_in_weights) l_15 (okF_c c_15) (okF_k c_15)
  have F16 := fun_mk (st := s_check_weights) l_16 (okF_c c_16) (okF_k c_16)
  have F17 := fun_mk (st := s_check_place) l_17 (okF_c c_17) (okF_k c_17)
  have F18 := fun_mk (st := s_is_prop_of) l_18 (okF_c c_18) (okF_k c_18)
  have F19 := fun_mk (st := s_is_lot_of) l_19 (okF_c c_19) (okF_k c_19)
  have F20 := fun_mk (st := s_all_props) l_20 (okF_c c_20) (okF_k c_20)
  have F21 := fun_mk (st := s_lot_of) l_21 (okF_c c_21) (okF_k c_21)
  have F22 := fun_mk (st := s_Moments___init) l_22 (okF_c c_22) (okF_k c_22)
  have F23 := fun_mk (st := s_Moments__over_bottom) l_23 (okF_c c_23) (okF_k c_23)
  have F24 := fun_mk (st := s_Moments__moment) l_24 (okF_c c_24) (okF_k c_24)
  have F25 := fun_mk (st := s_Moments_laid) l_25 (okF_c c_25) (okF_k c_25)
  have F26 := fun_mk (st := s_Moments__above) l_26 (okF_c c_26) (okF_k c_26)
  have F27 := fun_mk (st := s_Moments_bend) l_27 (okF_c c_27) (okF_k c_27)
  have F28 := fun_mk (st := s_Moments_greatest_bend) l_28 (okF_c c_28) (okF_k c_28)
  have F29 := fun_mk (st := s_is_length) l_29 (okF_c c_29) (okF_k c_29)
  have F30 := fun_mk (st := s_are_props) l_30 (okF_c c_30) (okF_k c_30)
  have F31 := fun_mk (st := s_is_bend) l_31 (okF_c c_31) (okF_k c_31)
  have F32 := fun_mk (st := s_Plank___init) l_32 (okF_c c_32) (okF_k c_32)
  have F33 := fun_mk (st := s_Plank_length) l_33 (okF_c c_33) (okF_k c_33)
  have F34 := fun_mk (st := s_Plank_props) l_34 (okF_c c_34) (okF_k c_34)
  have F35 := fun_mk (st := s_Plank_bend) l_35 (okF_c c_35) (okF_k c_35)
  have F36 := fun_mk (st := s_Plank_count) l_36 (okF_c c_36) (okF_k c_36)
  have F37 := fun_mk (st := s_Plank_place_of) l_37 (okF_c c_37) (okF_k c_37)
  have F39 := fun_mk (st := s_Plank___eq) l_39 (okF_c c_39) (okF_k c_39)
  have F40 := fun_mk (st := s_Bearing___init) l_40 (okF_c c_40) (okF_k c_40)
  have F41 := fun_mk (st := s_Bearing__laid) l_41 (okF_c c_41) (okF_k c_41)
  have F42 := fun_mk (st := s_Bearing_rests) l_42 (okF_c c_42) (okF_k c_42)
  have F43 := fun_mk (st := s_Bearing_ends_of_boards) l_43 (okF_c c_43) (okF_k c_43)
  have F45 := fun_mk (st := s_Bearing_borne) l_45 (okF_c c_45) (okF_k c_45)
  have F46 := fun_mk (st := s_Bearing_bend) l_46 (okF_c c_46) (okF_k c_46)
  have F47 := fun_mk (st := s_Bearing_board) l_47 (okF_c c_47) (okF_k c_47)
  have F54 := fun_mk (st := s_around) l_54 (okF_c c_54) (okF_k c_54)
  have F55 := fun_mk (st := s_asked) l_55 (okF_c c_55) (okF_k c_55)
  have F56 := fun_mk (st := s_borne) l_56 (okF_c c_56) (okF_k c_56)
  have F57 := fun_mk (st := s_bend_at) l_57 (okF_c c_57) (okF_k c_57)
  have F58 := fun_mk (st := s_boards) l_58 (okF_c c_58) (okF_k c_58)
  have F59 := fun_mk (st := s_law_cell_at) l_59 (okF_c c_59) (okF_k c_59)
  have F60 := fun_mk (st := s_law_source) l_60 (okF_c c_60) (okF_k c_60)
  have F61 := fun_mk (st := s_law_take) l_61 (okF_c c_61) (okF_k c_61)
  have F62 := fun_mk (st := s_law_one) l_62 (okF_c c_62) (okF_k c_62)
  have F63 := fun_mk (st := s_law_cut) l_63 (okF_c c_63) (okF_k c_63)
  have F64 := fun_mk (st := s_law_plus) l_64 (okF_c c_64) (okF_k c_64)
  have F67 := fun_mk (st := s_law_below) l_67 (okF_c c_67) (okF_k c_67)
  have F69 := fun_mk (st := s_law_measure) l_69 (okF_c c_69) (okF_k c_69)
  have F70 := fun_mk (st := s_law_plank) l_70 (okF_c c_70) (okF_k c_70)
  have F71 := fun_mk (st := s_law_weights) l_71 (okF_c c_71) (okF_k c_71)
  have F72 := fun_mk (st := s_law_made) l_72 (okF_c c_72) (okF_k c_72)
  have F73 := fun_mk (st := s_law_lot) l_73 (okF_c c_73) (okF_k c_73)
  have F75 := fun_mk (st := s_law_no_less) l_75 (okF_c c_75) (okF_k c_75)
  have F76 := fun_mk (st := s_law_bends_right) l_76 (okF_c c_76) (okF_k c_76)
  have F77 := fun_mk (st := s_law) l_77 (okF_c c_77) (okF_k c_77)
  have FD56 : FunD K "borne" "borne" (defArgs s_borne) (defBody s_borne) (defScope s_borne) [] [("lot", V.non)] f56 _ := ⟨⟨_, _, _, _, _, _, _, _, _, _, rfl, l_56, okF_c c_56, .inl ⟨rfl, rfl⟩, .inr ⟨dkw56, rfl, fun q hq => by
    cases List.mem_singleton.mp hq
    exact ⟨.none, kw56, rfl⟩⟩⟩, okF_k c_56⟩
  have BD56 := FD56.binds0 (ps := ["plank", "weights", "lot"]) 2 (fun z => nomatch z) rfl fun D doc pm an cdv ct us ks hu hk => match us, hu, ks, hk with | [_, _], _, [_], _ => ⟨_, _, _, _, _, _, rfl, rfl, rfl⟩
  have FD58 : FunD K "boards" "boards" (defArgs s_boards) (defBody s_boards) (defScope s_boards) [] [("lot", V.non)] f58 _ := ⟨⟨_, _, _, _, _, _, _, _, _, _, rfl, l_58, okF_c c_58, .inl ⟨rfl, rfl⟩, .inr ⟨dkw58, rfl, fun q hq => by
    cases List.mem_singleton.mp hq
    exact ⟨.none, kw58, rfl⟩⟩⟩, okF_k c_58⟩
  have BD58 := FD58.binds0 (ps := ["plank", "weights", "lot"]) 2 (fun z => nomatch z) rfl fun D doc pm an cdv ct us ks hu hk => match us, hu, ks, hk with | [_, _], _, [_], _ => ⟨_, _, _, _, _, _, rfl, rfl, rfl⟩
  have FD57 : FunD K "bend_at" "bend_at" (defArgs s_bend_at) (defBody s_bend_at) (defScope s_bend_at) [] [("lot", V.non)] f57 _ := ⟨⟨_, _, _, _, _, _, _, _, _, _, rfl, l_57, okF_c c_57, .inl ⟨rfl, rfl⟩, .inr ⟨dkw57, rfl, fun q hq => by
    cases List.mem_singleton.mp hq
    exact ⟨.none, kw57, rfl⟩⟩⟩, okF_k c_57⟩
  have BD57 := FD57.binds0 (ps := ["plank", "weights", "place", "lot"]) 3 (fun z => nomatch z) rfl fun D doc pm an cdv ct us ks hu hk => match us, hu, ks, hk with | [_, _, _], _, [_], _ => ⟨_, _, _, _, _, _, rfl, rfl, rfl⟩
  have T : Txt K mg (fun i => match i with | 1 => f1 | 2 => f2 | 3 => f3 | 4 => f4 | 5 => f5 | 6 => f6 | 7 => f7 | 8 => f8 | 9 => f9 | 10 => f10 | 11 => f11 | 12 => f12 | 13 => f13 | 14 => f14 | 15 => f15 | 16 => f16 | 17 => f17 | 18 => f18 | 19 => f19 | 20 => f20 | 21 => f21 | 22 => f22 | 23 => f23 | 24 => f24 | 25 => f25 | 26 => f26 | 27 => f27 | 28 => f28 | 29 => f29 | 30 => f30 | 31 => f31 | 32 => f32 | 33 => f33 | 34 => f34 | 35 => f35 | 36 => f36 | 37 => f37 | 39 => f39 | 40 => f40 | 41 => f41 | 42 => f42 | 43 => f43 | 45 => f45 | 46 => f46 | 47 => f47 | 54 => f54 | 55 => f55 | 56 => f56 | 57 => f57 | 58 => f58 | 59 => f59 | 60 => f60 | 61 => f61 | 62 => f62 | 63 => f63 | 64 => f64 | 67 => f67 | 69 => f69 | 70 => f70 | 71 => f71 | 72 => f72 | 73 => f73 | 75 => f75 | 76 => f76 | 101 => C101 | 103 => C103 | 104 => C104 | 105 => C105 | 106 => C106 | 107 => C107 | 108 => C108 | 114 => C114 | 120 => A120 | _ => 0) (fun i => match i with | 1 => PySem.W.fnOf "__init__" "NoPlank.__init__" (defArgs s_NoPlank___init) (defBody s_NoPlank___init) (defScope s_NoPlank___init) .none kv1 dc1 pm1 an1 cd1 ct1 | 2 => PySem.W.fnOf "__init__" "NoRest.__init__" (defArgs s_NoRest___init) (defBody s_NoRest___init) (defScope s_NoRest___init) .none kv2 dc2 pm2 an2 cd2 ct2 | 3 => PySem.W.fnOf "__init__" "NoWeights.__init__" (defArgs s_NoWeights___init) (defBody s_NoWeights___init) (defScope s_NoWeights___init) .none kv3 dc3 pm3 an3 cd3 ct3 | 4 => PySem.W.fnOf "__init__" "NoPlace.__init__" (defArgs s_NoPlace___init) (defBody s_NoPlace___init) (defScope s_NoPlace___init) .none kv4 dc4 pm4 an4 cd4 ct4 | 5 => PySem.W.fnOf "is_whole" "is_whole" (defArgs s_is_whole) (defBody s_is_whole) (defScope s_is_whole) .none kv5 dc5 pm5 an5 cd5 ct5 | 6 => PySem.W.fnOf "is_pair" "is_pair" (defArgs s_is_pair) (defBody s_is_pair) (defScope s_is_pair) .none kv6 dc6 pm6 an6 cd6 ct6 | 7 => PySem.W.fnOf "is_fraction" "is_fraction" (defArgs s_is_fraction) (defBody s_is_fraction) (defScope s_is_fraction) .none kv7 dc7 pm7 an7 cd7 ct7 | 8 => PySem.W.fnOf "is_from_nought" "is_from_nought" (defArgs s_is_from_nought) (defBody s_is_from_nought) (defScope s_is_from_nought) .none kv8 dc8 pm8 an8 cd8 ct8 | 9 => PySem.W.fnOf "reduced" "reduced" (defArgs s_reduced) (defBody s_reduced) (defScope s_reduced) .none kv9 dc9 pm9 an9 cd9 ct9 | 10 => PySem.W.fnOf "of_whole" "of_whole" (defArgs s_of_whole) (defBody s_of_whole) (defScope s_of_whole) .none kv10 dc10 pm10 an10 cd10 ct10 | 11 => PySem.W.fnOf "is_below" "is_below" (defArgs s_is_below) (defBody s_is_below) (defScope s_is_below) .none kv11 dc11 pm11 an11 cd11 ct11 | 12 => PySem.W.fnOf "is_place" "is_place" (defArgs s_is_place) (defBody s_is_place) (defScope s_is_place) .none kv12 dc12 pm12 an12 cd12 ct12 | 13 => PySem.W.fnOf "is_above_nought" "is_above_nought" (defArgs s_is_above_nought) (defBody s_is_above_nought) (defScope s_is_above_nought) .none kv13 dc13 pm13 an13 cd13 ct13 | 14 => PySem.W.fnOf "_is_weight" "_is_weight" (defArgs s_is_weight) (defBody s_is_weight) (defScope s_is_weight) .none kv14 dc14 pm14 an14 cd14 ct14 | 15 => PySem.W.fnOf "_fault_in_weights" "_fault_in_weights" (defArgs s_fault_in_weights) (defBody s_fault_in_weights) (defScope s_fault_in_weights) .none kv15 dc15 pm15 an15 cd15 ct15 | 16 => PySem.W.fnOf "check_weights" "check_weights" (defArgs s_check_weights) (defBody s_check_weights) (defScope s_check_weights) .none kv16 dc16 pm16 an16 cd16 ct16 | 17 => PySem.W.fnOf "check_place" "check_place" (defArgs s_check_place) (defBody s_check_place) (defScope s_check_place) .none kv17 dc17 pm17 an17 cd17 ct17 | 18 => PySem.W.fnOf "is_prop_of" "is_prop_of" (defArgs s_is_prop_of) (defBody s_is_prop_of) (defScope s_is_prop_of) .none kv18 dc18 pm18 an18 cd18 ct18 | 19 => PySem.W.fnOf "is_lot_of" "is_lot_of" (defArgs s_is_lot_of) (defBody s_is_lot_of) (defScope s_is_lot_of) .none kv19 dc19 pm19 an19 cd19 ct19 | 20 => PySem.W.fnOf "all_props" "all_props" (defArgs s_all_props) (defBody s_all_props) (defScope s_all_props) .none kv20 dc20 pm20 an20 cd20 ct20 | 21 => PySem.W.fnOf "lot_of" "lot_of" (defArgs s_lot_of) (defBody s_lot_of) (defScope s_lot_of) .none kv21 dc21 pm21 an21 cd21 ct21 | 22 => PySem.W.fnOf "__init__" "Moments.__init__" (defArgs s_Moments___init) (defBody s_Moments___init) (defScope s_Moments___init) .none kv22 dc22 pm22 an22 cd22 ct22 | 23 => PySem.W.fnOf "_over_bottom" "Moments._over_bottom" (defArgs s_Moments__over_bottom) (defBody s_Moments__over_bottom) (defScope s_Moments__over_bottom) .none kv23 dc23 pm23 an23 cd23 ct23 | 24 => PySem.W.fnOf "_moment" "Moments._moment" (defArgs s_Moments__moment) (defBody s_Moments__moment) (defScope s_Moments__moment) .none kv24 dc24 pm24 an24 cd24 ct24 | 25 => PySem.W.fnOf "laid" "Moments.laid" (defArgs s_Moments_laid) (defBody s_Moments_laid) (defScope s_Moments_laid) .none kv25 dc25 pm25 an25 cd25 ct25 | 26 => PySem.W.fnOf "_above" "Moments._above" (defArgs s_Moments__above) (defBody s_Moments__above) (defScope s_Moments__above) .none kv26 dc26 pm26 an26 cd26 ct26 | 27 => PySem.W.fnOf "bend" "Moments.bend" (defArgs s_Moments_bend) (defBody s_Moments_bend) (defScope s_Moments_bend) .none kv27 dc27 pm27 an27 cd27 ct27 | 28 => PySem.W.fnOf "greatest_bend" "Moments.greatest_bend" (defArgs s_Moments_greatest_bend) (defBody s_Moments_greatest_bend) (defScope s_Moments_greatest_bend) .none kv28 dc28 pm28 an28 cd28 ct28 | 29 => PySem.W.fnOf "_is_length" "_is_length" (defArgs s_is_length) (defBody s_is_length) (defScope s_is_length) .none kv29 dc29 pm29 an29 cd29 ct29 | 30 => PySem.W.fnOf "_are_props" "_are_props" (defArgs s_are_props) (defBody s_are_props) (defScope s_are_props) .none kv30 dc30 pm30 an30 cd30 ct30 | 31 => PySem.W.fnOf "_is_bend" "_is_bend" (defArgs s_is_bend) (defBody s_is_bend) (defScope s_is_bend) .none kv31 dc31 pm31 an31 cd31 ct31 | 32 => PySem.W.fnOf "__init__" "Plank.__init__" (defArgs s_Plank___init) (defBody s_Plank___init) (defScope s_Plank___init) .none kv32 dc32 pm32 an32 cd32 ct32 | 33 => PySem.W.fnOf "length" "Plank.length" (defArgs s_Plank_length) (defBody s_Plank_length) (defScope s_Plank_length) .none kv33 dc33 pm33 an33 cd33 ct33 | 34 => PySem.W.fnOf "props" "Plank.props" (defArgs s_Plank_props) (defBody s_Plank_props) (defScope s_Plank_props) .none kv34 dc34 pm34 an34 cd34 ct34 | 35 => PySem.W.fnOf "bend" "Plank.bend" (defArgs s_Plank_bend) (defBody s_Plank_bend) (defScope s_Plank_bend) .none kv35 dc35 pm35 an35 cd35 ct35 | 36 => PySem.W.fnOf "count" "Plank.count" (defArgs s_Plank_count) (defBody s_Plank_count) (defScope s_Plank_count) .none kv36 dc36 pm36 an36 cd36 ct36 | 37 => PySem.W.fnOf "place_of" "Plank.place_of" (defArgs s_Plank_place_of) (defBody s_Plank_place_of) (defScope s_Plank_place_of) .none kv37 dc37 pm37 an37 cd37 ct37 | 39 => PySem.W.fnOf "__eq__" "Plank.__eq__" (defArgs s_Plank___eq) (defBody s_Plank___eq) (defScope s_Plank___eq) .none kv39 dc39 pm39 an39 cd39 ct39 | 40 => PySem.W.fnOf "__init__" "Bearing.__init__" (defArgs s_Bearing___init) (defBody s_Bearing___init) (defScope s_Bearing___init) .none kv40 dc40 pm40 an40 cd40 ct40 | 41 => PySem.W.fnOf "_laid" "Bearing._laid" (defArgs s_Bearing__laid) (defBody s_Bearing__laid) (defScope s_Bearing__laid) .none kv41 dc41 pm41 an41 cd41 ct41 | 42 => PySem.W.fnOf "rests" "Bearing.rests" (defArgs s_Bearing_rests) (defBody s_Bearing_rests) (defScope s_Bearing_rests) .none kv42 dc42 pm42 an42 cd42 ct42 | 43 => PySem.W.fnOf "ends_of_boards" "Bearing.ends_of_boards" (defArgs s_Bearing_ends_of_boards) (defBody s_Bearing_ends_of_boards) (defScope s_Bearing_ends_of_boards) .none kv43 dc43 pm43 an43 cd43 ct43 | 45 => PySem.W.fnOf "borne" "Bearing.borne" (defArgs s_Bearing_borne) (defBody s_Bearing_borne) (defScope s_Bearing_borne) .none kv45 dc45 pm45 an45 cd45 ct45 | 46 => PySem.W.fnOf "bend" "Bearing.bend" (defArgs s_Bearing_bend) (defBody s_Bearing_bend) (defScope s_Bearing_bend) .none kv46 dc46 pm46 an46 cd46 ct46 | 47 => PySem.W.fnOf "board" "Bearing.board" (defArgs s_Bearing_board) (defBody s_Bearing_board) (defScope s_Bearing_board) .none kv47 dc47 pm47 an47 cd47 ct47 | 54 => PySem.W.fnOf "around" "around" (defArgs s_around) (defBody s_around) (defScope s_around) .none kv54 dc54 pm54 an54 cd54 ct54 | 55 => PySem.W.fnOf "asked" "asked" (defArgs s_asked) (defBody s_asked) (defScope s_asked) .none kv55 dc55 pm55 an55 cd55 ct55 | 56 => PySem.W.fnOf "borne" "borne" (defArgs s_borne) (defBody s_borne) (defScope s_borne) .none (.ref dkw56) dc56 pm56 an56 cd56 ct56 | 57 => PySem.W.fnOf "bend_at" "bend_at" (defArgs s_bend_at) (defBody s_bend_at) (defScope s_bend_at) .none (.ref dkw57) dc57 pm57 an57 cd57 ct57 | 58 => PySem.W.fnOf "boards" "boards" (defArgs s_boards) (defBody s_boards) (defScope s_boards) .none (.ref dkw58) dc58 pm58 an58 cd58 ct58 | 59 => PySem.W.fnOf "_law_cell_at" "_law_cell_at" (defArgs s_law_cell_at) (defBody s_law_cell_at) (defScope s_law_cell_at) .none kv59 dc59 pm59 an59 cd59 ct59 | 60 => PySem.W.fnOf "_law_source" "_law_source" (defArgs s_law_source) (defBody s_law_source) (defScope s_law_source) .none kv60 dc60 pm60 an60 cd60 ct60 | 61 => PySem.W.fnOf "_law_take" "_law_take" (defArgs s_law_take) (defBody s_law_take) (defScope s_law_take) .none kv61 dc61 pm61 an61 cd61 ct61 | 62 => PySem.W.fnOf "_law_one" "_law_one" (defArgs s_law_one) (defBody s_law_one) (defScope s_law_one) .none kv62 dc62 pm62 an62 cd62 ct62 | 63 => PySem.W.fnOf "_law_cut" "_law_cut" (defArgs s_law_cut) (defBody s_law_cut) (defScope s_law_cut) .none kv63 dc63 pm63 an63 cd63 ct63 | 64 => PySem.W.fnOf "_law_plus" "_law_plus" (defArgs s_law_plus) (defBody s_law_plus) (defScope s_law_plus) .none kv64 dc64 pm64 an64 cd64 ct64 | 67 => PySem.W.fnOf "_law_below" "_law_below" (defArgs s_law_below) (defBody s_law_below) (defScope s_law_below) .none kv67 dc67 pm67 an67 cd67 ct67 | 69 => PySem.W.fnOf "_law_measure" "_law_measure" (defArgs s_law_measure) (defBody s_law_measure) (defScope s_law_measure) .none kv69 dc69 pm69 an69 cd69 ct69 | 70 => PySem.W.fnOf "_law_plank" "_law_plank" (defArgs s_law_plank) (defBody s_law_plank) (defScope s_law_plank) .none kv70 dc70 pm70 an70 cd70 ct70 | 71 => PySem.W.fnOf "_law_weights" "_law_weights" (defArgs s_law_weights) (defBody s_law_weights) (defScope s_law_weights) .none kv71 dc71 pm71 an71 cd71 ct71 | 72 => PySem.W.fnOf "_law_made" "_law_made" (defArgs s_law_made) (defBody s_law_made) (defScope s_law_made) .none kv72 dc72 pm72 an72 cd72 ct72 | 73 => PySem.W.fnOf "_law_lot" "_law_lot" (defArgs s_law_lot) (defBody s_law_lot) (defScope s_law_lot) .none kv73 dc73 pm73 an73 cd73 ct73 | 75 => PySem.W.fnOf "_law_no_less" "_law_no_less" (defArgs s_law_no_less) (defBody s_law_no_less) (defScope s_law_no_less) .none kv75 dc75 pm75 an75 cd75 ct75 | 76 => PySem.W.fnOf "_law_bends_right" "_law_bends_right" (defArgs s_law_bends_right) (defBody s_law_bends_right) (defScope s_law_bends_right) .none kv76 dc76 pm76 an76 cd76 ct76 | _ => PySem.W.fnOf "" "" (defArgs s_law) [] (defScope s_law) .none .none .none .none none .none .none) (fun i => match i with | 0 => t0 | 1 => t1 | 2 => t2 | _ => t3) := {
    n_any := zn "any" (by simp)
    n_all := zn "all" (by simp)
    n_dict := zn "dict" (by simp)
    n_type := zn "type" (by simp)
    n_int := zn "int" (by simp)
    n_tuple := zn "tuple" (by simp)
    n_len := zn "len" (by simp)
    n_list := zn "list" (by simp)
    n_abs := zn "abs" (by simp)
    n_zip := zn "zip" (by simp)
    n_range := zn "range" (by simp)
    n_sorted := zn "sorted" (by simp)
    n_set := zn "set" (by simp)
    n_isinstance := zn "isinstance" (by simp)
    n_enumerate := zn "enumerate" (by simp)
    F_NoPlank___init := F1
    b_NoPlank___init := F1.binds (ps := ["self", "part"]) fun _ _ _ _ _ _ us hl => match us, hl with | [_, _], _ => rfl
    F_NoRest___init := F2
    b_NoRest___init := F2.binds (ps := ["self", "rest"]) fun _ _ _ _ _ _ us hl => match us, hl with | [_, _], _ => rfl
    F_NoWeights___init := F3
    b_NoWeights___init := F3.binds (ps := ["self", "at"]) fun _ _ _ _ _ _ us hl => match us, hl with | [_, _], _ => rfl
    F_NoPlace___init := F4
    b_NoPlace___init := F4.binds (ps := ["self", "place"]) fun _ _ _ _ _ _ us hl => match us, hl with | [_, _], _ => rfl
    F_is_whole := F5
    n_is_whole := PySem.W.mg_of X G n_5
    b_is_whole := F5.binds (ps := ["thing"]) fun _ _ _ _ _ _ us hl => match us, hl with | [_], _ => rfl
    F_is_pair := F6
    n_is_pair := PySem.W.mg_of X G n_6
    b_is_pair := F6.binds (ps := ["thing"]) fun _ _ _ _ _ _ us hl => match us, hl with | [_], _ => rfl
    F_is_fraction := F7
    n_is_fraction := PySem.W.mg_of X G n_7
    b_is_fraction := F7.binds (ps := ["thing"]) fun _ _ _ _ _ _ us hl => match us, hl with | [_], _ => rfl
    F_is_from_nought := F8
    n_is_from_nought := PySem.W.mg_of X G n_8
    b_is_from_nought := F8.binds (ps := ["thing"]) fun _ _ _ _ _ _ us hl => match us, hl with | [_], _ => rfl
    F_reduced := F9
    n_reduced := PySem.W.mg_of X G n_9
    b_reduced := F9.binds (ps := ["top", "bottom"]) fun _ _ _ _ _ _ us hl => match us, hl with | [_, _], _ => rfl
    F_of_whole := F10
    n_of_whole := PySem.W.mg_of X G n_10
    b_of_whole := F10.binds (ps := ["number"]) fun _ _ _ _ _ _ us hl => match us, hl with | [_], _ => rfl
    F_is_below := F11
    n_is_below := PySem.W.mg_of X G n_11
    b_is_below := F11.binds (ps := ["one", "other"]) fun _ _ _ _ _ _ us hl => match us, hl with | [_, _], _ => rfl
    F_is_place := F12
    n_is_place := PySem.W.mg_of X G n_12
    b_is_place := F12.binds (ps := ["plank", "thing"]) fun _ _ _ _ _ _ us hl => match us, hl with | [_, _], _ => rfl
    F_is_above_nought := F13
    n_is_above_nought := PySem.W.mg_of X G n_13
    b_is_above_nought := F13.binds (ps := ["thing"]) fun _ _ _ _ _ _ us hl => match us, hl with | [_], _ => rfl
    F_is_weight := F14
    n_is_weight := PySem.W.mg_of X G n_14
    b_is_weight := F14.binds (ps := ["plank", "thing"]) fun _ _ _ _ _ _ us hl => match us, hl with | [_, _], _ => rfl
    F_fault_in_weights := F15
    n_fault_in_weights := PySem.W.mg_of X G n_15
    b_fault_in_weights := F15.binds (ps := ["plank", "thing"]) fun _ _ _ _ _ _ us hl => match us, hl with | [_, _], _ => rfl
    F_check_weights := F16
    n_check_weights := PySem.W.mg_of X G n_16
    b_check_weights := F16.binds (ps := ["plank", "weights"]) fun _ _ _ _ _ _ us hl => match us, hl with | [_, _], _ => rfl
    F_check_place := F17
    n_check_place := PySem.W.mg_of X G n_17
    b_check_place := F17.binds (ps := ["plank", "place"]) fun _ _ _ _ _ _ us hl => match us, hl with | [_, _], _ => rfl
    F_is_prop_of := F18
    n_is_prop_of := PySem.W.mg_of X G n_18
    b_is_prop_of := F18.binds (ps := ["lot", "thing"]) fun _ _ _ _ _ _ us hl => match us, hl with | [_, _], _ => rfl
    F_is_lot_of := F19
    n_is_lot_of := PySem.W.mg_of X G n_19
    b_is_lot_of := F19.binds (ps := ["lot", "thing"]) fun _ _ _ _ _ _ us hl => match us, hl with | [_, _], _ => rfl
    F_all_props := F20
    n_all_props := PySem.W.mg_of X G n_20
    b_all_props := F20.binds (ps := ["plank"]) fun _ _ _ _ _ _ us hl => match us, hl with | [_], _ => rfl
    F_lot_of := F21
    n_lot_of := PySem.W.mg_of X G n_21
    b_lot_of := F21.binds (ps := ["plank", "lot"]) fun _ _ _ _ _ _ us hl => match us, hl with | [_, _], _ => rfl
    F_Moments___init := F22
    b_Moments___init := F22.binds (ps := ["self", "weights"]) fun _ _ _ _ _ _ us hl => match us, hl with | [_, _], _ => rfl
    F_Moments__over_bottom := F23
    m_Moments__over_bottom := ⟨n_23, me1 f23 (by simp), okF_k c_23⟩
    b_Moments__over_bottom := F23.binds (ps := ["self", "place", "weight"]) fun _ _ _ _ _ _ us hl => match us, hl with | [_, _, _], _ => rfl
    F_Moments__moment := F24
    m_Moments__moment := ⟨n_24, me1 f24 (by simp), okF_k c_24⟩
    b_Moments__moment := F24.binds (ps := ["self", "place"]) fun _ _ _ _ _ _ us hl => match us, hl with | [_, _], _ => rfl
    F_Moments_laid := F25
    m_Moments_laid := ⟨n_25, me1 f25 (by simp), okF_k c_25⟩
    b_Moments_laid := F25.binds (ps := ["self", "left", "at", "right"]) fun _ _ _ _ _ _ us hl => match us, hl with | [_, _, _, _], _ => rfl
    F_Moments__above := F26
    m_Moments__above := ⟨n_26, me1 f26 (by simp), okF_k c_26⟩
    b_Moments__above := F26.binds (ps := ["self", "left", "right", "place"]) fun _ _ _ _ _ _ us hl => match us, hl with | [_, _, _, _], _ => rfl
    F_Moments_bend := F27
    m_Moments_bend := ⟨n_27, me1 f27 (by simp), okF_k c_27⟩
    b_Moments_bend := F27.binds (ps := ["self", "left", "right", "place"]) fun _ _ _ _ _ _ us hl => match us, hl with | [_, _, _, _], _ => rfl
    F_Moments_greatest_bend := F28
    m_Moments_greatest_bend := ⟨n_28, me1 f28 (by simp), okF_k c_28⟩
    b_Moments_greatest_bend := F28.binds (ps := ["self", "left", "right"]) fun _ _ _ _ _ _ us hl => match us, hl with | [_, _, _], _ => rfl
    F_is_length := F29
    n_is_length := PySem.W.mg_of X G n_29
    b_is_length := F29.binds (ps := ["thing"]) fun _ _ _ _ _ _ us hl => match us, hl with | [_], _ => rfl
    F_are_props := F30
    n_are_props := PySem.W.mg_of X G n_30
    b_are_props := F30.binds (ps := ["thing", "length"]) fun _ _ _ _ _ _ us hl => match us, hl with | [_, _], _ => rfl
    F_is_bend := F31
    n_is_bend := PySem.W.mg_of X G n_31
    b_is_bend := F31.binds (ps := ["thing"]) fun _ _ _ _ _ _ us hl => match us, hl with | [_], _ => rfl
    F_Plank___init := F32
    F_Plank_length := F33
    m_Plank_length := ⟨n_33, me1 f33 (by simp), okF_k c_33⟩
    b_Plank_length := F33.binds (ps := ["self"]) fun _ _ _ _ _ _ us hl => match us, hl with | [_], _ => rfl
    F_Plank_props := F34
    m_Plank_props := ⟨n_34, me1 f34 (by simp), okF_k c_34⟩
    b_Plank_props := F34.binds (ps := ["self"]) fun _ _ _ _ _ _ us hl => match us, hl with | [_], _ => rfl
    F_Plank_bend := F35
    m_Plank_bend := ⟨n_35, me1 f35 (by simp), okF_k c_35⟩
    b_Plank_bend := F35.binds (ps := ["self"]) fun _ _ _ _ _ _ us hl => match us, hl with | [_], _ => rfl
    F_Plank_count := F36
    m_Plank_count := ⟨n_36, me1 f36 (by simp), okF_k c_36⟩
    b_Plank_count := F36.binds (ps := ["self"]) fun _ _ _ _ _ _ us hl => match us, hl with | [_], _ => rfl
    F_Plank_place_of := F37
    m_Plank_place_of := ⟨n_37, me1 f37 (by simp), okF_k c_37⟩
    b_Plank_place_of := F37.binds (ps := ["self", "rest"]) fun _ _ _ _ _ _ us hl => match us, hl with | [_, _], _ => rfl
    F_Plank___eq := F39
    m_Plank___eq := ⟨n_39, me1 f39 (by simp), okF_k c_39⟩
    b_Plank___eq := F39.binds (ps := ["self", "other"]) fun _ _ _ _ _ _ us hl => match us, hl with | [_, _], _ => rfl
    F_Bearing___init := F40
    b_Bearing___init := F40.binds (ps := ["self", "plank", "weights"]) fun _ _ _ _ _ _ us hl => match us, hl with | [_, _, _], _ => rfl
    F_Bearing__laid := F41
    m_Bearing__laid := ⟨n_41, me1 f41 (by simp), okF_k c_41⟩
    b_Bearing__laid := F41.binds (ps := ["self", "left", "rest", "right"]) fun _ _ _ _ _ _ us hl => match us, hl with | [_, _, _, _], _ => rfl
    F_Bearing_rests := F42
    m_Bearing_rests := ⟨n_42, me1 f42 (by simp), okF_k c_42⟩
    b_Bearing_rests := F42.binds (ps := ["self", "lot"]) fun _ _ _ _ _ _ us hl => match us, hl with | [_, _], _ => rfl
    F_Bearing_ends_of_boards := F43
    m_Bearing_ends_of_boards := ⟨n_43, me1 f43 (by simp), okF_k c_43⟩
    b_Bearing_ends_of_boards := F43.binds (ps := ["self", "lot"]) fun _ _ _ _ _ _ us hl => match us, hl with | [_, _], _ => rfl
    F_Bearing_borne := F45
    m_Bearing_borne := ⟨n_45, me1 f45 (by simp), okF_k c_45⟩
    b_Bearing_borne := F45.binds (ps := ["self", "lot"]) fun _ _ _ _ _ _ us hl => match us, hl with | [_, _], _ => rfl
    F_Bearing_bend := F46
    m_Bearing_bend := ⟨n_46, me1 f46 (by simp), okF_k c_46⟩
    b_Bearing_bend := F46.binds (ps := ["self", "left", "right", "place"]) fun _ _ _ _ _ _ us hl => match us, hl with | [_, _, _, _], _ => rfl
    F_Bearing_board := F47
    m_Bearing_board := ⟨n_47, me1 f47 (by simp), okF_k c_47⟩
    b_Bearing_board := F47.binds (ps := ["self", "left", "right"]) fun _ _ _ _ _ _ us hl => match us, hl with | [_, _, _], _ => rfl
    F_around := F54
    n_around := PySem.W.mg_of X G n_54
    b_around := F54.binds (ps := ["left", "rests", "right"]) fun _ _ _ _ _ _ us hl => match us, hl with | [_, _, _], _ => rfl
    F_asked := F55
    n_asked := PySem.W.mg_of X G n_55
    b_asked := F55.binds (ps := ["plank", "weights", "lot"]) fun _ _ _ _ _ _ us hl => match us, hl with | [_, _, _], _ => rfl
    F_borne := F56
    n_borne := PySem.W.mg_of X G n_56
    F_bend_at := F57
    n_bend_at := PySem.W.mg_of X G n_57
    F_boards := F58
    n_boards := PySem.W.mg_of X G n_58
    F_law_cell_at := F59
    n_law_cell_at := PySem.W.mg_of X G n_59
    b_law_cell_at := F59.binds (ps := ["_law_script", "_law_k"]) fun _ _ _ _ _ _ us hl => match us, hl with | [_, _], _ => rfl
    F_law_source := F60
    n_law_source := PySem.W.mg_of X G n_60
    b_law_source := F60.binds (ps := ["_law_cell"]) fun _ _ _ _ _ _ us hl => match us, hl with | [_], _ => rfl
    F_law_take := F61
    n_law_take := PySem.W.mg_of X G n_61
    b_law_take := F61.binds (ps := ["_law_source_here", "_law_many"]) fun _ _ _ _ _ _ us hl => match us, hl with | [_, _], _ => rfl
    F_law_one := F62
    n_law_one := PySem.W.mg_of X G n_62
    b_law_one := F62.binds (ps := ["_law_source_here", "_law_some"]) fun _ _ _ _ _ _ us hl => match us, hl with | [_, _], _ => rfl
    F_law_cut := F63
    n_law_cut := PySem.W.mg_of X G n_63
    b_law_cut := F63.binds (ps := ["_law_top", "_law_bottom"]) fun _ _ _ _ _ _ us hl => match us, hl with | [_, _], _ => rfl
    F_law_plus := F64
    n_law_plus := PySem.W.mg_of X G n_64
    b_law_plus := F64.binds (ps := ["_law_one_here", "_law_other"]) fun _ _ _ _ _ _ us hl => match us, hl with | [_, _], _ => rfl
    F_law_below := F67
    n_law_below := PySem.W.mg_of X G n_67
    b_law_below := F67.binds (ps := ["_law_one_here", "_law_other"]) fun _ _ _ _ _ _ us hl => match us, hl with | [_, _], _ => rfl
    F_law_measure := F69
    n_law_measure := PySem.W.mg_of X G n_69
    b_law_measure := F69.binds (ps := ["_law_source_here", "_law_most"]) fun _ _ _ _ _ _ us hl => match us, hl with | [_, _], _ => rfl
    F_law_plank := F70
    n_law_plank := PySem.W.mg_of X G n_70
    b_law_plank := F70.binds (ps := ["_law_source_here"]) fun _ _ _ _ _ _ us hl => match us, hl with | [_], _ => rfl
    F_law_weights := F71
    n_law_weights := PySem.W.mg_of X G n_71
    b_law_weights := F71.binds (ps := ["_law_source_here", "_law_m", "_law_most"]) fun _ _ _ _ _ _ us hl => match us, hl with | [_, _, _], _ => rfl
    F_law_made := F72
    n_law_made := PySem.W.mg_of X G n_72
    b_law_made := F72.binds (ps := ["_law_m"]) fun _ _ _ _ _ _ us hl => match us, hl with | [_], _ => rfl
    F_law_lot := F73
    n_law_lot := PySem.W.mg_of X G n_73
    b_law_lot := F73.binds (ps := ["_law_source_here", "_law_m"]) fun _ _ _ _ _ _ us hl => match us, hl with | [_, _], _ => rfl
    F_law_no_less := F75
    n_law_no_less := PySem.W.mg_of X G n_75
    b_law_no_less := F75.binds (ps := ["_law_fewer", "_law_more"]) fun _ _ _ _ _ _ us hl => match us, hl with | [_, _], _ => rfl
    F_law_bends_right := F76
    n_law_bends_right := PySem.W.mg_of X G n_76
    b_law_bends_right := F76.binds (ps := ["_law_source_here", "_law_m", "_law_plank_here", "_law_weights_here", "_law_lots"]) fun _ _ _ _ _ _ us hl => match us, hl with | [_, _, _, _, _], _ => rfl
    n_gcd := PySem.W.mg_of X G gcd
    n_lcm := PySem.W.mg_of X G lcm
    n_LEAST_LENGTH := PySem.W.mg_of X G i_0
    n_MOST_LENGTH := PySem.W.mg_of X G i_1
    n_MOST_PROPS := PySem.W.mg_of X G i_2
    n_LEFT_REST := PySem.W.mg_of X G i_3
    c_Plank := P1
    n_Plank := PySem.W.mg_of X G g_Plank
    f_length := P2
    f_props := P3
    f_bend := P4
    M_Plank := P5
    bK_Plank := ⟨fun s us ws _ hu hw => match us, hu, ws, hw with | [_, _, _], _, [_], _ => .of_eq rfl, fun r1 r2 => r1.append r2⟩
    e_Plank := P6
    i_Plank := P7
    j_Plank := P8
    c_Bearing := Q1
    n_Bearing := PySem.W.mg_of X G g_Bearing
    c_Moments := R1
    n_Moments := PySem.W.mg_of X G g_Moments
    M_Moments := R9
    n_around_bearing := PySem.W.mg_of X G n_ab
    f_count := Q2 "_count" (by simp)
    f_strengths := Q2 "_strengths" (by simp)
    f_places := Q2 "_places" (by simp)
    f_moments := Q2 "_moments" (by simp)
    f_overlaid := Q2 "_overlaid" (by simp)
    f_spares := Q2 "_spares" (by simp)
    f_held := Q2 "_held" (by simp)
    fB_bend := Q2 "_bend" (by simp)
    f_bottom := R2 "_bottom" (by simp)
    f_weights := R2 "_weights" (by simp)
    f_known := R2 "_known" (by simp)
    M_Bearing := Q9
    bK_borne := ⟨fun s us ws _ hu hw => match us, hu, ws, hw with | [_, _], _, [_], _ => .of_eq rfl, fun r1 r2 => r1.append r2⟩
    bD_borne := BD56
    bK_boards := ⟨fun s us ws _ hu hw => match us, hu, ws, hw with | [_, _], _, [_], _ => .of_eq rfl, fun r1 r2 => r1.append r2⟩
    bD_boards := BD58
    bK_bend_at := ⟨fun s us ws _ hu hw => match us, hu, ws, hw with | [_, _, _], _, [_], _ => .of_eq rfl, fun r1 r2 => r1.append r2⟩
    bD_bend_at := BD57
    x_NoPlank := xcB_ok o_NoPlank x_NoPlank
    n_NoPlank := PySem.W.mg_of X G g_NoPlank
    x_NoRest := xcB_ok o_NoRest x_NoRest
    n_NoRest := PySem.W.mg_of X G g_NoRest
    x_NoWeights := xcB_ok o_NoWeights x_NoWeights
    n_NoWeights := PySem.W.mg_of X G g_NoWeights
    x_NoPlace := xcB_ok o_NoPlace x_NoPlace
    n_NoPlace := PySem.W.mg_of X G g_NoPlace
    x_NoLot := (sxB_ok lo).1
    n_NoLot := PySem.W.mg_of X G g_NoLot
    k_NoLot := (sxB_ok lo).2.1
    xb_NoLot := (sxB_ok lo).2.2.1
    xt_NoLot := (sxB_ok lo).2.2.2
    n_NOUGHT := PySem.W.mg_of X G g_NOUGHT
    t_NOUGHT := noughtB_ok l_NOUGHT z_NOUGHT }
  exact ⟨_, fun s u => .of_eq rfl, fun base _ _ => ok_law T F77⟩
end K06
open PySem PySem.W PyProof.Rows in
set_option maxRecDepth 100000 in
set_option maxHeartbeats 0 in
theorem PySem.Challenge.cw_propfall_k06_whole_less_standing_more_li_holds : PySem.Challenge.rw_propfall_k06_whole_less_standing_more_li.Holds := by
  w_on; o_law; k_head; (case hw => w_witness2)
  k_fill
  refine K06.walk (l := PySem.Challenge.rw_propfall_k06_whole_less_standing_more_li) rfl rfl (fun w h Y => PySem.W.kIn_of Y) ?F
  case F =>
    intro w mg fn h KX G hmg
    refine' K06.all_mk KX G hmg ?g_NoPlank ?g_NoRest ?g_NoWeights ?g_NoPlace ?g_NoLot ?g_Plank ?g_Bearing ?g_Moments ?n_1 ?l_1 ?c_1 ?n_2 ?l_2 ?c_2 ?n_3 ?l_3 ?c_3 ?n_4 ?l_4 ?c_4 ?n_5 ?l_5 ?c_5 ?n_6 ?l_6 ?c_6 ?n_7 ?l_7 ?c_7 ?n_8 ?l_8 ?c_8 ?n_9 ?l_9 ?c_9 ?n_10 ?l_10 ?c_10 ?n_11 ?l_11 ?c_11 ?n_12 ?l_12 ?c_12 ?n_13 ?l_13 ?c_13 ?n_14 ?l_14 ?c_14 ?n_15 ?l_15 ?c_15 ?n_16 ?l_16 ?c_16 ?n_17 ?l_17 ?c_17 ?n_18 ?l_18 ?c_18 ?n_19 ?l_19 ?c_19 ?n_20 ?l_20 ?c_20 ?n_21 ?l_21 ?c_21 ?n_22 ?l_22 ?c_22 ?n_23 ?l_23 ?c_23 ?n_24 ?l_24 ?c_24 ?n_25 ?l_25 ?c_25 ?n_26 ?l_26 ?c_26 ?n_27 ?l_27 ?c_27 ?n_28 ?l_28 ?c_28 ?n_29 ?l_29 ?c_29 ?n_30 ?l_30 ?c_30 ?n_31 ?l_31 ?c_31 ?n_32 ?l_32 ?c_32 ?n_33 ?l_33 ?c_33 ?n_34 ?l_34 ?c_34 ?n_35 ?l_35 ?c_35 ?n_36 ?l_36 ?c_36 ?n_37 ?l_37 ?c_37 ?n_39 ?l_39 ?c_39 ?n_40 ?l_40 ?c_40 ?n_41 ?l_41 ?c_41 ?n_42 ?l_42 ?c_42 ?n_43 ?l_43 ?c_43 ?n_45 ?l_45 ?c_45 ?n_46 ?l_46 ?c_46 ?n_47 ?l_47 ?c_47 ?n_54 ?l_54 ?c_54 ?n_55 ?l_55 ?c_55 ?n_56 ?l_56 ?c_56 ?n_57 ?l_57 ?c_57 ?n_58 ?l_58 ?c_58 ?n_59 ?l_59 ?c_59 ?n_60 ?l_60 ?c_60 ?n_61 ?l_61 ?c_61 ?n_62 ?l_62 ?c_62 ?n_63 ?l_63 ?c_63 ?n_64 ?l_64 ?c_64 ?n_67 ?l_67 ?c_67 ?n_69 ?l_69 ?c_69 ?n_70 ?l_70 ?c_70 ?n_71 ?l_71 ?c_71 ?n_72 ?l_72 ?c_72 ?n_73 ?l_73 ?c_73 ?n_75 ?l_75 ?c_75 ?n_76 ?l_76 ?c_76 ?n_77 ?l_77 ?c_77 ?kw56 ?kw58 ?kw57 ?zs ?gcd ?lcm ?i_0 ?i_1 ?i_2 ?i_3 ?g_NOUGHT ?l_NOUGHT ?z_NOUGHT ?n_ab ?pl ?be ?mo ?me ?o_NoPlank ?x_NoPlank ?o_NoRest ?x_NoRest ?o_NoWeights ?x_NoWeights ?o_NoPlace ?x_NoPlace ?lo
    (case g_NoPlank => k_is)
    (case g_NoRest => k_is)
    (case g_NoWeights => k_is)
    (case g_NoPlace => k_is)
    (case g_NoLot => k_is)
    (case g_Plank => k_is)
    (case g_Bearing => k_is)
    (case g_Moments => k_is)
    (case n_1 => k_is)
    (case l_1 => k_is)
    (case c_1 => kernel_rfl)
    (case n_2 => k_is)
    (case l_2 => k_is)
    (case c_2 => kernel_rfl)
    (case n_3 => k_is)
    (case l_3 => k_is)
    (case c_3 => kernel_rfl)
    (case n_4 => k_is)
    (case l_4 => k_is)
    (case c_4 => kernel_rfl)
    (case n_5 => k_is)
    (case l_5 => k_is)
    (case c_5 => kernel_rfl)
    (case n_6 => k_is)
    (case l_6 => k_is)
    (case c_6 => kernel_rfl)
    (case n_7 => k_is)
    (case l_7 => k_is)
    (case c_7 => kernel_rfl)
    (case n_8 => k_is)
    (case l_8 => k_is)
    (case c_8 => kernel_rfl)
    (case n_9 => k_is)
    (case l_9 => k_is)
    (case c_9 => kernel_rfl)
    (case n_10 => k_is)
    (case l_10 => k_is)
    (case c_10 => kernel_rfl)
    (case n_11 => k_is)
    (case l_11 => k_is)
    (case c_11 => kernel_rfl)
    (case n_12 => k_is)
    (case l_12 => k_is)
    (case c_12 => kernel_rfl)
    (case n_13 => k_is)
    (case l_13 => k_is)
    (case c_13 => kernel_rfl)
    (case n_14 => k_is)
    (case l_14 => k_is)
    (case c_14 => kernel_rfl)
    (case n_15 => k_is)
    (case l_15 => k_is)
    (case c_15 => kernel_rfl)
    (case n_16 => k_is)
    (case l_16 => k_is)
    (case c_16 => kernel_rfl)
    (case n_17 => k_is)
    (case l_17 => k_is)
    (case c_17 => kernel_rfl)
    (case n_18 => k_is)
    (case l_18 => k_is)
    (case c_18 => kernel_rfl)
    (case n_19 => k_is)
    (case l_19 => k_is)
    (case c_19 => kernel_rfl)
    (case n_20 => k_is)
    (case l_20 => k_is)
    (case c_20 => kernel_rfl)
    (case n_21 => k_is)
    (case l_21 => k_is)
    (case c_21 => kernel_rfl)
    (case n_22 => k_is)
    (case l_22 => k_is)
    (case c_22 => kernel_rfl)
    (case n_23 => k_is)
    (case l_23 => k_is)
    (case c_23 => kernel_rfl)
    (case n_24 => k_is)
    (case l_24 => k_is)
    (case c_24 => kernel_rfl)
    (case n_25 => k_is)
    (case l_25 => k_is)
    (case c_25 => kernel_rfl)
    (case n_26 => k_is)
    (case l_26 => k_is)
    (case c_26 => kernel_rfl)
    (case n_27 => k_is)
    (case l_27 => k_is)
    (case c_27 => kernel_rfl)
    (case n_28 => k_is)
    (case l_28 => k_is)
    (case c_28 => kernel_rfl)
    (case n_29 => k_is)
    (case l_29 => k_is)
    (case c_29 => kernel_rfl)
    (case n_30 => k_is)
    (case l_30 => k_is)
    (case c_30 => kernel_rfl)
    (case n_31 => k_is)
    (case l_31 => k_is)
    (case c_31 => kernel_rfl)
    (case n_32 => k_is)
    (case l_32 => k_is)
    (case c_32 => kernel_rfl)
    (case n_33 => k_is)
    (case l_33 => k_is)
    (case c_33 => kernel_rfl)
    (case n_34 => k_is)
    (case l_34 => k_is)
    (case c_34 => kernel_rfl)
    (case n_35 => k_is)
    (case l_35 => k_is)
    (case c_35 => kernel_rfl)
    (case n_36 => k_is)
    (case l_36 => k_is)
    (case c_36 => kernel_rfl)
    (case n_37 => k_is)
    (case l_37 => k_is)
    (case c_37 => kernel_rfl)
    (case n_39 => k_is)
    (case l_39 => k_is)
    (case c_39 => kernel_rfl)
    (case n_40 => k_is)
    (case l_40 => k_is)
    (case c_40 => kernel_rfl)
    (case n_41 => k_is)
    (case l_41 => k_is)
    (case c_41 => kernel_rfl)
    (case n_42 => k_is)
    (case l_42 => k_is)
    (case c_42 => kernel_rfl)
    (case n_43 => k_is)
    (case l_43 => k_is)
    (case c_43 => kernel_rfl)
    (case n_45 => k_is)
    (case l_45 => k_is)
    (case c_45 => kernel_rfl)
    (case n_46 => k_is)
    (case l_46 => k_is)
    (case c_46 => kernel_rfl)
    (case n_47 => k_is)
    (case l_47 => k_is)
    (case c_47 => kernel_rfl)
    (case n_54 => k_is)
    (case l_54 => k_is)
    (case c_54 => kernel_rfl)
    (case n_55 => k_is)
    (case l_55 => k_is)
    (case c_55 => kernel_rfl)
    (case n_56 => k_is)
    (case l_56 => k_is)
    (case c_56 => kernel_rfl)
    (case n_57 => k_is)
    (case l_57 => k_is)
    (case c_57 => kernel_rfl)
    (case n_58 => k_is)
    (case l_58 => k_is)
    (case c_58 => kernel_rfl)
    (case n_59 => k_is)
    (case l_59 => k_is)
    (case c_59 => kernel_rfl)
    (case n_60 => k_is)
    (case l_60 => k_is)
    (case c_60 => kernel_rfl)
    (case n_61 => k_is)
    (case l_61 => k_is)
    (case c_61 => kernel_rfl)
    (case n_62 => k_is)
    (case l_62 => k_is)
    (case c_62 => kernel_rfl)
    (case n_63 => k_is)
    (case l_63 => k_is)
    (case c_63 => kernel_rfl)
    (case n_64 => k_is)
    (case l_64 => k_is)
    (case c_64 => kernel_rfl)
    (case n_67 => k_is)
    (case l_67 => k_is)
    (case c_67 => kernel_rfl)
    (case n_69 => k_is)
    (case l_69 => k_is)
    (case c_69 => kernel_rfl)
    (case n_70 => k_is)
    (case l_70 => k_is)
    (case c_70 => kernel_rfl)
    (case n_71 => k_is)
    (case l_71 => k_is)
    (case c_71 => kernel_rfl)
    (case n_72 => k_is)
    (case l_72 => k_is)
    (case c_72 => kernel_rfl)
    (case n_73 => k_is)
    (case l_73 => k_is)
    (case c_73 => kernel_rfl)
    (case n_75 => k_is)
    (case l_75 => k_is)
    (case c_75 => kernel_rfl)
    (case n_76 => k_is)
    (case l_76 => k_is)
    (case c_76 => kernel_rfl)
    (case n_77 => k_is)
    (case l_77 => k_is)
    (case c_77 => kernel_rfl)
    (case kw56 => k_is)
    (case kw58 => k_is)
    (case kw57 => k_is)
    (case zs => kernel_rfl)
    (case gcd => k_is)
    (case lcm => k_is)
    (case i_0 => k_is)
    (case i_1 => k_is)
    (case i_2 => k_is)
    (case i_3 => k_is)
    (case g_NOUGHT => k_is)
    (case l_NOUGHT => k_is)
    (case z_NOUGHT => kernel_rfl)
    (case n_ab => k_is)
    (case pl => kernel_rfl)
    (case be => kernel_rfl)
    (case mo => kernel_rfl)
    (case me => kernel_rfl)
    (case o_NoPlank => k_is)
    (case x_NoPlank => kernel_rfl)
    (case o_NoRest => k_is)
    (case x_NoRest => kernel_rfl)
    (case o_NoWeights => k_is)
    (case x_NoWeights => kernel_rfl)
    (case o_NoPlace => k_is)
    (case x_NoPlace => kernel_rfl)
    (case lo => kernel_rfl)
