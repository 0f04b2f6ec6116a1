import PyProof.Rows.All
import Wide.All
import OpenK.AllK
import Wide.FinOn
import HandS.ForMost
import HandS.IsInst
import HandS.Zip
import HandS.Wide
import HandS.Star
import HandS.Codes
import HandS.Walk
import HandS.Rev
import HandS.More
import HandS.TupAny
import HandS.SortInts
import PyProof.LongRange
import KE.GoesEnum
import KE.DataMinMax
import PyProof.EnumMake
import KE.KDictZip
import KE.KDictItemsList
import HandS.ListItems
import HandS.Style
import PySem.Challenge.RW_scatterwords_k11_first_and_last_places
set_option Elab.async false
set_option linter.all false
set_option maxRecDepth 100000
set_option maxHeartbeats 4000000
namespace SW
open PySem PySem.Spec PyProof.Rows L2

/-- a def that stands in the module -/
structure Df (K : PySem.W.Frag) (mg : Str → Option Value) (x : Str) (st : Stmt) (ps : List Str) : Prop where
  ex : ∃ f fd, Fun K x x st f fd ∧ mg x = some (.ref f) ∧ Binds K fd ps []
/-- a def that keeps a promise and can be called by its name -/
structure Cal (P : Program) (w : World) (K : PySem.W.Frag) (mg : Str → Option Value) (base : Heap) (k : Nat) (x : Str) (ps : List Str) (sp : Sp) : Prop where
  ex : ∃ f fd, FnOk P w K mg base CX0 k f fd ps sp ∧ mg x = some (.ref f) ∧ PySem.W.keepIn K (.ref f) = true ∧ Binds K fd ps [] ∧ ∃ oc od osl, K.lookup f = some ⟨oc, od, .func fd, osl⟩
/-- the built-in names that are not bound in the module -/
structure Bi (mg : Str → Option Value) : Prop where
  len : mg "len" = none
  int : mg "int" = none
  list : mg "list" = none
  tuple : mg "tuple" = none
  isinstance : mg "isinstance" = none
  zip : mg "zip" = none
  all : mg "all" = none
  sum : mg "sum" = none
  range : mg "range" = none
  str : mg "str" = none
  bool : mg "bool" = none
  reversed : mg "reversed" = none
  max : mg "max" = none
  sorted : mg "sorted" = none
  ord : mg "ord" = none
  min : mg "min" = none
  any : mg "any" = none
  dict : mg "dict" = none
  set : mg "set" = none
section
variable {P : Program} {w : World} {K : PySem.W.Frag} {mg : Str → Option Value} {base : Heap}
theorem Cal.imp {k : Nat} {x : Str} {ps : List Str} {sp sp' : Sp} (c : Cal P w K mg base k x ps sp) (h : ∀ vs H Q E, sp' vs H Q E → sp vs H Q E) : Cal P w K mg base k x ps sp' := by
  obtain ⟨f, fd, F, a, b, d⟩ := c.ex
  exact ⟨f, fd, F.imp h, a, b, d⟩
theorem Cal.mono {j k : Nat} {x : Str} {ps : List Str} {sp : Sp} (c : Cal P w K mg base j x ps sp) (h : j ≤ k) : Cal P w K mg base k x ps sp := by
  obtain ⟨f, fd, F, a, b, d⟩ := c.ex
  exact ⟨f, fd, F.mono h, a, b, d⟩
theorem Df.ok {x : Str} {st : Stmt} {N ps : List Str} {k : Nat} {sp : Sp} (D : Df K mg x st ps) (S : FnScope N ps (defScope st)) (len : ∀ vs H Q E, sp vs H Q E → vs.length = ps.length)
    (hbody : ∀ (f : Addr) (cdv : Value) (A : Around) (outer : List Env) (s : Shared) (H : Hp) (vs : List V) (Q : VK) (E : XK), Room k (A.deeper (envOfC x (defScope st) s.heap.objs.size f cdv)) → sp vs H Q E →
      ∃ t, PSs (cxOf CX0 P w K mg base N x (defScope st) f cdv A outer s H E).nox (defBody st) t ∧ t { nx := fun _ H' => Q .non H', rt := Q } (start N vs) H) : Cal P w K mg base (k + 1) x ps sp := by
  obtain ⟨f, fd, F, m, b⟩ := D.ex
  obtain ⟨oc, od, kV, doc, pm, an, cdv, ct, osl, _, lk, _⟩ := F.ex
  exact ⟨f, fd, F.ok S len fun cdv A outer s H vs Q E hr h => hbody f cdv A outer s H vs Q E hr h, m, F.kp, b, oc, od, osl, lk⟩
/-- a promise that asks what cannot be is kept by every def -/
theorem Df.no {x : Str} {st : Stmt} {ps : List Str} {k : Nat} {sp : Sp} (D : Df K mg x st ps) (h : ∀ vs H Q E, ¬ sp vs H Q E) : Cal P w K mg base k x ps sp := by
  obtain ⟨f, fd, F, m, b⟩ := D.ex
  obtain ⟨oc, od, kV, doc, pm, an, cdv, ct, osl, _, lk, _⟩ := F.ex
  exact ⟨f, fd, ⟨fun vs H Q E q => absurd q (h vs H Q E), fun A outer s H args us vs Q E _ _ _ _ q => absurd q (h vs H Q E)⟩, m, F.kp, b, oc, od, osl, lk⟩
end
section
variable {X : Cx} {k j : Nat} {x : Str} {ps : List Str} {sp : Sp} {p pos : Pos} {e : Expr} {es : List Expr} {t : TA}
theorem pe_own (c : Cal X.prog X.w X.K X.mg X.base k x ps sp) (hr : Room j X.A) (hk : k ≤ j) (hg : Gl X x) (ha : PA X (e :: es) t) (hdb : (x == ("__debug__" : Str)) = false := by decide)
    (he : starEach (e :: es) X.env = (false, eval e X.env) :: starEach es X.env := by rfl) (hpl : (backTo pos (starEach es X.env)).any (·.1) = false := by rfl) :
    PE X (.Call (.Name x p) (e :: es) [] pos) (tCall sp [] E0 t) := by
  obtain ⟨f, fd, F, hm, hK, hb, _⟩ := c.ex
  exact pe_call F (hr.mono hk) hg hm hK hb .nil pass0 ha hdb he hpl
end
section
variable {X : Cx} {k j : Nat} {x : Str} {ps ks : List Str} {sp : Sp} {p pos : Pos} {kws : List Keyword} {tk : TA} {st : Stmt} {g : List Value → List Value → List Value} {gV : List V → List V → List V} {e : Expr} {es : List Expr} {t : TA}
theorem kbinds {K : PySem.W.Frag} {mg : Str → Option Value} {f : Addr} {fd : FuncData} (D : Df K mg x st ps) (hm : mg x = some (.ref f)) (hl : ∃ oc od osl, K.lookup f = some ⟨oc, od, .func fd, osl⟩)
    (hb : ∀ (kV doc pm : Value) (an : Option Addr) (cdv ct : Value) (us ws : List Value), (g us ws).length = ps.length → bindArgs (PySem.W.fnOf x x (defArgs st) (defBody st) (defScope st) .none kV doc pm an cdv ct) ⟨us, ks.zip ws⟩ = pure (ps.zip (g us ws)))
    (hrel : ∀ {vs : List V} {us : List Value} {zs : List V} {ws : List Value}, Vals vs us → Vals zs ws → Vals (gV vs zs) (g us ws)) : KBinds K fd ps ks g gV := by
  obtain ⟨f', fd', F, m, b⟩ := D.ex
  have e : f' = f := by
    rw [hm] at m
    cases m
    rfl
  subst e
  obtain ⟨oc, od, kV, doc, pm, an, cdv, ct, osl, rfl, lk, _⟩ := F.ex
  obtain ⟨oc', od', osl', lk'⟩ := hl
  rw [lk] at lk'
  cases lk'
  exact ⟨fun s us ws _ hlen => .of_eq (hb kV doc pm an cdv ct us ws hlen), hrel⟩
/-- a call with keywords alone -/
theorem pe_ownK0 (c : Cal X.prog X.w X.K X.mg X.base k x ps sp) (D : Df X.K X.mg x st ps) (hr : Room j X.A) (hk : k ≤ j) (hg : Gl X x)
    (hb : ∀ (kV doc pm : Value) (an : Option Addr) (cdv ct : Value) (us ws : List Value), (g us ws).length = ps.length → bindArgs (PySem.W.fnOf x x (defArgs st) (defBody st) (defScope st) .none kV doc pm an cdv ct) ⟨us, ks.zip ws⟩ = pure (ps.zip (g us ws)))
    (hrel : ∀ {vs : List V} {us : List Value} {zs : List V} {ws : List Value}, Vals vs us → Vals zs ws → Vals (gV vs zs) (g us ws)) (hkw : PK X kws tk) (hall : (backToKw pos (keywordEach kws X.env)).all (·.1.isSome) = true := by rfl) (hks : (backToKw pos (keywordEach kws X.env)).filterMap (·.1) = ks := by rfl)
    (hdb : (x == ("__debug__" : Str)) = false := by decide)
    (hpl : ((backTo pos (starEach [] X.env)).any (·.1) || (backToKw pos (keywordEach kws X.env)).any (·.1.isNone)) = false := by rfl) :
    PE X (.Call (.Name x p) [] kws pos) (tCallK sp gV E0 tNil tk) := by
  obtain ⟨f, fd, F, hm, hK, _, hl⟩ := c.ex
  have hb' : KBinds X.K fd ps ks g gV := kbinds D hm hl hb hrel
  refine ⟨fun pins s σ H Q I h => ?_⟩
  refine wpAny_Call_Name_kw (ld_glob I hg hm ?_ hdb)
  refine PySem.W.callWith_KW0 (h₀ := X.base) I.ok.mod.kin hK hall (thn (hkw.run pos pins s σ H _ I h) fun ws s2 ⟨zs, H2, I2, rz, q2⟩ => ⟨I2.kIn, ?_⟩) hpl
  rw [hks]
  exact run_fnk (F.mono hk) hr hb' pass0 I2 .nil rz q2
/-- a call with places and keywords -/
theorem pe_ownK (c : Cal X.prog X.w X.K X.mg X.base k x ps sp) (D : Df X.K X.mg x st ps) (hr : Room j X.A) (hk : k ≤ j) (hg : Gl X x)
    (hb : ∀ (kV doc pm : Value) (an : Option Addr) (cdv ct : Value) (us ws : List Value), (g us ws).length = ps.length → bindArgs (PySem.W.fnOf x x (defArgs st) (defBody st) (defScope st) .none kV doc pm an cdv ct) ⟨us, ks.zip ws⟩ = pure (ps.zip (g us ws)))
    (hrel : ∀ {vs : List V} {us : List Value} {zs : List V} {ws : List Value}, Vals vs us → Vals zs ws → Vals (gV vs zs) (g us ws)) (ha : PA X (e :: es) t) (hkw : PK X kws tk) (hall : (backToKw pos (keywordEach kws X.env)).all (·.1.isSome) = true := by rfl) (hks : (backToKw pos (keywordEach kws X.env)).filterMap (·.1) = ks := by rfl)
    (hdb : (x == ("__debug__" : Str)) = false := by decide) (he : starEach (e :: es) X.env = (false, eval e X.env) :: starEach es X.env := by rfl)
    (hpl : ((backTo pos (starEach (e :: es) X.env)).any (·.1) || (backToKw pos (keywordEach kws X.env)).any (·.1.isNone)) = false := by rfl) :
    PE X (.Call (.Name x p) (e :: es) kws pos) (tCallK sp gV E0 t tk) := by
  obtain ⟨f, fd, F, hm, hK, _, hl⟩ := c.ex
  exact pe_callK (F.mono hk) hr hg hm hK (kbinds D hm hl hb hrel) pass0 ha hkw hall hks hdb he hpl
end
/-! ### how keywords come to their places -/
def g1 {α : Type} : List α → List α → List α
  | [], [a] => [a]
  | _, _ => []
def g2 {α : Type} : List α → List α → List α
  | [], [a, b] => [a, b]
  | _, _ => []
def g2s {α : Type} : List α → List α → List α
  | [], [a, b] => [b, a]
  | _, _ => []
def g11 {α : Type} : List α → List α → List α
  | [a], [b] => [a, b]
  | _, _ => []
theorem g1_inv {α : Type} {us ws : List α} (h : (g1 us ws).length = 1) : ∃ a, us = [] ∧ ws = [a] := by
  unfold g1 at h
  split at h
  · exact ⟨_, rfl, rfl⟩
  · cases h
theorem g2_inv {α : Type} {us ws : List α} (h : (g2 us ws).length = 2) : ∃ a b, us = [] ∧ ws = [a, b] := by
  unfold g2 at h
  split at h
  · exact ⟨_, _, rfl, rfl⟩
  · cases h
theorem g2s_inv {α : Type} {us ws : List α} (h : (g2s us ws).length = 2) : ∃ a b, us = [] ∧ ws = [a, b] := by
  unfold g2s at h
  split at h
  · exact ⟨_, _, rfl, rfl⟩
  · cases h
theorem g11_inv {α : Type} {us ws : List α} (h : (g11 us ws).length = 2) : ∃ a b, us = [a] ∧ ws = [b] := by
  unfold g11 at h
  split at h
  · exact ⟨_, _, rfl, rfl⟩
  · cases h
theorem g1_rel {vs : List V} {us : List Value} {zs : List V} {ws : List Value} (a : Vals vs us) (b : Vals zs ws) : Vals (g1 vs zs) (g1 us ws) := by
  cases a <;> cases b <;> try exact .nil
  rename_i t
  cases t
  · exact .cons ‹_› .nil
  · exact .nil
theorem g2_rel {vs : List V} {us : List Value} {zs : List V} {ws : List Value} (a : Vals vs us) (b : Vals zs ws) : Vals (g2 vs zs) (g2 us ws) := by
  cases a with
  | cons r t => exact .nil
  | nil =>
    cases b with
    | nil => exact .nil
    | cons r t =>
      cases t with
      | nil => exact .nil
      | cons r2 t =>
        cases t with
        | nil => exact .cons r (.cons r2 .nil)
        | cons _ _ => exact .nil
theorem g2s_rel {vs : List V} {us : List Value} {zs : List V} {ws : List Value} (a : Vals vs us) (b : Vals zs ws) : Vals (g2s vs zs) (g2s us ws) := by
  cases a with
  | cons r t => exact .nil
  | nil =>
    cases b with
    | nil => exact .nil
    | cons r t =>
      cases t with
      | nil => exact .nil
      | cons r2 t =>
        cases t with
        | nil => exact .cons r2 (.cons r .nil)
        | cons _ _ => exact .nil
theorem g11_rel {vs : List V} {us : List Value} {zs : List V} {ws : List Value} (a : Vals vs us) (b : Vals zs ws) : Vals (g11 vs zs) (g11 us ws) := by
  cases a with
  | nil => exact .nil
  | cons r t =>
    cases t with
    | cons _ _ => exact .nil
    | nil =>
      cases b with
      | nil => exact .nil
      | cons r2 t2 =>
        cases t2 with
        | nil => exact .cons r (.cons r2 .nil)
        | cons _ _ => exact .nil
/-! ### heaps -/
/-- all that was tracked, but what stands at r, is as it was -/
def Kp (r : Addr) (H H' : Hp) : Prop := ∀ b o, b ≠ r → H b = some o → H' b = some o
theorem Kp.refl (r : Addr) (H : Hp) : Kp r H H := fun _ _ _ h => h
theorem Kp.trans {r : Addr} {H H1 H2 : Hp} (a : Kp r H H1) (b : Kp r H1 H2) : Kp r H H2 := fun c o n h => b c o n (a c o n h)
theorem Kp.new {r p : Addr} {H : Hp} {o : HO} (h : H p = none) : Kp r H (upd H p o) := fun b u _ e => by
  rw [upd_ne (ne_of_none e h)]
  exact e
theorem Kp.at {r : Addr} {H : Hp} {o : HO} : Kp r H (upd H r o) := fun b u n e => by
  rw [upd_ne n]
  exact e
theorem Kp.free {r p : Addr} {H H' : Hp} (a : Kp r H H') (n : p ≠ r) (h : H' p = none) : H p = none := by
  cases q : H p with
  | none => rfl
  | some o =>
    rw [a p o n q] at h
    cases h
/-- the generator's list at r, its script at l -/
def Rng (H : Hp) (r l : Addr) : Prop := ∃ (ns : List Int) (i d st c : Int), H r = some (.lst [.ref l, .int i, .int d, .int st, .int c]) ∧ H l = some (.lst (ns.map V.int)) ∧ 0 ≤ i ∧ l ≠ r
theorem Rng.new {H : Hp} {r l p : Addr} {o : HO} (g : Rng H r l) (h : H p = none) : Rng (upd H p o) r l := by
  obtain ⟨ns, i, d, st, c, h1, h2, h3, h4⟩ := g
  exact ⟨ns, i, d, st, c, by rw [upd_ne (ne_of_none h1 h)]; exact h1, by rw [upd_ne (ne_of_none h2 h)]; exact h2, h3, h4⟩
theorem Rng.kp {H H' : Hp} {r l : Addr} {x y z : V} (g : Rng H r l) (k : Kp r H H') {v : List V} (h : H' r = H r) : Rng H' r l := by
  obtain ⟨ns, i, d, st, c, h1, h2, h3, h4⟩ := g
  exact ⟨ns, i, d, st, c, h.trans h1, k _ _ h4 h2, h3, h4⟩
end SW

set_option Elab.async false
set_option linter.all false
set_option maxRecDepth 100000
set_option maxHeartbeats 4000000
namespace SW
open PySem PySem.Spec PyProof.Rows L2
/-! ### words as trees -/
inductive W where
  | emp
  | ltr (c : Str)
  | nam (c : Str)
  | join (ws : List W)
  | times (w : W) (n : Int)
  | right (w : W)
  | left (w : W)
mutual
def W.dat : W → PyData
  | .emp => .tuple [.str "empty"]
  | .ltr c => .tuple [.str "letter", .str c]
  | .nam c => .tuple [.str "name", .str c]
  | .join ws => .tuple [.str "join", .tuple (W.dats ws)]
  | .times w n => .tuple [.str "times", w.dat, .int n]
  | .right w => .tuple [.str "right", w.dat]
  | .left w => .tuple [.str "left", w.dat]
def W.dats : List W → List PyData
  | [] => []
  | w :: r => w.dat :: W.dats r
end
mutual
def W.dep : W → Nat
  | .emp => 1
  | .ltr _ => 1
  | .nam _ => 1
  | .join ws => W.deps ws + 1
  | .times w _ => w.dep + 1
  | .right w => w.dep + 1
  | .left w => w.dep + 1
def W.deps : List W → Nat
  | [] => 0
  | w :: r => max w.dep (W.deps r)
end
mutual
/-- letters among L, joins of at most three parts, numbers of copies up to 10 ** 30 -/
def W.Ok (L : List Str) : W → Prop
  | .emp => True
  | .ltr c => c ∈ L
  | .nam _ => False
  | .join ws => ws.length ≤ 3 ∧ W.Oks L ws
  | .times w n => 0 ≤ n ∧ n ≤ 1000000000000000000000000000000 ∧ w.Ok L
  | .right w => w.Ok L
  | .left w => w.Ok L
def W.Oks (L : List Str) : List W → Prop
  | [] => True
  | w :: r => w.Ok L ∧ W.Oks L r
end
abbrev abc : List Str := ["a", "b", "c"]
abbrev abcABC : List Str := ["a", "b", "c", "A", "B", "C"]
def W.kind : W → Str
  | .emp => "empty"
  | .ltr _ => "letter"
  | .nam _ => "name"
  | .join _ => "join"
  | .times _ _ => "times"
  | .right _ => "right"
  | .left _ => "left"
theorem W.dep_pos (w : W) : 1 ≤ w.dep := by cases w <;> unfold W.dep <;> omega
theorem W.deps_mem : ∀ {ws : List W} {w : W}, w ∈ ws → w.dep ≤ W.deps ws
  | x :: r, w, h => by
    unfold W.deps
    rcases List.mem_cons.mp h with e | h
    · subst e
      exact Nat.le_max_left _ _
    · exact Nat.le_trans (W.deps_mem h) (Nat.le_max_right _ _)
theorem W.deps_le : ∀ {ws : List W} {n : Nat}, (∀ w ∈ ws, w.dep ≤ n) → W.deps ws ≤ n
  | [], n, _ => by
    unfold W.deps
    exact Nat.zero_le _
  | x :: r, n, h => by
    unfold W.deps
    exact Nat.max_le.mpr ⟨h x (List.mem_cons_self ..), W.deps_le fun w q => h w (List.mem_cons_of_mem _ q)⟩
theorem W.oks_mem {L : List Str} : ∀ {ws : List W} {w : W}, w ∈ ws → W.Oks L ws → w.Ok L
  | x :: r, w, h, o => by
    unfold W.Oks at o
    rcases List.mem_cons.mp h with e | h
    · subst e
      exact o.1
    · exact W.oks_mem h o.2
theorem W.oks_of {L : List Str} : ∀ {ws : List W}, (∀ w ∈ ws, w.Ok L) → W.Oks L ws
  | [], _ => by
    unfold W.Oks
    trivial
  | x :: r, h => by
    unfold W.Oks
    exact ⟨h x (List.mem_cons_self ..), W.oks_of fun w q => h w (List.mem_cons_of_mem _ q)⟩
theorem W.dats_map : ∀ ws : List W, W.dats ws = ws.map W.dat
  | [] => by
    unfold W.dats
    rfl
  | w :: r => by
    unfold W.dats
    rw [W.dats_map r]
    rfl
theorem W.oks_iff {L : List Str} {ws : List W} : W.Oks L ws ↔ ∀ w ∈ ws, w.Ok L := ⟨fun h w m => W.oks_mem m h, W.oks_of⟩
mutual
theorem W.Ok.mono {L M : List Str} (hs : ∀ c ∈ L, c ∈ M) : ∀ w : W, w.Ok L → w.Ok M
  | .emp, h => by unfold W.Ok; trivial
  | .ltr c, h => by unfold W.Ok at h ⊢; exact hs c h
  | .nam c, h => by unfold W.Ok at h; exact h.elim
  | .join ws, h => by unfold W.Ok at h ⊢; exact ⟨h.1, W.Oks.mono hs ws h.2⟩
  | .times w n, h => by unfold W.Ok at h ⊢; exact ⟨h.1, h.2.1, W.Ok.mono hs w h.2.2⟩
  | .right w, h => by unfold W.Ok at h ⊢; exact W.Ok.mono hs w h
  | .left w, h => by unfold W.Ok at h ⊢; exact W.Ok.mono hs w h
theorem W.Oks.mono {L M : List Str} (hs : ∀ c ∈ L, c ∈ M) : ∀ ws : List W, W.Oks L ws → W.Oks M ws
  | [], h => by unfold W.Oks; trivial
  | w :: r, h => by unfold W.Oks at h ⊢; exact ⟨W.Ok.mono hs w h.1, W.Oks.mono hs r h.2⟩
end
theorem abc_sub : ∀ c ∈ abc, c ∈ abcABC := by
  intro c h
  simp only [abc, abcABC, List.mem_cons, List.not_mem_nil, or_false] at h ⊢
  rcases h with h | h | h <;> simp [h]
/-! ### how the heap bears them -/
abbrev WV (K : PySem.W.Frag) (H : Hp) (v : V) (w : W) : Prop := Dp K H v w.dat
abbrev WVs (K : PySem.W.Frag) (H : Hp) (vs : List V) (ws : List W) : Prop := DpAll K H vs (W.dats ws)
/-- every tuple stays -/
def Tp (H H' : Hp) : Prop := ∀ a xs, Rd H a (.tup xs) → Rd H' a (.tup xs)
theorem Tp.refl (H : Hp) : Tp H H := fun _ _ h => h
theorem Tp.trans {H H1 H2 : Hp} (a : Tp H H1) (b : Tp H1 H2) : Tp H H2 := fun x o h => b x o (a x o h)
theorem Tp.sq {K : PySem.W.Frag} {H H' : Hp} (t : Tp H H') {a : Addr} {xs : List V} (h : SqT K H a xs) : SqT K H' a xs := by
  rcases h with h | h
  · exact .inl (t _ _ h)
  · exact .inr h
theorem Kp.tp {r : Addr} {H H' : Hp} {z : List V} (k : Kp r H H') (h : H r = some (.lst z)) : Tp H H' := fun a xs q => by
  rcases q with q | ⟨o, q⟩
  · exact .inl (k _ _ (ne_of q h (by intro e; cases e)) q)
  · exact .inr ⟨o, k _ _ (ne_of q h (by intro e; cases e)) q⟩
theorem tp_new {p : Addr} {H : Hp} {o : HO} (h : H p = none) : Tp H (upd H p o) := fun a xs q => by
  rcases q with q | ⟨u, q⟩
  · exact .inl (by rw [upd_ne (ne_of_none q h)]; exact q)
  · exact .inr ⟨u, by rw [upd_ne (ne_of_none q h)]; exact q⟩
theorem tp_set {p : Addr} {H : Hp} {o : HO} {z : List V} (h : H p = some (.lst z)) : Tp H (upd H p o) := Kp.tp Kp.at h
theorem tp_same {H H' : Hp} (s : Same H H') : Tp H H' := fun a xs q => by
  rcases q with q | ⟨o, q⟩
  · exact .inl (s _ _ q)
  · exact .inr ⟨o, s _ _ q⟩
mutual
theorem WV.tp {K : PySem.W.Frag} {H H' : Hp} (t : Tp H H') : ∀ (w : W) {v : V}, WV K H v w → WV K H' v w
  | .emp, v, h => by
    unfold WV W.dat at *
    cases h with | tup s a => ?_
    refine .tup (t.sq s) ?_
    cases a with | cons a b => ?_
    cases a
    cases b
    exact .cons (.str _) .nil
  | .ltr c, v, h => by
    unfold WV W.dat at *
    cases h with | tup s a => ?_
    refine .tup (t.sq s) ?_
    cases a with | cons a b => ?_
    cases b with | cons b d => ?_
    cases a
    cases b
    cases d
    exact .cons (.str _) (.cons (.str _) .nil)
  | .nam c, v, h => by
    unfold WV W.dat at *
    cases h with | tup s a => ?_
    refine .tup (t.sq s) ?_
    cases a with | cons a b => ?_
    cases b with | cons b d => ?_
    cases a
    cases b
    cases d
    exact .cons (.str _) (.cons (.str _) .nil)
  | .join ws, v, h => by
    unfold WV W.dat at *
    cases h with | tup s a => ?_
    refine .tup (t.sq s) ?_
    cases a with | cons a b => ?_
    cases b with | cons b d => ?_
    cases a
    cases d
    cases b with | tup s2 b => ?_
    exact .cons (.str _) (.cons (.tup (t.sq s2) (WVs.tp t ws b)) .nil)
  | .times w n, v, h => by
    unfold WV W.dat at *
    cases h with | tup s a => ?_
    refine .tup (t.sq s) ?_
    cases a with | cons a b => ?_
    cases b with | cons b d => ?_
    cases d with | cons d e => ?_
    cases a
    cases d
    cases e
    exact .cons (.str _) (.cons (WV.tp t w b) (.cons (.int _) .nil))
  | .right w, v, h => by
    unfold WV W.dat at *
    cases h with | tup s a => ?_
    refine .tup (t.sq s) ?_
    cases a with | cons a b => ?_
    cases b with | cons b d => ?_
    cases a
    cases d
    exact .cons (.str _) (.cons (WV.tp t w b) .nil)
  | .left w, v, h => by
    unfold WV W.dat at *
    cases h with | tup s a => ?_
    refine .tup (t.sq s) ?_
    cases a with | cons a b => ?_
    cases b with | cons b d => ?_
    cases a
    cases d
    exact .cons (.str _) (.cons (WV.tp t w b) .nil)
theorem WVs.tp {K : PySem.W.Frag} {H H' : Hp} (t : Tp H H') : ∀ (ws : List W) {vs : List V}, WVs K H vs ws → WVs K H' vs ws
  | [], vs, h => by
    unfold WVs W.dats at *
    cases h
    exact .nil
  | w :: r, vs, h => by
    unfold WVs W.dats at *
    cases h with | cons a b => ?_
    exact .cons (WV.tp t w a) (WVs.tp t r b)
end
/-- what stands at a word's address -/
inductive WAt (K : PySem.W.Frag) (H : Hp) (v : V) : W → Prop where
  | emp {a : Addr} (e : v = .ref a) (s : SqT K H a [.str "empty"]) : WAt K H v .emp
  | ltr {a : Addr} {c : Str} (e : v = .ref a) (s : SqT K H a [.str "letter", .str c]) : WAt K H v (.ltr c)
  | nam {a : Addr} {c : Str} (e : v = .ref a) (s : SqT K H a [.str "name", .str c]) : WAt K H v (.nam c)
  | join {a b : Addr} {xs : List V} {ws : List W} (e : v = .ref a) (s : SqT K H a [.str "join", .ref b]) (s2 : SqT K H b xs) (h : WVs K H xs ws) : WAt K H v (.join ws)
  | times {a : Addr} {x : V} {w : W} {n : Int} (e : v = .ref a) (s : SqT K H a [.str "times", x, .int n]) (h : WV K H x w) : WAt K H v (.times w n)
  | right {a : Addr} {x : V} {w : W} (e : v = .ref a) (s : SqT K H a [.str "right", x]) (h : WV K H x w) : WAt K H v (.right w)
  | left {a : Addr} {x : V} {w : W} (e : v = .ref a) (s : SqT K H a [.str "left", x]) (h : WV K H x w) : WAt K H v (.left w)
theorem WV.at {K : PySem.W.Frag} {H : Hp} {v : V} : ∀ {w : W}, WV K H v w → WAt K H v w
  | .emp, h => by
    unfold WV W.dat at h
    cases h with | tup s a => ?_
    cases a with | cons a b => ?_
    cases a
    cases b
    exact .emp rfl s
  | .ltr c, h => by
    unfold WV W.dat at h
    cases h with | tup s a => ?_
    cases a with | cons a b => ?_
    cases b with | cons b d => ?_
    cases a
    cases b
    cases d
    exact .ltr rfl s
  | .nam c, h => by
    unfold WV W.dat at h
    cases h with | tup s a => ?_
    cases a with | cons a b => ?_
    cases b with | cons b d => ?_
    cases a
    cases b
    cases d
    exact .nam rfl s
  | .join ws, h => by
    unfold WV W.dat at h
    cases h with | tup s a => ?_
    cases a with | cons a b => ?_
    cases b with | cons b d => ?_
    cases a
    cases d
    cases b with | tup s2 b => ?_
    exact .join rfl s s2 b
  | .times w n, h => by
    unfold WV W.dat at h
    cases h with | tup s a => ?_
    cases a with | cons a b => ?_
    cases b with | cons b d => ?_
    cases d with | cons d e => ?_
    cases a
    cases d
    cases e
    exact .times rfl s b
  | .right w, h => by
    unfold WV W.dat at h
    cases h with | tup s a => ?_
    cases a with | cons a b => ?_
    cases b with | cons b d => ?_
    cases a
    cases d
    exact .right rfl s b
  | .left w, h => by
    unfold WV W.dat at h
    cases h with | tup s a => ?_
    cases a with | cons a b => ?_
    cases b with | cons b d => ?_
    cases a
    cases d
    exact .left rfl s b
section
variable {K : PySem.W.Frag} {H : Hp} {a b : Addr} {x : V} {w : W}
theorem wv_emp (s : SqT K H a [.str "empty"]) : WV K H (.ref a) .emp := by
  unfold WV W.dat
  exact .tup s (.cons (.str _) .nil)
theorem wv_ltr {c : Str} (s : SqT K H a [.str "letter", .str c]) : WV K H (.ref a) (.ltr c) := by
  unfold WV W.dat
  exact .tup s (.cons (.str _) (.cons (.str _) .nil))
theorem wv_nam {c : Str} (s : SqT K H a [.str "name", .str c]) : WV K H (.ref a) (.nam c) := by
  unfold WV W.dat
  exact .tup s (.cons (.str _) (.cons (.str _) .nil))
theorem wv_join {xs : List V} {ws : List W} (s : SqT K H a [.str "join", .ref b]) (s2 : SqT K H b xs) (h : WVs K H xs ws) : WV K H (.ref a) (.join ws) := by
  unfold WV W.dat
  exact .tup s (.cons (.str _) (.cons (.tup s2 h) .nil))
theorem wv_times {n : Int} (s : SqT K H a [.str "times", x, .int n]) (h : WV K H x w) : WV K H (.ref a) (.times w n) := by
  unfold WV W.dat
  exact .tup s (.cons (.str _) (.cons h (.cons (.int _) .nil)))
theorem wv_right (s : SqT K H a [.str "right", x]) (h : WV K H x w) : WV K H (.ref a) (.right w) := by
  unfold WV W.dat
  exact .tup s (.cons (.str _) (.cons h .nil))
theorem wv_left (s : SqT K H a [.str "left", x]) (h : WV K H x w) : WV K H (.ref a) (.left w) := by
  unfold WV W.dat
  exact .tup s (.cons (.str _) (.cons h .nil))
theorem wvs_nil : WVs K H [] [] := by
  unfold WVs W.dats
  exact .nil
theorem wvs_cons {xs : List V} {ws : List W} (h : WV K H x w) (t : WVs K H xs ws) : WVs K H (x :: xs) (w :: ws) := by
  unfold WVs W.dats
  exact .cons h t
end
theorem WVs.length {K : PySem.W.Frag} {H : Hp} : ∀ {ws : List W} {xs : List V}, WVs K H xs ws → xs.length = ws.length
  | [], xs, h => by
    unfold WVs W.dats at h
    cases h
    rfl
  | w :: r, xs, h => by
    unfold WVs W.dats at h
    cases h with | cons a b => ?_
    rw [List.length_cons, List.length_cons, WVs.length (ws := r) b]
theorem WVs.get {K : PySem.W.Frag} {H : Hp} : ∀ {ws : List W} {xs : List V} {i : Nat} {x : V}, WVs K H xs ws → xs[i]? = some x → ∃ w, ws[i]? = some w ∧ WV K H x w
  | [], xs, i, x, h, e => by
    unfold WVs W.dats at h
    cases h
    simp at e
  | w :: r, xs, 0, x, h, e => by
    unfold WVs W.dats at h
    cases h with | cons a b => ?_
    cases e
    exact ⟨w, rfl, a⟩
  | w :: r, xs, i + 1, x, h, e => by
    unfold WVs W.dats at h
    cases h with | cons a b => ?_
    exact WVs.get (ws := r) (i := i) b e
theorem WVs.app {K : PySem.W.Frag} {H : Hp} {x : V} {w : W} (q : WV K H x w) : ∀ {ws : List W} {xs : List V}, WVs K H xs ws → WVs K H (xs ++ [x]) (ws ++ [w])
  | [], xs, h => by
    unfold WVs W.dats at h
    cases h
    exact wvs_cons q wvs_nil
  | v :: r, xs, h => by
    unfold WVs W.dats at h
    cases h with | cons a b => ?_
    exact wvs_cons a (WVs.app q (ws := r) b)
/-! ### the two lists that a drawing of a tree changes -/
def Kp2 (r k : Addr) (H H' : Hp) : Prop := ∀ b o, b ≠ r → b ≠ k → H b = some o → H' b = some o
theorem Kp2.refl (r k : Addr) (H : Hp) : Kp2 r k H H := fun _ _ _ _ h => h
theorem Kp2.trans {r k : Addr} {H H1 H2 : Hp} (a : Kp2 r k H H1) (b : Kp2 r k H1 H2) : Kp2 r k H H2 := fun c o n m h => b c o n m (a c o n m h)
theorem Kp.two {r k : Addr} {H H' : Hp} (a : Kp r H H') : Kp2 r k H H' := fun c o n _ h => a c o n h
theorem Kp2.at {r k : Addr} {H : Hp} {o : HO} : Kp2 r k H (upd H k o) := fun b u _ n e => by
  rw [upd_ne n]
  exact e
theorem Kp2.tp {r k : Addr} {H H' : Hp} {z y : List V} (q : Kp2 r k H H') (h : H r = some (.lst z)) (g : H k = some (.lst y)) : Tp H H' := fun a xs p => by
  rcases p with p | ⟨o, p⟩
  · exact .inl (q _ _ (ne_of p h (by intro e; cases e)) (ne_of p g (by intro e; cases e)) p)
  · exact .inr ⟨o, q _ _ (ne_of p h (by intro e; cases e)) (ne_of p g (by intro e; cases e)) p⟩
theorem Kp2.fresh {r k : Addr} {H H' : Hp} {o : HO} (h : H k = none) (q : Kp2 r k (upd H k o) H') : Kp r H H' := fun b u n e =>
  q b u n (ne_of_none e h) (by rw [upd_ne (ne_of_none e h)]; exact e)
theorem Rng.lst {H : Hp} {r l : Addr} (g : Rng H r l) : ∃ z, H r = some (.lst z) := by
  obtain ⟨ns, i, d, st, c, h1, _⟩ := g
  exact ⟨_, h1⟩
theorem Rng.ne {H : Hp} {r l : Addr} (g : Rng H r l) : l ≠ r := by
  obtain ⟨ns, i, d, st, c, h1, h2, h3, h4⟩ := g
  exact h4
/-- the generator stays where neither of its lists is touched -/
theorem Rng.of {H H' : Hp} {r l : Addr} (g : Rng H r l) (a : ∀ o, H r = some o → H' r = some o) (b : ∀ o, H l = some o → H' l = some o) : Rng H' r l := by
  obtain ⟨ns, i, d, st, c, h1, h2, h3, h4⟩ := g
  exact ⟨ns, i, d, st, c, a _ h1, b _ h2, h3, h4⟩
theorem Rng.some_l {H : Hp} {r l : Addr} (g : Rng H r l) : ∃ z, H l = some (.lst z) := by
  obtain ⟨ns, i, d, st, c, h1, h2, h3, h4⟩ := g
  exact ⟨_, h2⟩
/-! ### comprehensions of one name without a test -/
theorem lcr {lo : Int} {n j : Nat} {te : TE} {σ : L2.St} {H1 : Hp} {D : Addr} {Qd : Hp → Prop} (Pv : Nat → Hp → Prop) (h0 : Pv 0 (upd H1 D (.lst [])))
    (hs : ∀ i H, i < n → Pv i H → te (σ.set j (some (.int (lo + i)))) H fun y H4 => ∃ acc, H4 D = some (.lst acc) ∧ acc.length < sizeLine ∧ Pv (i + 1) (upd H4 D (.lst (acc ++ [y])))) (hd : ∀ H, Pv n H → Qd H) :
    ∃ W : Nat → Nat → Hp → Prop, (∃ m, W 0 m (upd H1 D (.lst []))) ∧ ∀ i m H, W i m H →
      ((Itr lo n).stop i H ∧ Qd H) ∨ ((Itr lo n).go i H ∧ ∃ Nx : Hp → Prop, (∀ H', Nx H' → ∃ m', m' < m ∧ W (i + 1) m' H') ∧ ∀ x H', (Itr lo n).yld i H x H' → gName j x (wipe σ [j]) H' fun σ2 H2 => wipe σ2 [j] = wipe σ [j] ∧ tYes σ2 H2 fun b H3 =>
        if b = true then te σ2 H3 fun y H4 => ∃ acc, H4 D = some (.lst acc) ∧ acc.length < sizeLine ∧ Nx (upd H4 D (.lst (acc ++ [y]))) else Nx H3) := by
  refine lc_range Pv h0 (fun i H hi p => ?_) hd
  have e1 : wipe σ [j] = σ.set j none := rfl
  have e2 : (wipe σ [j]).set j (some (.int (lo + i))) = σ.set j (some (.int (lo + i))) := by rw [e1, List.set_set]
  unfold gName tYes
  rw [e2]
  dsimp only
  rw [if_pos rfl]
  refine ⟨?_, hs i H hi p⟩
  show (σ.set j (some (.int (lo + i)))).set j none = σ.set j none
  rw [List.set_set]
theorem lcl {K : PySem.W.Frag} {a : Addr} {xs : List V} {j : Nat} {te : TE} {σ : L2.St} {H1 : Hp} {D : Addr} {Qd : Hp → Prop} (Pv : Nat → Hp → Prop) (h0 : Pv 0 (upd H1 D (.lst []))) (hl : ∀ i H, i ≤ xs.length → Pv i H → SqL K H a xs)
    (hs : ∀ i x H, xs[i]? = some x → Pv i H → te (σ.set j (some x)) H fun y H4 => ∃ acc, H4 D = some (.lst acc) ∧ acc.length < sizeLine ∧ Pv (i + 1) (upd H4 D (.lst (acc ++ [y])))) (hd : ∀ H, Pv xs.length H → Qd H) :
    ∃ W : Nat → Nat → Hp → Prop, (∃ m, W 0 m (upd H1 D (.lst []))) ∧ ∀ i m H, W i m H →
      ((Itl K a).stop i H ∧ Qd H) ∨ ((Itl K a).go i H ∧ ∃ Nx : Hp → Prop, (∀ H', Nx H' → ∃ m', m' < m ∧ W (i + 1) m' H') ∧ ∀ x H', (Itl K a).yld i H x H' → gName j x (wipe σ [j]) H' fun σ2 H2 => wipe σ2 [j] = wipe σ [j] ∧ tYes σ2 H2 fun b H3 =>
        if b = true then te σ2 H3 fun y H4 => ∃ acc, H4 D = some (.lst acc) ∧ acc.length < sizeLine ∧ Nx (upd H4 D (.lst (acc ++ [y]))) else Nx H3) := by
  refine lc_list Pv h0 hl (fun i x H hi p => ?_) hd
  have e1 : wipe σ [j] = σ.set j none := rfl
  have e2 : (wipe σ [j]).set j (some x) = σ.set j (some x) := by rw [e1, List.set_set]
  unfold gName tYes
  rw [e2]
  dsimp only
  rw [if_pos rfl]
  refine ⟨?_, hs i x H hi p⟩
  show (σ.set j (some x)).set j none = σ.set j none
  rw [List.set_set]
theorem lct {K : PySem.W.Frag} {a : Addr} {xs : List V} {j : Nat} {te : TE} {σ : L2.St} {H1 : Hp} {D : Addr} {Qd : Hp → Prop} (Pv : Nat → Hp → Prop) (h0 : Pv 0 (upd H1 D (.lst []))) (hl : ∀ i H, i ≤ xs.length → Pv i H → SqT K H a xs)
    (hs : ∀ i x H, xs[i]? = some x → Pv i H → te (σ.set j (some x)) H fun y H4 => ∃ acc, H4 D = some (.lst acc) ∧ acc.length < sizeLine ∧ Pv (i + 1) (upd H4 D (.lst (acc ++ [y])))) (hd : ∀ H, Pv xs.length H → Qd H) :
    ∃ W : Nat → Nat → Hp → Prop, (∃ m, W 0 m (upd H1 D (.lst []))) ∧ ∀ i m H, W i m H →
      ((Itt K a).stop i H ∧ Qd H) ∨ ((Itt K a).go i H ∧ ∃ Nx : Hp → Prop, (∀ H', Nx H' → ∃ m', m' < m ∧ W (i + 1) m' H') ∧ ∀ x H', (Itt K a).yld i H x H' → gName j x (wipe σ [j]) H' fun σ2 H2 => wipe σ2 [j] = wipe σ [j] ∧ tYes σ2 H2 fun b H3 =>
        if b = true then te σ2 H3 fun y H4 => ∃ acc, H4 D = some (.lst acc) ∧ acc.length < sizeLine ∧ Nx (upd H4 D (.lst (acc ++ [y]))) else Nx H3) := by
  refine lc_tup Pv h0 hl (fun i x H hi p => ?_) hd
  have e1 : wipe σ [j] = σ.set j none := rfl
  have e2 : (wipe σ [j]).set j (some x) = σ.set j (some x) := by rw [e1, List.set_set]
  unfold gName tYes
  rw [e2]
  dsimp only
  rw [if_pos rfl]
  refine ⟨?_, hs i x H hi p⟩
  show (σ.set j (some x)).set j none = σ.set j none
  rw [List.set_set]
end SW

set_option Elab.async false
set_option linter.all false
set_option maxRecDepth 100000
set_option maxHeartbeats 4000000
namespace SW
open PySem PySem.Spec PyProof.Rows L2
/-! ### small data: at most n levels, at most 1000 items -/
def atomD : PyData → Prop
  | .none => True
  | .bool _ => True
  | .int _ => True
  | .str _ => True
  | _ => False
def Sm : Nat → PyData → Prop
  | _ + 1, .list ds => ds.length ≤ 1000 ∧ ∀ d, d ∈ ds → Sm ‹Nat› d
  | _ + 1, .tuple ds => ds.length ≤ 1000 ∧ ∀ d, d ∈ ds → Sm ‹Nat› d
  | _, .none => True
  | _, .bool _ => True
  | _, .int _ => True
  | _, .str _ => True
  | _, _ => False
theorem Sm.mono : ∀ {n m : Nat} {d : PyData}, Sm n d → n ≤ m → Sm m d
  | n, m, .none, _, _ => by cases m <;> (unfold Sm; trivial)
  | n, m, .bool _, _, _ => by cases m <;> (unfold Sm; trivial)
  | n, m, .int _, _, _ => by cases m <;> (unfold Sm; trivial)
  | n, m, .str _, _, _ => by cases m <;> (unfold Sm; trivial)
  | n + 1, m + 1, .list ds, h, l => by
    unfold Sm at h ⊢
    exact ⟨h.1, fun d q => (h.2 d q).mono (by omega)⟩
  | n + 1, m + 1, .tuple ds, h, l => by
    unfold Sm at h ⊢
    exact ⟨h.1, fun d q => (h.2 d q).mono (by omega)⟩
  | 0, m, .list ds, h, l => by unfold Sm at h; exact h.elim
  | 0, m, .tuple ds, h, l => by unfold Sm at h; exact h.elim
  | n + 1, 0, .list ds, h, l => by omega
  | n + 1, 0, .tuple ds, h, l => by omega
  | 0, m, .dict ds, h, l => by unfold Sm at h; exact h.elim
  | n + 1, m, .dict ds, h, l => by unfold Sm at h; exact h.elim
mutual
theorem W.sm {L : List Str} : ∀ w : W, w.Ok L → Sm (2 * w.dep) w.dat
  | .emp, h => by
    unfold W.dat W.dep
    show Sm 2 _
    unfold Sm
    refine ⟨by decide, fun d q => ?_⟩
    cases List.mem_singleton.mp q
    unfold Sm
    trivial
  | .ltr c, h => by
    unfold W.dat W.dep
    show Sm 2 _
    unfold Sm
    refine ⟨by show 2 ≤ 1000; decide, fun d q => ?_⟩
    simp only [List.mem_cons, List.not_mem_nil, or_false] at q
    rcases q with rfl | rfl <;> (unfold Sm; trivial)
  | .nam c, h => by
    unfold W.Ok at h
    exact h.elim
  | .join ws, h => by
    unfold W.Ok at h
    unfold W.dat W.dep
    show Sm (2 * W.deps ws + 1 + 1) _
    unfold Sm
    refine ⟨by show 2 ≤ 1000; decide, fun d q => ?_⟩
    simp only [List.mem_cons, List.not_mem_nil, or_false] at q
    rcases q with rfl | rfl
    · unfold Sm
      trivial
    · unfold Sm
      refine ⟨?_, fun d q => ?_⟩
      · rw [W.dats_map, List.length_map]
        omega
      · exact W.sms ws h.2 d q
  | .times w n, h => by
    unfold W.Ok at h
    unfold W.dat W.dep
    show Sm (2 * w.dep + 1 + 1) _
    unfold Sm
    refine ⟨by show 3 ≤ 1000; decide, fun d q => ?_⟩
    simp only [List.mem_cons, List.not_mem_nil, or_false] at q
    rcases q with rfl | rfl | rfl
    · unfold Sm
      trivial
    · exact (W.sm w h.2.2).mono (by omega)
    · unfold Sm
      trivial
  | .right w, h => by
    unfold W.Ok at h
    unfold W.dat W.dep
    show Sm (2 * w.dep + 1 + 1) _
    unfold Sm
    refine ⟨by show 2 ≤ 1000; decide, fun d q => ?_⟩
    simp only [List.mem_cons, List.not_mem_nil, or_false] at q
    rcases q with rfl | rfl
    · unfold Sm
      trivial
    · exact (W.sm w h).mono (by omega)
  | .left w, h => by
    unfold W.Ok at h
    unfold W.dat W.dep
    show Sm (2 * w.dep + 1 + 1) _
    unfold Sm
    refine ⟨by show 2 ≤ 1000; decide, fun d q => ?_⟩
    simp only [List.mem_cons, List.not_mem_nil, or_false] at q
    rcases q with rfl | rfl
    · unfold Sm
      trivial
    · exact (W.sm w h).mono (by omega)
theorem W.sms {L : List Str} : ∀ ws : List W, W.Oks L ws → ∀ d ∈ W.dats ws, Sm (2 * W.deps ws) d
  | [], h, d, q => by
    unfold W.dats at q
    exact (List.not_mem_nil q).elim
  | w :: r, h, d, q => by
    unfold W.Oks at h
    unfold W.dats at q
    unfold W.deps
    rcases List.mem_cons.mp q with rfl | q
    · exact (W.sm w h.1).mono (Nat.mul_le_mul_left 2 (Nat.le_max_left _ _))
    · exact (W.sms r h.2 d q).mono (Nat.mul_le_mul_left 2 (Nat.le_max_right _ _))
end
/-! ### what == asks of data -/
def strsOk (L : List Str) : Prop := ∀ c ∈ L, PyData.canLay0 (.str c) = true
theorem abc_ok : strsOk abcABC := by
  intro c h
  simp only [abcABC, List.mem_cons, List.not_mem_nil, or_false] at h
  rcases h with rfl | rfl | rfl | rfl | rfl | rfl <;> decide +kernel
mutual
theorem W.lay {L : List Str} (hL : strsOk L) : ∀ w : W, w.Ok L → w.dat.canLay0 = true
  | .emp, h => by
    unfold W.dat
    decide +kernel
  | .ltr c, h => by
    unfold W.Ok at h
    unfold W.dat
    have a := hL c h
    simp only [PyData.canLay0, PyData.canLayAll0, Bool.and_true] at a ⊢
    rw [a]
    decide +kernel
  | .nam c, h => by
    unfold W.Ok at h
    exact h.elim
  | .join ws, h => by
    unfold W.Ok at h
    unfold W.dat
    have a := W.lays hL ws h.2
    simp only [PyData.canLay0, PyData.canLayAll0, Bool.and_true]
    rw [a]
    decide +kernel
  | .times w n, h => by
    unfold W.Ok at h
    unfold W.dat
    have a := W.lay hL w h.2.2
    simp only [PyData.canLay0, PyData.canLayAll0, Bool.and_true]
    rw [a]
    decide +kernel
  | .right w, h => by
    unfold W.Ok at h
    unfold W.dat
    have a := W.lay hL w h
    simp only [PyData.canLay0, PyData.canLayAll0, Bool.and_true]
    rw [a]
    decide +kernel
  | .left w, h => by
    unfold W.Ok at h
    unfold W.dat
    have a := W.lay hL w h
    simp only [PyData.canLay0, PyData.canLayAll0, Bool.and_true]
    rw [a]
    decide +kernel
theorem W.lays {L : List Str} (hL : strsOk L) : ∀ ws : List W, W.Oks L ws → PyData.canLayAll0 (W.dats ws) = true
  | [], h => by
    unfold W.dats
    rfl
  | w :: r, h => by
    unfold W.Oks at h
    unfold W.dats
    simp only [PyData.canLayAll0]
    rw [W.lay hL w h.1, W.lays hL r h.2]
    rfl
end
mutual
theorem Sm.depth : ∀ (n : Nat) (d : PyData), Sm n d → d.depth ≤ n + 1
  | n, .none, _ => by simp [PyData.depth]
  | n, .bool _, _ => by simp [PyData.depth]
  | n, .int _, _ => by simp [PyData.depth]
  | n, .str _, _ => by simp [PyData.depth]
  | 0, .list ds, h => by unfold Sm at h; exact h.elim
  | 0, .tuple ds, h => by unfold Sm at h; exact h.elim
  | 0, .dict ds, h => by unfold Sm at h; exact h.elim
  | n + 1, .dict ds, h => by unfold Sm at h; exact h.elim
  | n + 1, .list ds, h => by
    unfold Sm at h
    have := Sm.depths n ds h.2
    unfold PyData.depth
    omega
  | n + 1, .tuple ds, h => by
    unfold Sm at h
    have := Sm.depths n ds h.2
    unfold PyData.depth
    omega
theorem Sm.depths : ∀ (n : Nat) (ds : List PyData), (∀ d ∈ ds, Sm n d) → PyData.depthAll ds ≤ n + 1
  | n, [], _ => by simp [PyData.depthAll]
  | n, d :: r, h => by
    have a := Sm.depth n d (h d (List.mem_cons_self ..))
    have b := Sm.depths n r fun x q => h x (List.mem_cons_of_mem _ q)
    unfold PyData.depthAll
    omega
end
end SW

set_option Elab.async false
set_option linter.all false
set_option maxRecDepth 100000
set_option maxHeartbeats 4000000
namespace SW
open PySem PySem.Spec PyProof.Rows L2
theorem W.shaped {L : List Str} (hL : strsOk L) {w : W} (h : w.Ok L) (hd : w.dep ≤ 30) : SeqAt.shaped w.dat = true := by
  unfold SeqAt.shaped
  rw [W.lay hL w h, decide_eq_true (p := w.dat.depth ≤ 64) (Nat.le_trans (Sm.depth _ _ (W.sm w h)) (by omega))]
  rfl
theorem W.eqv_refl {L : List Str} (hL : strsOk L) {w : W} (h : w.Ok L) : PyData.eqv w.dat w.dat = true := PySem.SeqAt.eqv_refl _ (W.lay hL w h)
/-! ### types of data -/
def tyN : PyData → String
  | .none => "NoneType"
  | .bool _ => "bool"
  | .int _ => "int"
  | .str _ => "str"
  | .list _ => "list"
  | .tuple _ => "tuple"
  | .dict _ => "dict"
theorem SqL.ty {K : PySem.W.Frag} {H : Hp} {a : Addr} {xs : List V} (h : SqL K H a xs) : TyX K H (.ref a) (.type "list") := by
  rcases h with (h | ⟨o, h⟩) | ⟨o, its, n, h, c, _⟩
  · exact .base (.lst h)
  · exact .base (.frz h)
  · exact .kList h c
theorem SqT.ty {K : PySem.W.Frag} {H : Hp} {a : Addr} {xs : List V} (h : SqT K H a xs) : TyX K H (.ref a) (.type "tuple") := by
  rcases h with (h | ⟨o, h⟩) | ⟨o, its, n, h, c, _⟩
  · exact .base (.tup h)
  · exact .fTuple h
  · exact .kTuple h c
theorem Dp.ty {K : PySem.W.Frag} {H : Hp} {v : V} {d : PyData} (h : Dp K H v d) : TyX K H v (.type (tyN d)) := by
  cases h with
  | non => exact .base .non
  | bl b => exact .base (.bl b)
  | int i => exact .base (.int i)
  | str x => exact .base (.str x)
  | lst s _ => exact SqL.ty s
  | tup s _ => exact SqT.ty s
/-- isinstance(x, T) of data at a slot -/
theorem rd_isi {K : PySem.W.Frag} {σ : L2.St} {H : Hp} {i : Nat} {v : V} {d : PyData} {n : String} {b : Bool} {Q : VK} (hσ : σ[i]? = some (some v)) (h : Dp K H v d) (k : kitB (tyN d) n = some b) (q : Q (.bl b) H) :
    tCB (rIsi K) (tCons (tVar i) (tCons (tC (.ty n)) tNil)) σ H Q := ⟨v, hσ, v, .ty n, _, _, b, rfl, .ty n, Dp.ty h, kit_ty k, q⟩
theorem walk_zipT {K : PySem.W.Frag} {a b : Addr} {xs ys : List V} {n : Nat} (hn : n = min xs.length ys.length) : Walk (RZ.ItzT K a b) n (fun H => SqT K H a xs ∧ SqT K H b ys) (YPair (fun i => xs[i]?) (fun i => ys[i]?)) := by
  subst hn
  refine ⟨fun i _ hi q => ?_, fun _ q => ⟨xs, ys, q.1, q.2, by omega⟩, fun i H v H' _ q y => ?_⟩
  · have h1 : i < xs.length := by omega
    have h2 : i < ys.length := by omega
    exact ⟨xs, ys, xs[i], ys[i], q.1, q.2, by simp [h1], by simp [h2]⟩
  · obtain ⟨T, x, z, h1, h2, h3, h4, h5⟩ := y
    exact ⟨T, x, z, h1, h2, h3, h4 xs q.1, h5 ys q.2⟩
/-- a comprehension over pairs -/
theorem lcz {K : PySem.W.Frag} {J : It} {n : Nat} {G : Hp → Prop} {fx fy : Nat → Option V} (w : Walk J n G (YPair fx fy)) {j1 j2 : Nat} (hj : j1 ≠ j2) {te : TE} {σ : L2.St} {H1 : Hp} {D : Addr} {Qd : Hp → Prop} (Pv : Nat → Hp → Prop) (h0 : Pv 0 (upd H1 D (.lst []))) (hG : ∀ i H, i ≤ n → Pv i H → G H)
    (hs : ∀ i x y T H, i < n → fx i = some x → fy i = some y → Pv i H → H T = none → te ((σ.set j1 (some x)).set j2 (some y)) (upd H T (.tup [x, y])) fun z H4 => ∃ acc, H4 D = some (.lst acc) ∧ acc.length < sizeLine ∧ Pv (i + 1) (upd H4 D (.lst (acc ++ [z])))) (hd : ∀ H, Pv n H → Qd H) :
    ∃ W : Nat → Nat → Hp → Prop, (∃ m, W 0 m (upd H1 D (.lst []))) ∧ ∀ i m H, W i m H →
      (J.stop i H ∧ Qd H) ∨ (J.go i H ∧ ∃ Nx : Hp → Prop, (∀ H', Nx H' → ∃ m', m' < m ∧ W (i + 1) m' H') ∧ ∀ x H', J.yld i H x H' → gTup K 2 (gCons (gName j1) (gCons (gName j2) gNil)) x (wipe σ [j1, j2]) H' fun σ2 H2 => wipe σ2 [j1, j2] = wipe σ [j1, j2] ∧ tYes σ2 H2 fun b H3 =>
        if b = true then te σ2 H3 fun y H4 => ∃ acc, H4 D = some (.lst acc) ∧ acc.length < sizeLine ∧ Nx (upd H4 D (.lst (acc ++ [y]))) else Nx H3) := by
  refine lc_it w Pv h0 hG (fun i v H H' hi p y => ?_) hd
  obtain ⟨T, x, y, rfl, hT, rfl, h1, h2⟩ := y
  have e0 : wipe σ [j1, j2] = (σ.set j2 none).set j1 none := rfl
  have e1 : ((wipe σ [j1, j2]).set j1 (some x)).set j2 (some y) = (σ.set j1 (some x)).set j2 (some y) := by
    rw [e0, List.set_set, List.set_comm _ _ hj.symm, List.set_set]
  refine ⟨T, [x, y], rfl, SqT.of upd_same, rfl, x, [y], rfl, y, [], rfl, rfl, ?_, ?_⟩
  · rw [e1]
    show ((((σ.set j1 (some x)).set j2 (some y))).set j2 none).set j1 none = (σ.set j2 none).set j1 none
    rw [List.set_set, List.set_comm _ _ hj, List.set_set]
  · rw [e1]
    unfold tYes
    dsimp only
    rw [if_pos rfl]
    exact hs i x y T H hi h1 h2 p hT
theorem DpAll.length {K : PySem.W.Frag} {H : Hp} : ∀ {ds : List PyData} {xs : List V}, DpAll K H xs ds → xs.length = ds.length
  | [], _, .nil => rfl
  | _ :: r, _, .cons _ t => by rw [List.length_cons, List.length_cons, DpAll.length t]
theorem DpAll.get {K : PySem.W.Frag} {H : Hp} : ∀ {ds : List PyData} {xs : List V} {i : Nat} {x : V}, DpAll K H xs ds → xs[i]? = some x → ∃ d, ds[i]? = some d ∧ Dp K H x d
  | [], _, i, x, .nil, e => by simp at e
  | d :: r, _, 0, x, .cons a t, e => by
    cases e
    exact ⟨d, rfl, a⟩
  | d :: r, _, i + 1, x, .cons a t, e => DpAll.get (i := i) t e
mutual
theorem Dp.same {K : PySem.W.Frag} {H H' : Hp} (s : Same H H') : ∀ (d : PyData) {v : V}, Dp K H v d → Dp K H' v d
  | .none, _, .non => .non
  | .bool b, _, .bl _ => .bl b
  | .int i, _, .int _ => .int i
  | .str x, _, .str _ => .str x
  | .list ds, _, .lst h a => .lst (s.seq h) (DpAll.same s ds a)
  | .tuple ds, _, .tup h a => .tup ((tp_same s).sq h) (DpAll.same s ds a)
theorem DpAll.same {K : PySem.W.Frag} {H H' : Hp} (s : Same H H') : ∀ (ds : List PyData) {vs : List V}, DpAll K H vs ds → DpAll K H' vs ds
  | [], _, .nil => .nil
  | d :: r, _, .cons a b => .cons (Dp.same s d a) (DpAll.same s r b)
end
theorem same_new {H : Hp} {p : Addr} {o : HO} (h : H p = none) : Same H (upd H p o) := fun b u e => by
  rw [upd_ne (ne_of_none e h)]
  exact e
theorem Same.kp {r : Addr} {H H' : Hp} (s : Same H H') : Kp r H H' := fun b o _ e => s b o e
/-- all of a row of True -/
theorem all_true (n : Nat) : (List.replicate n true).all id = true := by
  induction n with
  | zero => rfl
  | succ n ih => rw [List.replicate_succ, List.all_cons, ih]; rfl
theorem rep_snoc (n : Nat) : (List.replicate n true).map V.bl ++ [V.bl true] = (List.replicate (n + 1) true).map V.bl := by
  rw [List.replicate_succ', List.map_append]
  rfl
end SW

set_option Elab.async false
set_option linter.all false
set_option maxRecDepth 100000
set_option maxHeartbeats 4000000
namespace SW
open PySem PySem.Spec PyProof.Rows L2
/-! ### a starred text in a display -/
def signs (z : Str) : List V := z.cps.toList.map fun c => V.str ⟨#[c]⟩
theorem vals_of : ∀ {xs : List V} {us : List Value}, xs.length = us.length → (∀ (i : Nat) x u, xs[i]? = some x → us[i]? = some u → RelV x u) → Vals xs us
  | [], [], _, _ => .nil
  | x :: xs, u :: us, hl, h => .cons (h 0 x u rfl rfl) (vals_of (by simpa using hl) fun i a b p q => h (i + 1) a b p q)
section
variable {X : Cx} {pins : List (Addr × Obj)} {σ : L2.St} {H : Hp} {s : Shared}
theorem star_str {z : Str} {t : Tok} {E : Value → Shared → Prop} {Q : List Value → Shared → Prop} (hc : X.calm = true) (I : Inv X pins σ H s) (hz : z.cps.size ≤ sizeLine) (hQ : ∀ us s', Inv X pins σ H s' → Vals (signs z) us → Q us s') :
    PySem.W.StarOf (model X.prog X.w) X.A E (.str z t) Q s := by
  have z1 : wpAny (model X.prog X.w) X.A (collect (.str z t)) Q E s := by
    refine wpAny_collect_str (I.ok.hd hc) z t (fun s' acc hk hg hd ho hit => ?_) hz
    have e : s' = { s with heap := s'.heap, toks := s'.toks } := by
      cases s'
      cases s
      simp only at hg hd ho
      subst hg hd ho
      rfl
    rw [e]
    refine hQ acc.toList _ (I.kept (t' := s'.toks) hk) (vals_of ?_ fun i x u p q => ?_)
    · unfold signs
      rw [List.length_map, Array.length_toList, Array.length_toList]
      exact hit.1.symm
    · have q' : acc[i]? = some u := by rw [Array.getElem?_toList] at q; exact q
      obtain ⟨c, tk, h1, h2⟩ := hit.2 i u q'
      unfold signs at p
      rw [List.getElem?_map, Array.getElem?_toList, h1] at p
      cases p
      exact ⟨tk, h2⟩
  unfold PySem.W.StarOf notIterableAtAll
  exact wpAny_bind (wpAny_specialOf (T := "str") (v := .str z t) rfl PySem.F.slot_str_iter.lookup (wpAny_pure ⟨rfl, z1⟩))
end
def tStarS (te : TE) (t : TA) : TA := fun σ H Q => te σ H fun x H1 => ∃ z, x = V.str z ∧ z.cps.size ≤ sizeLine ∧ t σ H1 fun ys H2 => Q (signs z ++ ys) H2
theorem pa_starS {X : Cx} {e : Expr} {es : List Expr} {te : TE} {t : TA} {p : Pos} (hc : X.calm = true) (he : PE X e te) (hr : PA X es t) (hs : starEach (.Starred e p :: es) X.env = (true, eval e X.env) :: starEach es X.env := by rfl) : PA X (.Starred e p :: es) (tStarS te t) := by
  refine ⟨fun pos pins s σ H Q I h => ?_⟩
  refine PySem.W.items_star (thn (he.run pins s σ H _ I h) fun v s1 ⟨y, H1, I1, ry, z, ey, hz, q⟩ => ?_) hs
  subst ey
  obtain ⟨tk, rfl⟩ := (show ∃ t, v = Value.str z t from ry)
  refine star_str hc I1 hz fun us s2 I2 rv => ?_
  exact thn (hr.run pos pins s2 σ H1 _ I2 q) fun ws s3 ⟨vs, H3, I3, r3, q3⟩ => ⟨signs z ++ vs, H3, I3, rv.append r3, q3⟩
/-! ### tests of texts -/
theorem eq_no {a b : Str} {A B : Prop} (h : a ≠ b) (q : B) : ∃ k, V.bl (decide (V.str a = V.str b)) = V.bl k ∧ if k = true then A else B :=
  ⟨false, by rw [decide_eq_false]; intro e; exact h (V.str.inj e), q⟩
theorem eq_yes {a b : Str} {A B : Prop} (h : a = b) (q : A) : ∃ k, V.bl (decide (V.str a = V.str b)) = V.bl k ∧ if k = true then A else B :=
  ⟨true, by rw [h, decide_eq_true rfl], q⟩
/-- membership of a text among texts -/
theorem inV_str {c : Str} : ∀ {L : List Str}, inV (.str c) (L.map V.str) = decide (c ∈ L)
  | [] => rfl
  | a :: r => by
    have ih := inV_str (c := c) (L := r)
    unfold inV at ih ⊢
    rw [List.map_cons, List.any_cons, ih]
    show ((a == c) || decide (c ∈ r)) = _
    by_cases h : a = c
    · subst h
      simp
    · have h' : ¬ c = a := fun e => h e.symm
      simp [h, h']
theorem in_no {c : Str} (L : List Str) {A B : Prop} (h : c ∉ L) (q : B) : ∃ k, V.bl (if false = true then !inV (.str c) (L.map V.str) else inV (.str c) (L.map V.str)) = V.bl k ∧ if k = true then A else B := by
  refine ⟨false, ?_, q⟩
  rw [if_neg (by decide), inV_str, decide_eq_false h]
theorem in_yes {c : Str} (L : List Str) {A B : Prop} (h : c ∈ L) (q : A) : ∃ k, V.bl (if false = true then !inV (.str c) (L.map V.str) else inV (.str c) (L.map V.str)) = V.bl k ∧ if k = true then A else B := by
  refine ⟨true, ?_, q⟩
  rw [if_neg (by decide), inV_str, decide_eq_true h]
/-! ### counts -/
mutual
def W.cnt (L : List Str) : W → Option Int
  | .emp => some 0
  | .ltr c => some (if c ∈ L then 1 else 0)
  | .nam _ => some 0
  | .join ws => W.cnts L ws
  | .times w n => if 0 < n then (w.cnt L).map (· * n) else some 0
  | .right w => if w.cnt L = some 0 then some 0 else none
  | .left w => if w.cnt L = some 0 then some 0 else none
def W.cnts (L : List Str) : List W → Option Int
  | [] => some 0
  | w :: r => match w.cnt L, W.cnts L r with
    | some a, some b => some (a + b)
    | _, _ => none
end
def toV : Option Int → V
  | none => .non
  | some m => .int m
def toL : Option Int → Int
  | none => -1
  | some m => m
theorem cnt_emp {L : List Str} : W.cnt L .emp = some 0 := by rw [W.cnt]
theorem cnt_ltr {L : List Str} {c : Str} : W.cnt L (.ltr c) = some (if c ∈ L then 1 else 0) := by rw [W.cnt]
theorem cnt_join {L : List Str} {ws : List W} : W.cnt L (.join ws) = W.cnts L ws := by rw [W.cnt]
theorem cnt_times {L : List Str} {t : W} {n : Int} : W.cnt L (.times t n) = if 0 < n then (t.cnt L).map (· * n) else some 0 := by rw [W.cnt]
theorem cnt_right {L : List Str} {t : W} : W.cnt L (.right t) = if t.cnt L = some 0 then some 0 else none := by rw [W.cnt]
theorem cnt_left {L : List Str} {t : W} : W.cnt L (.left t) = if t.cnt L = some 0 then some 0 else none := by rw [W.cnt]
theorem W.cnts_none {L : List Str} : ∀ {ws : List W}, none ∈ ws.map (W.cnt L) → W.cnts L ws = none
  | w :: r, h => by
    unfold W.cnts
    rcases List.mem_cons.mp h with e | h
    · rw [← e]
    · rw [W.cnts_none h]
      split <;> simp_all
theorem W.cnts_some {L : List Str} : ∀ {ws : List W}, none ∉ ws.map (W.cnt L) → W.cnts L ws = some ((ws.map fun w => toL (w.cnt L)).sum)
  | [], _ => by
    unfold W.cnts
    rfl
  | w :: r, h => by
    unfold W.cnts
    rw [List.map_cons, List.mem_cons, not_or] at h
    rw [W.cnts_some h.2, List.map_cons, List.sum_cons]
    cases e : w.cnt L with
    | none => exact absurd e.symm h.1
    | some a => rfl
mutual
theorem W.cnt_bd {M L : List Str} : ∀ (w : W) {m : Int}, w.Ok M → w.cnt L = some m → 0 ≤ m ∧ m < 2 ^ (110 * w.dep)
  | .emp, m, o, e => by
    unfold W.cnt at e
    cases e
    exact ⟨by decide, by unfold W.dep; decide⟩
  | .ltr c, m, o, e => by
    unfold W.cnt at e
    unfold W.dep
    split at e <;> (cases e; exact ⟨by decide, by decide⟩)
  | .nam c, m, o, e => by
    unfold W.Ok at o
    exact o.elim
  | .join ws, m, o, e => by
    unfold W.Ok at o
    unfold W.cnt at e
    have h := W.cnts_bd ws o.2 e
    unfold W.dep
    refine ⟨h.1, ?_⟩
    have h2 : m ≤ (ws.length : Int) * 2 ^ (110 * W.deps ws) := h.2
    have h3 : (2 : Int) ^ (110 * (W.deps ws + 1)) = 2 ^ (110 * W.deps ws) * 2 ^ 110 := by rw [← Int.pow_add]; rfl
    have h4 : (0 : Int) < 2 ^ (110 * W.deps ws) := Int.pow_pos (by decide)
    have h5 : (ws.length : Int) * 2 ^ (110 * W.deps ws) ≤ 3 * 2 ^ (110 * W.deps ws) := Int.mul_le_mul_of_nonneg_right (by omega) (Int.le_of_lt h4)
    have h6 : (2 : Int) ^ 110 = 1298074214633706907132624082305024 := by decide
    rw [h3, h6]
    generalize (2 : Int) ^ (110 * W.deps ws) = z at *
    omega
  | .times w n, m, o, e => by
    unfold W.Ok at o
    unfold W.cnt at e
    unfold W.dep
    have h4 : (0 : Int) < 2 ^ (110 * w.dep) := Int.pow_pos (by decide)
    have h3 : (2 : Int) ^ (110 * (w.dep + 1)) = 2 ^ (110 * w.dep) * 2 ^ 110 := by rw [← Int.pow_add]; rfl
    have h6 : (2 : Int) ^ 110 = 1298074214633706907132624082305024 := by decide
    rw [h3, h6]
    split at e
    · cases g : w.cnt L with
      | none =>
        rw [g] at e
        cases e
      | some a =>
        rw [g] at e
        have e' : a * n = m := Option.some.inj e
        have h := W.cnt_bd w o.2.2 g
        subst e'
        refine ⟨Int.mul_nonneg h.1 o.1, ?_⟩
        have a1 : a * n ≤ a * 1000000000000000000000000000000 := Int.mul_le_mul_of_nonneg_left o.2.1 h.1
        generalize (2 : Int) ^ (110 * w.dep) = z at *
        have := h.2
        omega
    · cases e
      generalize (2 : Int) ^ (110 * w.dep) = z at *
      omega
  | .right w, m, o, e => by
    unfold W.cnt at e
    split at e
    · cases e
      exact ⟨by decide, Int.pow_pos (by decide)⟩
    · cases e
  | .left w, m, o, e => by
    unfold W.cnt at e
    split at e
    · cases e
      exact ⟨by decide, Int.pow_pos (by decide)⟩
    · cases e
theorem W.cnts_bd {M L : List Str} : ∀ (ws : List W) {m : Int}, W.Oks M ws → W.cnts L ws = some m → 0 ≤ m ∧ m ≤ (ws.length : Int) * 2 ^ (110 * W.deps ws)
  | [], m, o, e => by
    unfold W.cnts at e
    cases e
    exact ⟨by decide, by simp⟩
  | w :: r, m, o, e => by
    unfold W.Oks at o
    unfold W.cnts at e
    unfold W.deps
    split at e
    · rename_i a b ea eb
      have e' : a + b = m := Option.some.inj e
      have h1 := W.cnt_bd w o.1 ea
      have h2 := W.cnts_bd r o.2 eb
      subst e'
      refine ⟨by omega, ?_⟩
      have p1 : (2 : Int) ^ (110 * w.dep) ≤ 2 ^ (110 * max w.dep (W.deps r)) := by
        have := Nat.pow_le_pow_right (n := 2) (by decide) (Nat.mul_le_mul_left 110 (Nat.le_max_left w.dep (W.deps r)))
        exact_mod_cast this
      have p2 : (2 : Int) ^ (110 * W.deps r) ≤ 2 ^ (110 * max w.dep (W.deps r)) := by
        have := Nat.pow_le_pow_right (n := 2) (by decide) (Nat.mul_le_mul_left 110 (Nat.le_max_right w.dep (W.deps r)))
        exact_mod_cast this
      have p3 : (r.length : Int) * 2 ^ (110 * W.deps r) ≤ (r.length : Int) * 2 ^ (110 * max w.dep (W.deps r)) := Int.mul_le_mul_of_nonneg_left p2 (by omega)
      have p4 : (((w :: r).length : Nat) : Int) * 2 ^ (110 * max w.dep (W.deps r)) = (r.length : Int) * 2 ^ (110 * max w.dep (W.deps r)) + 2 ^ (110 * max w.dep (W.deps r)) := by
        rw [List.length_cons]
        push_cast
        rw [Int.add_mul, Int.one_mul]
      rw [p4]
      omega
    · cases e
end
theorem W.cnt_abs {M L : List Str} {w : W} {m : Int} (o : w.Ok M) (e : w.cnt L = some m) : m.natAbs < 2 ^ (110 * w.dep) := by
  have h := W.cnt_bd w o e
  have : ((m.natAbs : Nat) : Int) < ((2 ^ (110 * w.dep) : Nat) : Int) := by
    rw [Int.natAbs_of_nonneg h.1]
    push_cast
    exact h.2
  exact_mod_cast this
theorem flat_strs (L : List Str) : (L.map V.str).all flatV = true := by
  rw [List.all_map]
  exact List.all_eq_true.mpr fun x _ => rfl
theorem inV_non : ∀ {cs : List (Option Int)}, inV .non (cs.map toV) = decide (none ∈ cs)
  | [] => rfl
  | c :: r => by
    have ih := inV_non (cs := r)
    unfold inV at ih ⊢
    rw [List.map_cons, List.any_cons, ih]
    cases c with
    | none =>
      show (true || _) = _
      simp
    | some m =>
      show (false || _) = _
      simp
theorem flat_toV (cs : List (Option Int)) : (cs.map toV).all flatV = true := by
  rw [List.all_map]
  exact List.all_eq_true.mpr fun x _ => by cases x <;> rfl
theorem toV_ints : ∀ {cs : List (Option Int)}, none ∉ cs → cs.map toV = (cs.map toL).map V.int
  | [], _ => rfl
  | c :: r, h => by
    rw [List.mem_cons, not_or] at h
    rw [List.map_cons, List.map_cons, List.map_cons, toV_ints h.2]
    cases c with
    | none => exact absurd rfl h.1
    | some m => rfl
theorem inV_int {m : Int} : ∀ {ns : List Int}, inV (.int m) (ns.map V.int) = decide (m ∈ ns)
  | [] => rfl
  | a :: r => by
    have ih := inV_int (m := m) (ns := r)
    unfold inV at ih ⊢
    rw [List.map_cons, List.any_cons, ih]
    show ((a == m) || decide (m ∈ r)) = _
    by_cases h : a = m
    · subst h
      simp
    · have h' : ¬ m = a := fun e => h e.symm
      simp [h, h']
theorem flat_ints (ns : List Int) : (ns.map V.int).all flatV = true := by
  rw [List.all_map]
  exact List.all_eq_true.mpr fun x _ => rfl
end SW

set_option Elab.async false
set_option linter.all false
set_option maxRecDepth 100000
set_option maxHeartbeats 4000000
namespace SW
open PySem PySem.Spec PyProof.Rows L2
def W.parts : W → List W
  | .join ws => ws
  | .times w _ => [w]
  | .right w => [w]
  | .left w => [w]
  | _ => []
theorem W.parts_mem {L : List Str} {t x : W} (o : t.Ok L) (h : x ∈ t.parts) : x.Ok L ∧ x.dep + 1 ≤ t.dep := by
  cases t with
  | join ws =>
    unfold W.Ok at o
    have := W.deps_mem (ws := ws) h
    refine ⟨W.oks_mem h o.2, ?_⟩
    rw [W.dep]
    omega
  | times w n =>
    unfold W.Ok at o
    cases List.mem_singleton.mp h
    exact ⟨o.2.2, by rw [W.dep]; omega⟩
  | right w =>
    unfold W.Ok at o
    cases List.mem_singleton.mp h
    exact ⟨o, by rw [W.dep]; omega⟩
  | left w =>
    unfold W.Ok at o
    cases List.mem_singleton.mp h
    exact ⟨o, by rw [W.dep]; omega⟩
  | emp => exact (List.not_mem_nil h).elim
  | ltr c => exact (List.not_mem_nil h).elim
  | nam c => exact (List.not_mem_nil h).elim
theorem W.parts_len {L : List Str} {t : W} (o : t.Ok L) : t.parts.length ≤ 3 := by
  cases t with
  | join ws =>
    unfold W.Ok at o
    exact o.1
  | _ => simp [W.parts]
/-- the law's counts of the parts -/
def W.cs (L : List Str) (t : W) : List Int := t.parts.map fun x => toL (x.cnt L)
theorem toL_neg {M L : List Str} {x : W} (o : x.Ok M) : toL (x.cnt L) = -1 ↔ x.cnt L = none := by
  cases e : x.cnt L with
  | none => exact ⟨fun _ => rfl, fun _ => rfl⟩
  | some m =>
    have h := (W.cnt_bd x o e).1
    refine ⟨fun q => ?_, fun q => by cases q⟩
    have q' : m = -1 := q
    omega
theorem cs_neg {M L : List Str} {t : W} (o : t.Ok M) (hl : ∀ c, t ≠ .ltr c) (ht : ∀ x n, t = .times x n → n ≠ 0) (h : (-1 : Int) ∈ t.cs L) : toL (t.cnt L) = -1 := by
  unfold W.cs at h
  obtain ⟨x, hx, e⟩ := List.mem_map.mp h
  have ox := (W.parts_mem o hx).1
  have en := (toL_neg ox).mp e
  cases t with
  | join ws =>
    rw [cnt_join, W.cnts_none (ws := ws) (List.mem_map.mpr ⟨x, hx, en⟩)]
    rfl
  | times w n =>
    unfold W.Ok at o
    cases List.mem_singleton.mp hx
    have := ht _ n rfl
    rw [cnt_times, if_pos (by omega), en]
    rfl
  | right w =>
    cases List.mem_singleton.mp hx
    rw [cnt_right, en, if_neg (by intro h; cases h)]
    rfl
  | left w =>
    cases List.mem_singleton.mp hx
    rw [cnt_left, en, if_neg (by intro h; cases h)]
    rfl
  | emp => exact (List.not_mem_nil hx).elim
  | ltr c => exact (List.not_mem_nil hx).elim
  | nam c => exact (List.not_mem_nil hx).elim
theorem cs_join {M L : List Str} {ws : List W} (o : (W.join ws).Ok M) (h : ¬ (-1 : Int) ∈ (W.join ws).cs L) : toL ((W.join ws).cnt L) = ((W.join ws).cs L).sum := by
  have hn : none ∉ ws.map (W.cnt L) := fun q => by
    obtain ⟨x, hx, e⟩ := List.mem_map.mp q
    exact h (List.mem_map.mpr ⟨x, hx, (toL_neg (W.parts_mem o hx).1).mpr e⟩)
  rw [cnt_join, W.cnts_some hn]
  rfl
theorem cs_times {M L : List Str} {x : W} {n : Int} (o : (W.times x n).Ok M) (hn : n ≠ 0) (h : ¬ (-1 : Int) ∈ (W.times x n).cs L) : toL ((W.times x n).cnt L) = toL (x.cnt L) * n := by
  unfold W.Ok at o
  have h1 : x.cnt L ≠ none := fun q => h (List.mem_map.mpr ⟨x, List.mem_singleton.mpr rfl, (toL_neg o.2.2).mpr q⟩)
  rw [cnt_times, if_pos (by omega)]
  cases e : x.cnt L with
  | none => exact absurd e h1
  | some m => rfl
theorem cs_end {M L : List Str} {x : W} (o : x.Ok M) : toL (if x.cnt L = some 0 then some 0 else none) = if toL (x.cnt L) = 0 then 0 else -1 := by
  cases e : x.cnt L with
  | none => rw [if_neg (by intro h; cases h), if_neg (by decide)]; rfl
  | some m =>
    show _ = if m = 0 then 0 else -1
    by_cases h : m = 0
    · subst h
      rw [if_pos rfl, if_pos rfl]
      rfl
    · rw [if_neg (by intro q; cases q; exact h rfl), if_neg h]
      rfl
theorem toL_abs {M L : List Str} {x : W} (o : x.Ok M) : (toL (x.cnt L)).natAbs < 2 ^ (110 * x.dep) := by
  cases e : x.cnt L with
  | none =>
    show (1 : Nat) < _
    have := x.dep_pos
    exact Nat.one_lt_two_pow (by omega)
  | some m => exact W.cnt_abs o e
/-! ### letters in lowercase -/
mutual
def W.low : W → W
  | .emp => .emp
  | .ltr c => .ltr (Txt.lower c)
  | .nam c => .nam c
  | .join ws => .join (W.lows ws)
  | .times w n => .times w.low n
  | .right w => .right w.low
  | .left w => .left w.low
def W.lows : List W → List W
  | [] => []
  | w :: r => w.low :: W.lows r
end
theorem lows_map : ∀ ws : List W, W.lows ws = ws.map W.low
  | [] => by rw [W.lows]; rfl
  | w :: r => by rw [W.lows, lows_map r]; rfl
theorem low_abc : ∀ c ∈ abcABC, Txt.lower c ∈ abc := by
  intro c h
  simp only [abcABC, List.mem_cons, List.not_mem_nil, or_false] at h
  rcases h with rfl | rfl | rfl | rfl | rfl | rfl <;> decide +kernel
theorem low_same : ∀ c ∈ abc, Txt.lower c = c := by
  intro c h
  simp only [abc, List.mem_cons, List.not_mem_nil, or_false] at h
  rcases h with rfl | rfl | rfl <;> decide +kernel
theorem len_abc : ∀ c ∈ abcABC, c.length ≤ 5592405 := by
  intro c h
  simp only [abcABC, List.mem_cons, List.not_mem_nil, or_false] at h
  rcases h with rfl | rfl | rfl | rfl | rfl | rfl <;> decide +kernel
mutual
theorem W.low_ok : ∀ w : W, w.Ok abcABC → w.low.Ok abc
  | .emp, h => by rw [W.low]; unfold W.Ok; trivial
  | .ltr c, h => by rw [W.low]; unfold W.Ok at h ⊢; exact low_abc c h
  | .nam c, h => by unfold W.Ok at h; exact h.elim
  | .join ws, h => by
    rw [W.low]
    unfold W.Ok at h ⊢
    exact ⟨by rw [lows_map, List.length_map]; exact h.1, W.lows_ok ws h.2⟩
  | .times w n, h => by rw [W.low]; unfold W.Ok at h ⊢; exact ⟨h.1, h.2.1, W.low_ok w h.2.2⟩
  | .right w, h => by rw [W.low]; unfold W.Ok at h ⊢; exact W.low_ok w h
  | .left w, h => by rw [W.low]; unfold W.Ok at h ⊢; exact W.low_ok w h
theorem W.lows_ok : ∀ ws : List W, W.Oks abcABC ws → W.Oks abc (W.lows ws)
  | [], h => by rw [W.lows]; unfold W.Oks; trivial
  | w :: r, h => by rw [W.lows]; unfold W.Oks at h ⊢; exact ⟨W.low_ok w h.1, W.lows_ok r h.2⟩
theorem W.low_id : ∀ w : W, w.Ok abc → w.low = w
  | .emp, h => by rw [W.low]
  | .ltr c, h => by unfold W.Ok at h; rw [W.low, low_same c h]
  | .nam c, h => by rw [W.low]
  | .join ws, h => by unfold W.Ok at h; rw [W.low, W.lows_id ws h.2]
  | .times w n, h => by unfold W.Ok at h; rw [W.low, W.low_id w h.2.2]
  | .right w, h => by unfold W.Ok at h; rw [W.low, W.low_id w h]
  | .left w, h => by unfold W.Ok at h; rw [W.low, W.low_id w h]
theorem W.lows_id : ∀ ws : List W, W.Oks abc ws → W.lows ws = ws
  | [], h => by rw [W.lows]
  | w :: r, h => by unfold W.Oks at h; rw [W.lows, W.low_id w h.1, W.lows_id r h.2]
end
mutual
theorem W.low_dep : ∀ w : W, w.low.dep = w.dep
  | .emp => by rw [W.low]
  | .ltr c => by rw [W.low, W.dep, W.dep]
  | .nam c => by rw [W.low]
  | .join ws => by rw [W.low, W.dep, W.dep, W.lows_dep ws]
  | .times w n => by rw [W.low, W.dep, W.dep, W.low_dep w]
  | .right w => by rw [W.low, W.dep, W.dep, W.low_dep w]
  | .left w => by rw [W.low, W.dep, W.dep, W.low_dep w]
theorem W.lows_dep : ∀ ws : List W, W.deps (W.lows ws) = W.deps ws
  | [] => by rw [W.lows]
  | w :: r => by rw [W.lows, W.deps, W.deps, W.low_dep w, W.lows_dep r]
end
end SW

set_option Elab.async false
set_option linter.all false
set_option maxRecDepth 100000
set_option maxHeartbeats 4000000
namespace SW
open PySem PySem.Spec PyProof.Rows L2
theorem int_eqv {a b : Int} : PyData.eqv (.list [.int a]) (.list [.int b]) = decide (a = b) := by
  simp only [PyData.eqv, PyData.eqvAll, Bool.and_true]
  rfl
theorem int_shaped {a : Int} : SeqAt.shaped (.list [.int a]) = true := by
  unfold SeqAt.shaped
  simp [PyData.canLay0, PyData.canLayAll0, PyData.depth, PyData.depthAll]
theorem ne_yes {a b : Str} {A B : Prop} (h : a ≠ b) (q : A) : ∃ k, V.bl (!decide (V.str a = V.str b)) = V.bl k ∧ if k = true then A else B :=
  ⟨true, by rw [decide_eq_false (fun e => h (V.str.inj e))]; rfl, q⟩
theorem ne_no {a b : Str} {A B : Prop} (h : a = b) (q : B) : ∃ k, V.bl (!decide (V.str a = V.str b)) = V.bl k ∧ if k = true then A else B :=
  ⟨false, by rw [h, decide_eq_true rfl]; rfl, q⟩
theorem up_abc : ∀ c ∈ abc, Txt.upper c ∈ abcABC := by
  intro c h
  simp only [abc, List.mem_cons, List.not_mem_nil, or_false] at h
  rcases h with rfl | rfl | rfl <;> decide +kernel
theorem low_emp : W.low .emp = .emp := by rw [W.low]
theorem low_ltr {c : Str} : W.low (.ltr c) = .ltr (Txt.lower c) := by rw [W.low]
theorem low_join {ws : List W} : W.low (.join ws) = .join (ws.map W.low) := by rw [W.low, lows_map]
theorem low_times {t : W} {n : Int} : W.low (.times t n) = .times t.low n := by rw [W.low]
theorem low_right {t : W} : W.low (.right t) = .right t.low := by rw [W.low]
theorem low_left {t : W} : W.low (.left t) = .left t.low := by rw [W.low]
theorem wvs_snoc {K : PySem.W.Frag} {H : Hp} {f : W → W} {ws : List W} {acc : List V} {i : Nat} {y : V} {t : W} (e : ws[i]? = some t) (h : WVs K H acc ((ws.take i).map f)) (hy : WV K H y (f t)) : WVs K H (acc ++ [y]) ((ws.take (i + 1)).map f) := by
  rw [List.take_add_one, e]
  show WVs K H (acc ++ [y]) ((ws.take i ++ [t]).map f)
  rw [List.map_append]
  exact WVs.app hy h
theorem cutV_ints (ns : List Int) (lo hi : Option Int) : ∃ ms : List Int, cutV (ns.map V.int) lo hi = ms.map V.int := by
  unfold cutV
  exact ⟨(ns.drop (HT.sIx (ns.map V.int).length 0 lo)).take (HT.sIx (ns.map V.int).length (ns.map V.int).length hi - HT.sIx (ns.map V.int).length 0 lo), by rw [List.map_take, List.map_drop]⟩
/-! ### numbers and lists of them as data -/
def toD : Option Int → PyData
  | none => .none
  | some m => .int m
theorem toD_v {K : PySem.W.Frag} {H : Hp} (o : Option Int) : Dp K H (toV o) (toD o) := by
  cases o with
  | none => exact .non
  | some m => exact .int m
theorem toD_sm (o : Option Int) (n : Nat) : Sm n (toD o) := by
  cases o with
  | none => cases n <;> (unfold toD Sm; trivial)
  | some m => cases n <;> (unfold toD Sm; trivial)
theorem cnt_nonneg {M L : List Str} {t : W} (o : t.Ok M) : ∀ m, t.cnt L = some m → 0 ≤ m := fun m e => (W.cnt_bd t o e).1
theorem ints_sm {ds : List Int} {n : Nat} (h : ds.length ≤ 1000) : Sm (n + 1) (.list (ds.map PyData.int)) := by
  unfold Sm
  refine ⟨by rw [List.length_map]; exact h, fun d q => ?_⟩
  obtain ⟨i, _, rfl⟩ := List.mem_map.mp q
  cases n <;> (unfold Sm; trivial)
theorem ints_dp {K : PySem.W.Frag} {H : Hp} : ∀ ds : List Int, DpAll K H (ds.map V.int) (ds.map PyData.int)
  | [] => .nil
  | d :: r => .cons (.int d) (ints_dp r)
/-! ### a comprehension of one name over any walk of given items -/
theorem lcw {J : It} {n : Nat} {G : Hp → Prop} {xs : List V} (w : Walk J n G (YAt xs)) {j : Nat} {te : TE} {σ : L2.St} {H1 : Hp} {D : Addr} {Qd : Hp → Prop} (Pv : Nat → Hp → Prop) (h0 : Pv 0 (upd H1 D (.lst []))) (hG : ∀ i H, i ≤ n → Pv i H → G H)
    (hs : ∀ i x H, i < n → xs[i]? = some x → Pv i H → te (σ.set j (some x)) H fun y H4 => ∃ acc, H4 D = some (.lst acc) ∧ acc.length < sizeLine ∧ Pv (i + 1) (upd H4 D (.lst (acc ++ [y])))) (hd : ∀ H, Pv n H → Qd H) :
    ∃ W : Nat → Nat → Hp → Prop, (∃ m, W 0 m (upd H1 D (.lst []))) ∧ ∀ i m H, W i m H →
      (J.stop i H ∧ Qd H) ∨ (J.go i H ∧ ∃ Nx : Hp → Prop, (∀ H', Nx H' → ∃ m', m' < m ∧ W (i + 1) m' H') ∧ ∀ x H', J.yld i H x H' → gName j x (wipe σ [j]) H' fun σ2 H2 => wipe σ2 [j] = wipe σ [j] ∧ tYes σ2 H2 fun b H3 =>
        if b = true then te σ2 H3 fun y H4 => ∃ acc, H4 D = some (.lst acc) ∧ acc.length < sizeLine ∧ Nx (upd H4 D (.lst (acc ++ [y]))) else Nx H3) := by
  refine lc_it w Pv h0 hG (fun i x H H' hi p y => ?_) hd
  obtain ⟨rfl, e⟩ := y
  have e1 : wipe σ [j] = σ.set j none := rfl
  have e2 : (wipe σ [j]).set j (some x) = σ.set j (some x) := by rw [e1, List.set_set]
  unfold gName tYes
  rw [e2]
  dsimp only
  rw [if_pos rfl]
  refine ⟨?_, hs i x H' hi e p⟩
  show (σ.set j (some x)).set j none = σ.set j none
  rw [List.set_set]
theorem walk_revT {K : PySem.W.Frag} {a : Addr} {xs : List V} : Walk (RT.ItvT K a xs.length) xs.length (fun H => SqT K H a xs) (YAt xs.reverse) := by
  refine ⟨fun i H hi q => ⟨hi, xs, xs[xs.length - 1 - i], q, by rw [List.getElem?_eq_getElem (by omega)]⟩, fun H q => Nat.le_refl _, fun i H x H' hi q y => ?_⟩
  obtain ⟨e, f⟩ := y
  refine ⟨e, ?_⟩
  rw [List.getElem?_reverse hi]
  exact f xs q
/-! ### a tuple read backwards by a slice -/
section
variable {prog : Program} {w : World} {A : Around} {E : Value → Shared → Prop} {s : Shared}
theorem back_applied {sl : Addr} {vs : Value} {n : Nat} {Q : Int × Int × Nat → Shared → Prop} (hs : s.heap.IsSliceOf sl .none .none vs) (ps : IsPart vs (some (-1))) (h : Q ((n : Int) - 1, -1, n) s) :
    wpAny (model prog w) A (Builtin.Slice.sliceApplied (.ref sl) (pure (n : Int))) Q E s := by
  obtain ⟨ob, ho, hc, hd⟩ := id hs
  unfold Builtin.Slice.sliceApplied Builtin.Slice.sliceFields
  refine wpAny_bind (wpAny_bind (wpAny_field ho hd (x := .none) rfl (wpAny_bind (wpAny_field ho hd (x := .none) rfl (wpAny_bind (wpAny_field ho hd (x := vs) rfl (wpAny_pure ?_)))))))
  refine wpAny_bind (HT.slicePart_ ps ?_)
  show wpAny _ _ (if ((-1 : Int) == 0) = true then _ else _) _ _ s
  rw [if_neg (by decide)]
  refine wpAny_bind (slicePart_none (wpAny_bind (slicePart_none (wpAny_bind (wpAny_pure ?_)))))
  have e : Builtin.Slice.slicePlaces ((n : Int) - 1) (-1) (-1) = n := by
    unfold Builtin.Slice.slicePlaces
    have h1 : ¬ ((-1 : Int) > 0) := by decide
    have h2 : (- -1 : Int) = 1 := by decide
    simp only [h1, if_false, h2, Int.ediv_one]
    split <;> omega
  show wpAny _ _ (pure ((n : Int) - 1, (-1 : Int), Builtin.Slice.slicePlaces ((n : Int) - 1) (-1) (-1))) _ _ s
  rw [e]
  exact wpAny_pure h
theorem fmap_same {α β : Type} {f g : α → Option β} : ∀ {l : List α}, (∀ x ∈ l, f x = g x) → l.filterMap f = l.filterMap g
  | [], _ => rfl
  | x :: r, h => by
    have ih := fmap_same (f := f) (g := g) (l := r) fun y q => h y (List.mem_cons_of_mem _ q)
    rw [List.filterMap_cons, List.filterMap_cons, h x (List.mem_cons_self ..), ih]
theorem back_pick (xs : Array Value) : ((List.range xs.size).filterMap fun (m : Nat) => xs[(((xs.size : Int) - 1) + (m : Int) * -1).toNat]?).toArray = xs.toList.reverse.toArray := by
  have e : (List.range xs.size).filterMap (fun (m : Nat) => xs[(((xs.size : Int) - 1) + (m : Int) * -1).toNat]?) = ((List.range xs.size).map fun k => xs.size - 1 - k).filterMap (xs[·]?) := by
    rw [List.filterMap_map]
    refine fmap_same fun m hm => ?_
    have := List.mem_range.mp hm
    have q : (((xs.size : Int) - 1) + (m : Int) * -1).toNat = xs.size - 1 - m := by omega
    rw [q]
    rfl
  rw [e, PySem.W.krv_range, List.filterMap_reverse, PySem.W.krv_all]
theorem back_tuple {t sl : Addr} {items : Array Value} {vs : Value} {Q : Value → Shared → Prop} (hT : IsTup s.heap t items) (hs : s.heap.IsSliceOf sl .none .none vs) (ps : IsPart vs (some (-1)))
    (h : Q (.ref s.heap.objs.size) { s with heap := s.heap.push { cls := .type "tuple", data := .seq items.toList.reverse.toArray } }) (hz : items.size ≤ sizeLine) : wpAny (model prog w) A (getItem (.ref t) (.ref sl)) Q E s := by
  have hk : sizeOk (.seq items.toList.reverse.toArray) := by
    show items.toList.reverse.toArray.size ≤ sizeLine
    rw [List.size_toArray, List.length_reverse, Array.length_toList]
    exact hz
  obtain ⟨ob, ho, hc, hd⟩ := id hs
  have hS : s.TypeIs (.ref sl) "slice" := ⟨ob, ho, hc⟩
  unfold getItem
  try with_reducible refine wpAny_holding ?_
  first | refine wpAny_bind (wpAny_pure ?_) | skip
  refine wpAny_bind (wpAny_sequenceKey hT.typeIs (by decide) ?_)
  refine wpAny_bind (wpAny_callSpecial?_slot (name := Str.ofString "__getitem__") hT.typeIs PyProof.Rows.slot_tuple_getitem (wpAny_call_entry PyProof.Rows.slot_tuple_getitem hT.typeIs entry_tuple_getitem ?_ (args_tuple_getitem _ _)))
  show wpAny _ _ (Builtin.Tuple.tupleItemsOf (.ref t) >>= _) _ _ s
  refine wpAny_bind (tupleItemsOf_ hT ?_)
  refine wpAny_bind (wpAny_typeOf hS ?_)
  rw [if_pos (by decide)]
  refine wpAny_bind (back_applied hs ps ?_)
  have hno : ¬ ((((items.size : Int) - 1) == 0 && (-1 : Int) == 1 && items.size == items.size) = true) := by
    intro q
    rw [Bool.and_eq_true, Bool.and_eq_true] at q
    exact absurd (eq_of_beq q.1.2) (by decide)
  show wpAny _ _ (if (((items.size : Int) - 1) == 0 && (-1 : Int) == 1 && items.size == items.size) = true then _ else _) _ _ s
  rw [if_neg hno, back_pick]
  first
    | exact wpAny_bind (m := Builtin.Tuple.tupleExact _) (wpAny_newObj_type (wpAny_pure ⟨_, rfl, wpAny_pure h⟩) hk)
    | exact wpAny_bind (m := Builtin.Tuple.tupleExact _) (wpAny_newObj_type (wpAny_bind (wpAny_pure (wpAny_pure ⟨_, rfl, wpAny_pure h⟩))) hk)
    | exact wpAny_bind (wpAny_bind (m := Builtin.Tuple.tupleExact _) (wpAny_newObj_type (wpAny_pure (wpAny_pure ⟨_, rfl, wpAny_pure h⟩)) hk))
    | exact wpAny_bind (wpAny_bind (m := Builtin.Tuple.tupleExact _) (wpAny_newObj_type (wpAny_pure ⟨_, rfl, wpAny_pure h⟩) hk))
end
def tRevT (K : PySem.W.Frag) (te : TE) : TE := fun σ H Q => te σ H fun x H1 => ∃ a xs, x = .ref a ∧ SqT K H1 a xs ∧ ∀ p, H1 p = none → Q (.ref p) (upd H1 p (.tup xs.reverse))
theorem pe_revT {X : Cx} {e : Expr} {te : TE} {k : Nat} {p1 p2 p3 pos : Pos} (he : PE X e te) : PE X (.Subscript e (.Slice none none (some (.UnaryOp .USub (.Constant (.int 1) k p1) p2)) p3) pos) (tRevT X.K te) := by
  refine ⟨fun pins s σ H Q I h => ?_⟩
  refine Subscript_ (thn (he.run pins s σ H _ I h) fun v s1 ⟨x, H1, I1, r1, q1⟩ => ?_)
  obtain ⟨a, xs, rfl, hx, q⟩ := q1
  cases r1
  have hst : PO X (some (.UnaryOp .USub (.Constant (.int 1) k p1) p2)) (tPart (tUn (rU fun i => .int (-i)) (tC (.int 1)))) := po_some (pe_un un_neg pe_int)
  refine wpAny_Slice (thn (po_none.run pins s1 σ H1 (fun o H2 => o = none ∧ H2 = H1) I1 ⟨rfl, rfl⟩) fun vl s2 ⟨l, H2, I2, pl, el, e2⟩ => ?_)
  subst el e2
  refine thn (po_none.run pins s2 σ H2 (fun o H3 => o = none ∧ H3 = H2) I2 ⟨rfl, rfl⟩) fun vu s3 ⟨u, H3, I3, pu, eu, e3⟩ => ?_
  subst eu e3
  refine thn (hst.run pins s3 σ H3 (fun o H4 => o = some (-1) ∧ H4 = H3) I3 ⟨1, rfl, -1, rfl, rfl, rfl⟩) fun vs s4 ⟨o, H4, I4, ps, eo, e4⟩ => ?_
  subst eo e4
  cases pl
  cases pu
  have I5 : Inv X pins σ H4 { s4 with heap := s4.heap.push { cls := .type "slice", data := .fields #[.none, .none, vs] } } := I4.kept (t' := s4.toks) fun b ob q => Heap.get?_push_of_some _ q
  obtain ⟨its, r, hT, hz⟩ := I5.tuple hx
  have hl := r.length
  refine tail_any (ops := [.ref a, .ref s4.heap.objs.size]) hT.typeIs PyProof.Rows.slot_tuple_getitem.lookup ?_ (by with_unfolding_all rfl)
  refine back_tuple hT (Heap.IsSliceOf.new _ .none .none vs) ps ?_ (by rw [List.size_toArray]; omega)
  refine ⟨.ref _, _, I5.laid (t' := s4.toks) (o := .tup xs.reverse) (fun b ob q => Heap.get?_push_of_some _ q) (Nat.le_refl _) ?_, rfl, q _ (I5.hok.fresh (Nat.le_refl _))⟩
  refine ⟨by rw [List.length_reverse]; exact hz, its.reverse, r.reverse, ?_⟩
  have e : its.toArray.toList.reverse = its.reverse := by simp
  rw [e]
  exact IsTup.new _ _
theorem WVs.rev {K : PySem.W.Frag} {H : Hp} : ∀ {ws : List W} {xs : List V}, WVs K H xs ws → WVs K H xs.reverse ws.reverse
  | [], xs, h => by
    unfold WVs W.dats at h
    cases h
    exact wvs_nil
  | w :: r, xs, h => by
    unfold WVs W.dats at h
    cases h with | cons a b => ?_
    rw [List.reverse_cons, List.reverse_cons]
    exact WVs.app a (WVs.rev (ws := r) b)
/-! ### words turned round -/
mutual
def W.mir : W → W
  | .emp => .emp
  | .ltr c => .ltr c
  | .nam c => .nam c
  | .join ws => .join (W.mirs ws).reverse
  | .times w n => .times w.mir n
  | .right w => .left w.mir
  | .left w => .right w.mir
def W.mirs : List W → List W
  | [] => []
  | w :: r => w.mir :: W.mirs r
end
theorem mirs_map : ∀ ws : List W, W.mirs ws = ws.map W.mir
  | [] => by rw [W.mirs]; rfl
  | w :: r => by rw [W.mirs, mirs_map r]; rfl
theorem mir_emp : W.mir .emp = .emp := by rw [W.mir]
theorem mir_ltr {c : Str} : W.mir (.ltr c) = .ltr c := by rw [W.mir]
theorem mir_join {ws : List W} : W.mir (.join ws) = .join (ws.reverse.map W.mir) := by rw [W.mir, mirs_map, List.map_reverse]
theorem mir_times {t : W} {n : Int} : W.mir (.times t n) = .times t.mir n := by rw [W.mir]
theorem mir_right {t : W} : W.mir (.right t) = .left t.mir := by rw [W.mir]
theorem mir_left {t : W} : W.mir (.left t) = .right t.mir := by rw [W.mir]
mutual
theorem W.mir_mir : ∀ w : W, w.mir.mir = w
  | .emp => by rw [mir_emp, mir_emp]
  | .ltr c => by rw [mir_ltr, mir_ltr]
  | .nam c => by rw [W.mir, W.mir]
  | .join ws => by
    rw [mir_join, mir_join, ← List.map_reverse, List.reverse_reverse, List.map_map]
    have := W.mirs_mirs ws
    rw [mirs_map, mirs_map, List.map_map] at this
    rw [this]
  | .times w n => by rw [mir_times, mir_times, W.mir_mir w]
  | .right w => by rw [mir_right, mir_left, W.mir_mir w]
  | .left w => by rw [mir_left, mir_right, W.mir_mir w]
theorem W.mirs_mirs : ∀ ws : List W, W.mirs (W.mirs ws) = ws
  | [] => by rw [W.mirs, W.mirs]
  | w :: r => by rw [W.mirs, W.mirs, W.mir_mir w, W.mirs_mirs r]
end
mutual
theorem W.mir_ok {L : List Str} : ∀ w : W, w.Ok L → w.mir.Ok L
  | .emp, h => by rw [mir_emp]; exact h
  | .ltr c, h => by rw [mir_ltr]; exact h
  | .nam c, h => by unfold W.Ok at h; exact h.elim
  | .join ws, h => by
    rw [W.mir]
    unfold W.Ok at h ⊢
    refine ⟨by rw [List.length_reverse, mirs_map, List.length_map]; exact h.1, W.oks_of fun t q => ?_⟩
    exact W.oks_mem (List.mem_reverse.mp q) (W.mirs_ok ws h.2)
  | .times w n, h => by rw [mir_times]; unfold W.Ok at h ⊢; exact ⟨h.1, h.2.1, W.mir_ok w h.2.2⟩
  | .right w, h => by rw [mir_right]; unfold W.Ok at h ⊢; exact W.mir_ok w h
  | .left w, h => by rw [mir_left]; unfold W.Ok at h ⊢; exact W.mir_ok w h
theorem W.mirs_ok {L : List Str} : ∀ ws : List W, W.Oks L ws → W.Oks L (W.mirs ws)
  | [], h => by rw [W.mirs]; exact h
  | w :: r, h => by rw [W.mirs]; unfold W.Oks at h ⊢; exact ⟨W.mir_ok w h.1, W.mirs_ok r h.2⟩
end
theorem deps_rev {ws : List W} : W.deps ws.reverse = W.deps ws := by
  refine Nat.le_antisymm (W.deps_le fun w h => W.deps_mem (List.mem_reverse.mp h)) (W.deps_le fun w h => W.deps_mem (List.mem_reverse.mpr h))
mutual
theorem W.mir_dep : ∀ w : W, w.mir.dep = w.dep
  | .emp => by rw [mir_emp]
  | .ltr c => by rw [mir_ltr]
  | .nam c => by rw [W.mir]
  | .join ws => by rw [W.mir, W.dep, W.dep, deps_rev, W.mirs_dep ws]
  | .times w n => by rw [mir_times, W.dep, W.dep, W.mir_dep w]
  | .right w => by rw [mir_right, W.dep, W.dep, W.mir_dep w]
  | .left w => by rw [mir_left, W.dep, W.dep, W.mir_dep w]
theorem W.mirs_dep : ∀ ws : List W, W.deps (W.mirs ws) = W.deps ws
  | [] => by rw [W.mirs]
  | w :: r => by rw [W.mirs, W.deps, W.deps, W.mir_dep w, W.mirs_dep r]
end
theorem cnts_rev {L : List Str} {ws : List W} : W.cnts L ws.reverse = W.cnts L ws := by
  by_cases h : none ∈ ws.map (W.cnt L)
  · rw [W.cnts_none h, W.cnts_none (by rw [List.map_reverse]; exact List.mem_reverse.mpr h)]
  · rw [W.cnts_some h, W.cnts_some (by rw [List.map_reverse]; exact fun q => h (List.mem_reverse.mp q)), List.map_reverse, List.sum_reverse]
mutual
theorem W.mir_cnt {L : List Str} : ∀ w : W, w.mir.cnt L = w.cnt L
  | .emp => by rw [mir_emp]
  | .ltr c => by rw [mir_ltr]
  | .nam c => by rw [W.mir]
  | .join ws => by rw [W.mir, cnt_join, cnt_join, cnts_rev, W.mirs_cnt ws]
  | .times w n => by rw [mir_times, cnt_times, cnt_times, W.mir_cnt w]
  | .right w => by rw [mir_right, cnt_right, cnt_left, W.mir_cnt w]
  | .left w => by rw [mir_left, cnt_left, cnt_right, W.mir_cnt w]
theorem W.mirs_cnt {L : List Str} : ∀ ws : List W, W.cnts L (W.mirs ws) = W.cnts L ws
  | [] => by rw [W.mirs]
  | w :: r => by rw [W.mirs, W.cnts, W.cnts, W.mir_cnt w, W.mirs_cnt r]
end
end SW

set_option Elab.async false
set_option linter.all false
set_option maxRecDepth 100000
set_option maxHeartbeats 4000000
namespace SW
open PySem PySem.Spec PyProof.Rows L2
/-! ### nodes and levels -/
mutual
def W.nod : W → Nat
  | .emp => 1
  | .ltr _ => 1
  | .nam _ => 1
  | .join ws => W.nods ws + 1
  | .times w _ => w.nod + 1
  | .right w => w.nod + 1
  | .left w => w.nod + 1
def W.nods : List W → Nat
  | [] => 0
  | w :: r => w.nod + W.nods r
end
theorem nods_map : ∀ ws : List W, W.nods ws = (ws.map W.nod).sum
  | [] => by rw [W.nods]; rfl
  | w :: r => by rw [W.nods, nods_map r, List.map_cons, List.sum_cons]
theorem nods_app (a b : List W) : W.nods (a ++ b) = W.nods a + W.nods b := by
  rw [nods_map, nods_map, nods_map, List.map_append, List.sum_append]
theorem nod_parts (w : W) : w.nod = W.nods w.parts + 1 := by
  cases w <;> simp [W.nod, W.parts, W.nods]
theorem dep_parts (w : W) : w.dep = W.deps w.parts + 1 := by
  cases w <;> simp [W.dep, W.parts, W.deps]
def nxt (ws : List W) : List W := ws.flatMap W.parts
theorem nxt_nil : nxt [] = [] := rfl
theorem nxt_cons (w : W) (r : List W) : nxt (w :: r) = w.parts ++ nxt r := rfl
theorem nods_nxt : ∀ ws : List W, W.nods ws = ws.length + W.nods (nxt ws)
  | [] => by rw [W.nods, nxt_nil, W.nods]; rfl
  | w :: r => by
    rw [W.nods, nods_nxt r, nxt_cons, nods_app, nod_parts w, List.length_cons]
    omega
theorem deps_app (a b : List W) : W.deps (a ++ b) = max (W.deps a) (W.deps b) := by
  induction a with
  | nil => rw [List.nil_append, W.deps, Nat.zero_max]
  | cons x r ih => rw [List.cons_append, W.deps, W.deps, ih, Nat.max_assoc]
theorem deps_nxt : ∀ (w : W) (r : List W), W.deps (w :: r) = W.deps (nxt (w :: r)) + 1
  | w, [] => by
    rw [W.deps, W.deps, nxt_cons, nxt_nil, List.append_nil, Nat.max_zero, dep_parts w]
  | w, x :: r => by
    have ih := deps_nxt x r
    have e : nxt (w :: x :: r) = w.parts ++ nxt (x :: r) := rfl
    rw [W.deps, e, deps_app, dep_parts w, ih]
    omega
theorem deps_zero {ws : List W} (h : W.deps ws = 0) : ws = [] := by
  cases ws with
  | nil => rfl
  | cons w r =>
    rw [W.deps] at h
    have := w.dep_pos
    omega
theorem nods_len (ws : List W) : ws.length ≤ W.nods ws := by
  rw [nods_nxt]
  exact Nat.le_add_right _ _
mutual
theorem nod_bd {L : List Str} : ∀ w : W, w.Ok L → w.nod ≤ 4 ^ w.dep
  | .emp, _ => by rw [W.nod, W.dep]; decide
  | .ltr c, _ => by rw [W.nod, W.dep]; decide
  | .nam c, h => by rw [W.nod, W.dep]; decide
  | .join ws, h => by
    unfold W.Ok at h
    have a := nods_bd ws h.2
    rw [W.nod, W.dep, Nat.pow_succ]
    have b : ws.length * 4 ^ W.deps ws ≤ 3 * 4 ^ W.deps ws := Nat.mul_le_mul_right _ h.1
    have c : 0 < 4 ^ W.deps ws := Nat.pow_pos (by decide)
    omega
  | .times w n, h => by
    unfold W.Ok at h
    have a := nod_bd w h.2.2
    rw [W.nod, W.dep, Nat.pow_succ]
    have c : 0 < 4 ^ w.dep := Nat.pow_pos (by decide)
    omega
  | .right w, h => by
    unfold W.Ok at h
    have a := nod_bd w h
    rw [W.nod, W.dep, Nat.pow_succ]
    have c : 0 < 4 ^ w.dep := Nat.pow_pos (by decide)
    omega
  | .left w, h => by
    unfold W.Ok at h
    have a := nod_bd w h
    rw [W.nod, W.dep, Nat.pow_succ]
    have c : 0 < 4 ^ w.dep := Nat.pow_pos (by decide)
    omega
theorem nods_bd {L : List Str} : ∀ ws : List W, W.Oks L ws → W.nods ws ≤ ws.length * 4 ^ W.deps ws
  | [], _ => by rw [W.nods]; exact Nat.zero_le _
  | w :: r, h => by
    unfold W.Oks at h
    have a := nod_bd w h.1
    have b := nods_bd r h.2
    rw [W.nods, W.deps, List.length_cons, Nat.add_mul, Nat.one_mul]
    have p1 : 4 ^ w.dep ≤ 4 ^ max w.dep (W.deps r) := Nat.pow_le_pow_right (by decide) (Nat.le_max_left _ _)
    have p2 : 4 ^ W.deps r ≤ 4 ^ max w.dep (W.deps r) := Nat.pow_le_pow_right (by decide) (Nat.le_max_right _ _)
    have p3 : r.length * 4 ^ W.deps r ≤ r.length * 4 ^ max w.dep (W.deps r) := Nat.mul_le_mul_left _ p2
    omega
end
theorem nod_small {L : List Str} {w : W} (h : w.Ok L) (hd : w.dep ≤ 8) : w.nod ≤ 65536 := Nat.le_trans (nod_bd w h) (show 4 ^ w.dep ≤ 4 ^ 8 from Nat.pow_le_pow_right (by decide) hd)
theorem nxt_ok {L : List Str} {ws : List W} (h : ∀ w ∈ ws, w.Ok L) : ∀ w ∈ nxt ws, w.Ok L := fun w q => by
  obtain ⟨x, hx, hw⟩ := List.mem_flatMap.mp q
  exact (W.parts_mem (h x hx) hw).1
theorem nxt_snoc {ws : List W} {i : Nat} {w : W} (e : ws[i]? = some w) : nxt (ws.take (i + 1)) = nxt (ws.take i) ++ w.parts := by
  rw [List.take_add_one, e]
  unfold nxt
  rw [List.flatMap_append]
  simp
theorem nxt_take_len (ws : List W) (i : Nat) : (nxt (ws.take i)).length ≤ (nxt ws).length := by
  have : nxt ws = nxt (ws.take i) ++ nxt (ws.drop i) := by
    unfold nxt
    rw [← List.flatMap_append, List.take_append_drop]
  rw [this, List.length_append]
  exact Nat.le_add_right _ _
theorem WVs.cat {K : PySem.W.Frag} {H : Hp} {ys : List V} {us : List W} (q : WVs K H ys us) : ∀ {ws : List W} {xs : List V}, WVs K H xs ws → WVs K H (xs ++ ys) (ws ++ us)
  | [], xs, h => by
    unfold WVs W.dats at h
    cases h
    exact q
  | v :: r, xs, h => by
    unfold WVs W.dats at h
    cases h with | cons a b => ?_
    exact wvs_cons a (WVs.cat q (ws := r) b)
end SW

set_option Elab.async false
set_option linter.all false
set_option maxRecDepth 100000
set_option maxHeartbeats 4000000
namespace SW
open PySem PySem.Spec PyProof.Rows L2
/-! ### defs of any number of arguments -/
structure DfS (K : PySem.W.Frag) (mg : Str → Option Value) (x : Str) (st : Stmt) : Prop where
  ex : ∃ f fd, Fun K x x st f fd ∧ mg x = some (.ref f)
structure CalR (P : Program) (w : World) (K : PySem.W.Frag) (mg : Str → Option Value) (base : Heap) (k : Nat) (x : Str) (sp : Sp) : Prop where
  ex : ∃ f, FnR P w K mg base CX0 k f sp ∧ mg x = some (.ref f) ∧ PySem.W.keepIn K (.ref f) = true
theorem dfs_mk {K : PySem.W.Frag} {mg : Str → Option Value} {h : Heap} {x : Str} {st : Stmt} {f : Addr} {od an : Option Addr} {sl : Array (Option Value)} {oc kV dc pm cd ct : Value} (X : K.In h) (G : h.Ns mainGlobals mg)
    (a : PySem.W.nsIn K mainGlobals x = some (some (.ref f))) (l : K.lookup f = some ⟨oc, od, .func (PySem.W.fnOf x x (defArgs st) (defBody st) (defScope st) .none kV dc pm an cd ct), sl⟩) (c : PySem.W.codeIn K cd x = true) (k : PySem.W.keepIn K (.ref f) = true) : DfS K mg x st :=
  ⟨f, _, fun_mk (st := st) l c k, PySem.W.mg_of X G a⟩
theorem DfS.ok {P : Program} {w : World} {K : PySem.W.Frag} {mg : Str → Option Value} {base : Heap} {x pv : Str} {st : Stmt} {N : List Str} {k : Nat} {sp : Sp} (D : DfS K mg x st) (S : FnScope N [pv] (defScope st))
    (hb : ∀ (kV doc pm : Value) (an : Option Addr) (cdv ct : Value) (rest : List Value), bindArgs (PySem.W.fnOf x x (defArgs st) (defBody st) (defScope st) .none kV doc pm an cdv ct) ⟨rest, []⟩ = (newTuple rest >>= fun t => pure [(pv, t)]))
    (hbody : ∀ (f : Addr) (cdv : Value) (A : Around) (outer : List Env) (s : Shared) (H : Hp) (vs : List V) (Q : VK) (E : XK), Room k (A.deeper (envOfC x (defScope st) s.heap.objs.size f cdv)) → sp vs H Q E →
      ∃ t, PSs (cxOf CX0 P w K mg base N x (defScope st) f cdv A outer s H E).nox (defBody st) t ∧ t { nx := fun _ H' => Q .non H', rt := Q } (start N vs) H) :
    CalR P w K mg base (k + 1) x (fun vs H Q E => vs.length ≤ sizeLine ∧ ∀ p, H p = none → sp [.ref p] (upd H p (.tup vs)) Q E) := by
  obtain ⟨f, fd, F, m⟩ := D.ex
  obtain ⟨oc, od, kV, doc, pm, an, cdv, ct, osl, rfl, lk, hcd⟩ := F.ex
  refine ⟨f, FnR.imp (StX.fn_star (ps := []) (pv := pv) (k := k) (sp := sp) lk hcd S StX.cxUp_none (fun us rest hl => ?_) (fun A outer s H vs Q E hr h => ?_)) (fun vs H Q E h => ⟨[], vs, rfl, rfl, h.1, h.2⟩), m, F.kp⟩
  · have e : us = [] := List.eq_nil_of_length_eq_zero hl
    subst e
    exact hb kV doc pm an cdv ct rest
  · obtain ⟨t, ht, hq⟩ := hbody f cdv A outer s H vs Q E hr h
    exact ⟨t, ht.nox, hq⟩
section
variable {X : Cx} {k j : Nat} {x : Str} {sp : Sp} {p pos : Pos} {e : Expr} {es : List Expr} {t : TA}
theorem pe_ownR (c : CalR X.prog X.w X.K X.mg X.base k x sp) (hr : Room j X.A) (hk : k ≤ j) (hg : Gl X x) (ha : PA X (e :: es) t) (hdb : (x == ("__debug__" : Str)) = false := by decide)
    (he : starEach (e :: es) X.env = (false, eval e X.env) :: starEach es X.env := by rfl) (hpl : (backTo pos (starEach es X.env)).any (·.1) = false := by rfl) :
    PE X (.Call (.Name x p) (e :: es) [] pos) (fun σ H Q => t σ H fun vs H1 => sp vs H1 Q E0) := by
  obtain ⟨f, F, hm, hK⟩ := c.ex
  refine ⟨fun pins s σ H Q I h => ?_⟩
  refine wpAny_Call_Name_kw (ld_glob I hg hm ?_ hdb)
  refine PySem.W.callWith_K (h₀ := X.base) I.ok.mod.kin hK (thn (ha.run pos pins s σ H _ I h) fun us s1 ⟨vs, H1, I1, r, q⟩ => ⟨I1.kIn, ?_⟩) he hpl
  exact wpAny_call (run_fnR (FnR.mono F hk) hr pass0 I1 r q)
theorem pe_ownR0 (c : CalR X.prog X.w X.K X.mg X.base k x sp) (hr : Room j X.A) (hk : k ≤ j) (hg : Gl X x) (hdb : (x == ("__debug__" : Str)) = false := by decide) :
    PE X (.Call (.Name x p) [] [] pos) (fun _ H Q => sp [] H Q E0) := by
  obtain ⟨f, F, hm, hK⟩ := c.ex
  refine ⟨fun pins s σ H Q I h => ?_⟩
  refine wpAny_Call_Name_kw (ld_glob I hg hm ?_ hdb)
  exact PySem.W.callWith_K0 I.kIn hK (wpAny_call (run_fnR (FnR.mono F hk) hr pass0 I .nil h))
end
/-! ### a comprehension with a test -/
theorem lcwT {J : It} {n : Nat} {G : Hp → Prop} {xs : List V} (w : Walk J n G (YAt xs)) {j : Nat} {tt : TT} {te : TE} {σ : L2.St} {H1 : Hp} {D : Addr} {Qd : Hp → Prop} (Pv : Nat → Hp → Prop) (h0 : Pv 0 (upd H1 D (.lst []))) (hG : ∀ i H, i ≤ n → Pv i H → G H)
    (hs : ∀ i x H, i < n → xs[i]? = some x → Pv i H → tt (σ.set j (some x)) H fun b H3 => if b = true then te (σ.set j (some x)) H3 fun y H4 => ∃ acc, H4 D = some (.lst acc) ∧ acc.length < sizeLine ∧ Pv (i + 1) (upd H4 D (.lst (acc ++ [y]))) else Pv (i + 1) H3) (hd : ∀ H, Pv n H → Qd H) :
    ∃ W : Nat → Nat → Hp → Prop, (∃ m, W 0 m (upd H1 D (.lst []))) ∧ ∀ i m H, W i m H →
      (J.stop i H ∧ Qd H) ∨ (J.go i H ∧ ∃ Nx : Hp → Prop, (∀ H', Nx H' → ∃ m', m' < m ∧ W (i + 1) m' H') ∧ ∀ x H', J.yld i H x H' → gName j x (wipe σ [j]) H' fun σ2 H2 => wipe σ2 [j] = wipe σ [j] ∧ tt σ2 H2 fun b H3 =>
        if b = true then te σ2 H3 fun y H4 => ∃ acc, H4 D = some (.lst acc) ∧ acc.length < sizeLine ∧ Nx (upd H4 D (.lst (acc ++ [y]))) else Nx H3) := by
  refine lc_it w Pv h0 hG (fun i x H H' hi p y => ?_) hd
  obtain ⟨rfl, e⟩ := y
  have e1 : wipe σ [j] = σ.set j none := rfl
  have e2 : (wipe σ [j]).set j (some x) = σ.set j (some x) := by rw [e1, List.set_set]
  unfold gName
  rw [e2]
  refine ⟨?_, hs i x H' hi e p⟩
  show (σ.set j (some x)).set j none = σ.set j none
  rw [List.set_set]
/-! ### words joined -/
def W.isE : W → Bool
  | .emp => true
  | _ => false
theorem eqv_emp (t : W) : PyData.eqv t.dat (W.dat .emp) = t.isE := by
  cases t <;> simp [W.dat, W.isE, PyData.eqv, PyData.eqvAll]
theorem emp_shaped : SeqAt.shaped (W.dat .emp) = true := W.shaped (L := abcABC) abc_ok (by unfold W.Ok; trivial) (by decide +kernel)
def W.kept (ws : List W) : List W := ws.filter fun t => !t.isE
theorem kept_snoc {ws : List W} {i : Nat} {t : W} (e : ws[i]? = some t) : W.kept (ws.take (i + 1)) = if (!t.isE) = true then W.kept (ws.take i) ++ [t] else W.kept (ws.take i) := by
  rw [List.take_add_one, e]
  unfold W.kept
  rw [List.filter_append]
  show _ ++ List.filter _ [t] = _
  rw [List.filter_cons]
  split <;> simp
theorem kept_len (ws : List W) : (W.kept ws).length ≤ ws.length := List.length_filter_le _ _
theorem kept_mem {ws : List W} {t : W} (h : t ∈ W.kept ws) : t ∈ ws := (List.mem_filter.mp h).1
def joinW : List W → W
  | [] => .emp
  | [t] => t
  | ws => .join ws
theorem joinW_many {ws : List W} (h : 1 < ws.length) : joinW ws = .join ws := by
  match ws, h with
  | _ :: _ :: _, _ => rfl
theorem joinW_sm {L : List Str} {ws : List W} {n : Nat} (h : ∀ t ∈ ws, t.Ok L ∧ 2 * t.dep ≤ n) (hl : ws.length ≤ 1000) : Sm (n + 2) (joinW ws).dat := by
  match ws, h, hl with
  | [], _, _ =>
    show Sm (n + 1 + 1) (W.dat .emp)
    unfold W.dat Sm
    refine ⟨by decide, fun d q => ?_⟩
    cases List.mem_singleton.mp q
    unfold Sm
    trivial
  | [t], h, _ => exact (W.sm t (h t (List.mem_singleton.mpr rfl)).1).mono (by have := (h t (List.mem_singleton.mpr rfl)).2; omega)
  | a :: b :: r, h, hl =>
    show Sm (n + 1 + 1) (W.dat (.join (a :: b :: r)))
    unfold W.dat Sm
    refine ⟨by show 2 ≤ 1000; decide, fun d q => ?_⟩
    simp only [List.mem_cons, List.not_mem_nil, or_false] at q
    rcases q with rfl | rfl
    · unfold Sm
      trivial
    · unfold Sm
      rw [W.dats_map]
      refine ⟨by rw [List.length_map]; exact hl, fun d q => ?_⟩
      obtain ⟨t, ht, rfl⟩ := List.mem_map.mp q
      exact (W.sm t (h t ht).1).mono (h t ht).2
theorem cut_to (xs : List V) (i : Nat) : cutV xs none (some (i : Int)) = xs.take i := by
  unfold cutV
  rw [HT.sIx_none, HT.sIx_nat]
  show (xs.drop 0).take (min i xs.length - 0) = xs.take i
  rw [List.drop_zero, Nat.sub_zero]
  rcases Nat.le_total i xs.length with h | h
  · rw [Nat.min_eq_left h]
  · rw [Nat.min_eq_right h, List.take_length, List.take_of_length_le h]
theorem WVs.take {K : PySem.W.Frag} {H : Hp} : ∀ (i : Nat) {ws : List W} {xs : List V}, WVs K H xs ws → WVs K H (xs.take i) (ws.take i)
  | 0, ws, xs, _ => by
    rw [List.take_zero, List.take_zero]
    exact wvs_nil
  | i + 1, [], xs, h => by
    unfold WVs W.dats at h
    cases h
    exact wvs_nil
  | i + 1, v :: r, xs, h => by
    unfold WVs W.dats at h
    cases h with | cons a b => ?_
    exact wvs_cons a (WVs.take i (ws := r) b)
end SW

set_option Elab.async false
set_option linter.all false
set_option maxRecDepth 100000
set_option maxHeartbeats 4000000
namespace SW
open PySem PySem.Spec PyProof.Rows L2
section
variable {P : Program} {w : World} {K : PySem.W.Frag} {mg : Str → Option Value} {h : Heap}
theorem df_mk {x : Str} {st : Stmt} {ps : List Str} {f : Addr} {od an : Option Addr} {sl : Array (Option Value)} {oc kV dc pm cd ct : Value} (X : K.In h) (G : h.Ns mainGlobals mg)
    (a : PySem.W.nsIn K mainGlobals x = some (some (.ref f))) (l : K.lookup f = some ⟨oc, od, .func (PySem.W.fnOf x x (defArgs st) (defBody st) (defScope st) .none kV dc pm an cd ct), sl⟩) (c : PySem.W.codeIn K cd x = true) (k : PySem.W.keepIn K (.ref f) = true)
    (hb : ∀ (kV doc pm : Value) (an : Option Addr) (cdv ct : Value) (us : List Value), us.length = ps.length → bindArgs (PySem.W.fnOf x x (defArgs st) (defBody st) (defScope st) .none kV doc pm an cdv ct) ⟨us, []⟩ = pure (ps.zip us)) : Df K mg x st ps := by
  have F := fun_mk (st := st) l c k
  exact ⟨f, _, F, PySem.W.mg_of X G a, F.binds (ps := ps) hb⟩
theorem law_end {st : Stmt} {fa : Addr} {k : Nat} {sp : Sp} (D : Df K mg "law" st ["_law_script"]) (hmg : mg "law" = some (.ref fa))
    (hb : ∀ (kV doc pm : Value) (an : Option Addr) (cdv ct : Value) (v : Value), bindArgs (PySem.W.fnOf "law" "law" (defArgs st) (defBody st) (defScope st) .none kV doc pm an cdv ct) ⟨[v], []⟩ = pure [(("_law_script" : Str), v)])
    (c : ∀ base : Heap, K.In base → base.Ns mainGlobals mg → Cal P w K mg base k "law" ["_law_script"] sp) :
    ∃ fd : FuncData, (∀ (s : Shared) (v : Value), BindsTo s fd ⟨[v], []⟩ [("_law_script", v)]) ∧ ∀ base : Heap, K.In base → base.Ns mainGlobals mg → FnOk P w K mg base CX0 k fa fd ["_law_script"] sp := by
  obtain ⟨f, fd, F, m, b⟩ := D.ex
  have e : f = fa := by
    rw [hmg] at m
    cases m
    rfl
  subst e
  obtain ⟨oc, od, kV, doc, pm, an, cdv, ct, osl, rfl, lk, _⟩ := F.ex
  refine ⟨_, fun s v => .of_eq (hb kV doc pm an cdv ct v), fun base h1 h2 => ?_⟩
  obtain ⟨f', fd', F', m', _, _, oc', od', osl', lk'⟩ := (c base h1 h2).ex
  have e : f' = f := by
    rw [m] at m'
    cases m'
    rfl
  subst e
  rw [lk] at lk'
  cases lk'
  exact F'
theorem sqt_mk {a : Addr} {o : Obj} {its : Array Value} {n : Nat} {xs : List V} (l : K.lookup a = some o) (hc : o.cls = .type "tuple") (hd : o.data = .seq its n) (hs : its.size ≤ sizeLine) (r : Vals xs its.toList) : ∀ H, SqT K H a xs :=
  fun _ => .inr ⟨o, its, n, l, hc, hd, hs, r⟩
end
theorem relstr {z y : Str} {tk : Tok} (h : z = y) : L2.RelV (.str z) (.str y tk) := ⟨tk, by rw [h]⟩
/-- what a law's def promises -/
def spLaw (K : PySem.W.Frag) : Sp := fun vs H Q _ => ∃ (a : Addr) (ns : List Int), vs = [.ref a] ∧ SqL K H a (ns.map V.int) ∧ ∀ H', Q (.bl true) H'
theorem walk {l : PySem.W.OpenLaw} {q : Program} {loose : List Str} {XP : (Str → Option Value) → Heap → Prop} {YP : World → Heap → Prop} {d : DefRec} {K : Params → PySem.W.Frag} {k : Nat} (hr : Room k callerA) (hn : l.most = some 63) (hdf : d.params.defaults = [])
    (hY : ∀ (w : World) (h : Heap), YP w h → (K w.params).In h)
    (F : ∀ (w : World) (mg : Str → Option Value) (fa : Addr) (h : Heap), (K w.params).In h → h.Ns mainGlobals mg → mg d.name = some (.ref fa) →
      ∃ fd : FuncData, (∀ (s : Shared) (u : Value), BindsTo s fd ⟨[u], []⟩ [("_law_script", u)]) ∧ ∀ base : Heap, (K w.params).In base → base.Ns mainGlobals mg → FnOk l.prog w (K w.params) mg base CX0 k fa fd ["_law_script"] (spLaw (K w.params))) :
    PySem.W.WalkO q loose XP YP l.row.toRowW d [] (fun f vs => PySem.call f vs) :=
  L2.walk_of (n := 63) (k := k) (x := "_law_script") (CX := fun _ => CX0) (sp := fun w => spLaw (K w.params)) hn (by decide) hdf hr hY F (fun _ _ a ns hl _ hS => ⟨a, ns, rfl, hS, fun _ => rfl⟩) fun _ _ _ _ _ z => z
end SW

set_option Elab.async false
set_option linter.all false
set_option maxRecDepth 100000
set_option maxHeartbeats 4000000
namespace SW
open PySem PySem.Spec PyProof.Rows L2
/-! ### addresses -/
abbrev big : Int := 1000000000000000000000000000000
/-- the word that a number leads to -/
def W.stp : W → Int → Option W
  | .join ws, i => if 0 ≤ i ∧ i < ws.length then ws[i.toNat]? else none
  | .times w n, i => if 0 ≤ i ∧ i < n then some w else none
  | .right w, i => if 0 ≤ i ∧ i ≤ big then some w else none
  | .left w, i => if 0 ≤ i ∧ i ≤ big then some w else none
  | _, _ => none
theorem stpJ {ws : List W} {i : Int} : (W.join ws).stp i = if 0 ≤ i ∧ i < ws.length then ws[i.toNat]? else none := rfl
theorem stpT {w : W} {n i : Int} : (W.times w n).stp i = if 0 ≤ i ∧ i < n then some w else none := rfl
theorem stpR {w : W} {i : Int} : (W.right w).stp i = if 0 ≤ i ∧ i ≤ big then some w else none := rfl
theorem stpL {w : W} {i : Int} : (W.left w).stp i = if 0 ≤ i ∧ i ≤ big then some w else none := rfl
def W.go : W → List Int → Option W
  | t, [] => some t
  | t, i :: r => match t.stp i with
    | some u => u.go r
    | none => none
def W.isL : W → Bool
  | .ltr _ => true
  | _ => false
/-- ns is the address of a place in t -/
def Vd (t : W) (ns : List Int) : Prop := ∃ c, t.go ns = some (.ltr c)
theorem go_nil (t : W) : t.go [] = some t := by rw [W.go]
theorem go_cons {t u : W} {i : Int} {r : List Int} (h : t.stp i = some u) : t.go (i :: r) = u.go r := by rw [W.go, h]
theorem go_none {t : W} {i : Int} {r : List Int} (h : t.stp i = none) : t.go (i :: r) = none := by rw [W.go, h]
theorem go_app : ∀ (p q : List Int) (t : W), t.go (p ++ q) = match t.go p with
    | some u => u.go q
    | none => none
  | [], q, t => by rw [go_nil]; rfl
  | i :: p, q, t => by
    cases h : t.stp i with
    | none => rw [List.cons_append, go_none h, go_none h]
    | some u => rw [List.cons_append, go_cons h, go_cons h, go_app p q u]
theorem go_app_some {p q : List Int} {t u : W} (h : t.go p = some u) : t.go (p ++ q) = u.go q := by rw [go_app, h]
theorem stp_ok {L : List Str} {t u : W} {i : Int} (o : t.Ok L) (h : t.stp i = some u) : u.Ok L ∧ u.dep + 1 ≤ t.dep := by
  refine W.parts_mem o ?_
  cases t with
  | join ws =>
    rw [stpJ] at h
    split at h
    · exact List.mem_of_getElem? h
    · cases h
  | times w n =>
    rw [stpT] at h
    split at h
    · cases h
      exact List.mem_singleton.mpr rfl
    · cases h
  | right w =>
    rw [stpR] at h
    split at h
    · cases h
      exact List.mem_singleton.mpr rfl
    · cases h
  | left w =>
    rw [stpL] at h
    split at h
    · cases h
      exact List.mem_singleton.mpr rfl
    · cases h
  | emp => cases h
  | ltr c => cases h
  | nam c => cases h
theorem go_ok {L : List Str} : ∀ (ns : List Int) {t u : W}, t.Ok L → t.go ns = some u → u.Ok L ∧ u.dep + ns.length ≤ t.dep
  | [], t, u, o, h => by
    rw [go_nil] at h
    cases h
    exact ⟨o, Nat.le_refl _⟩
  | i :: r, t, u, o, h => by
    cases e : t.stp i with
    | none => rw [go_none e] at h; cases h
    | some v =>
      rw [go_cons e] at h
      have a := stp_ok o e
      have b := go_ok r a.1 h
      refine ⟨b.1, ?_⟩
      rw [List.length_cons]
      omega
theorem vd_nil {c : Str} : Vd (.ltr c) [] := ⟨c, go_nil _⟩
theorem vd_ltr {c : Str} {ns : List Int} (h : Vd (.ltr c) ns) : ns = [] := by
  obtain ⟨d, h⟩ := h
  cases ns with
  | nil => rfl
  | cons i r => rw [go_none (by rfl)] at h; cases h
theorem vd_cons {t u : W} {i : Int} {r : List Int} (h : t.stp i = some u) (v : Vd u r) : Vd t (i :: r) := by
  obtain ⟨c, v⟩ := v
  exact ⟨c, by rw [go_cons h]; exact v⟩
theorem vd_inv {t : W} {ns : List Int} (v : Vd t ns) (h : t.isL = false) : ∃ i r u, ns = i :: r ∧ t.stp i = some u ∧ Vd u r := by
  obtain ⟨c, v⟩ := v
  cases ns with
  | nil =>
    rw [go_nil] at v
    cases v
    cases h
  | cons i r =>
    cases e : t.stp i with
    | none => rw [go_none e] at v; cases v
    | some u =>
      rw [go_cons e] at v
      exact ⟨i, r, u, rfl, e, c, v⟩
theorem stp_join {ws : List W} {k : Nat} {x : W} (h : ws[k]? = some x) : (W.join ws).stp (k : Int) = some x := by
  have hl := (List.getElem?_eq_some_iff.mp h).1
  rw [stpJ]
  rw [if_pos ⟨by omega, by omega⟩]
  exact h
theorem stp_times {w : W} {n i : Int} (h : 0 ≤ i) (h2 : i < n) : (W.times w n).stp i = some w := by
  rw [stpT]
  rw [if_pos ⟨h, h2⟩]
theorem stp_right {w : W} {i : Int} (h : 0 ≤ i) (h2 : i ≤ big) : (W.right w).stp i = some w := by
  rw [stpR]
  rw [if_pos ⟨h, h2⟩]
theorem stp_left {w : W} {i : Int} (h : 0 ≤ i) (h2 : i ≤ big) : (W.left w).stp i = some w := by
  rw [stpL]
  rw [if_pos ⟨h, h2⟩]
/-- how many numbers lead on -/
def W.tot : W → Int
  | .join ws => ws.length
  | .times _ n => n
  | _ => big + 1
theorem stp_tot {t : W} : t.stp t.tot = none := by
  cases t with
  | join ws =>
    show (if 0 ≤ (ws.length : Int) ∧ (ws.length : Int) < ws.length then ws[(ws.length : Int).toNat]? else none) = none
    rw [if_neg (by omega)]
  | times w n =>
    show (if 0 ≤ n ∧ n < n then some w else none) = none
    rw [if_neg (by omega)]
  | right w => rfl
  | left w => rfl
  | emp => rfl
  | ltr c => rfl
  | nam c => rfl
theorem stp_neg {t : W} {i : Int} (h : i < 0) : t.stp i = none := by
  cases t with
  | join ws =>
    rw [stpJ]
    rw [if_neg (by omega)]
  | times w n =>
    rw [stpT]
    rw [if_neg (by omega)]
  | right w =>
    rw [stpR]
    rw [if_neg (by omega)]
  | left w =>
    rw [stpL]
    rw [if_neg (by omega)]
  | emp => rfl
  | ltr c => rfl
  | nam c => rfl
/-- no place stands there -/
def Bad (t : W) (ns : List Int) : Prop := ∀ c, t.go ns ≠ some (.ltr c)
theorem bad_of_none {t : W} {ns : List Int} (h : t.go ns = none) : Bad t ns := fun c e => by rw [h] at e; cases e
theorem bad_of {t u : W} {ns : List Int} (h : t.go ns = some u) (n : u.isL = false) : Bad t ns := fun c e => by
  rw [h] at e
  cases e
  cases n
/-- behind the place -/
theorem bad_more {t : W} {ns : List Int} {i : Int} {r : List Int} (v : Vd t ns) : Bad t (ns ++ i :: r) := by
  obtain ⟨c, v⟩ := v
  refine bad_of_none ?_
  rw [go_app_some v]
  exact go_none (by rfl)
theorem bad_at {t u : W} {p r : List Int} {i : Int} (h : t.go p = some u) (n : u.stp i = none) : Bad t (p ++ i :: r) := by
  refine bad_of_none ?_
  rw [go_app_some h]
  exact go_none n
theorem vd_take {t : W} {ns : List Int} (v : Vd t ns) (k : Nat) : ∃ u, t.go (ns.take k) = some u := by
  obtain ⟨c, v⟩ := v
  rw [← List.take_append_drop k ns, go_app] at v
  cases h : t.go (ns.take k) with
  | none => rw [h] at v; cases v
  | some u => exact ⟨u, rfl⟩
theorem vd_take_isL {t u : W} {ns : List Int} {k : Nat} (v : Vd t ns) (h : t.go (ns.take k) = some u) (hk : k < ns.length) : u.isL = false := by
  obtain ⟨c, v⟩ := v
  rw [← List.take_append_drop k ns, go_app_some h] at v
  have e : ns.drop k = ns[k] :: ns.drop (k + 1) := List.drop_eq_getElem_cons hk
  rw [e] at v
  cases u with
  | ltr d => rw [go_none (by rfl)] at v; cases v
  | _ => rfl
theorem W.cnts_zero {M L : List Str} : ∀ {ws : List W} {x : W}, W.Oks M ws → W.cnts L ws = some 0 → x ∈ ws → x.cnt L = some 0
  | w :: r, x, o, e, h => by
    unfold W.Oks at o
    unfold W.cnts at e
    split at e
    · rename_i a b ea eb
      have e' : a + b = 0 := Option.some.inj e
      have h1 := (W.cnt_bd w o.1 ea).1
      have h2 := (W.cnts_bd r o.2 eb).1
      have ha : a = 0 := by omega
      have hb : b = 0 := by omega
      subst ha
      subst hb
      rcases List.mem_cons.mp h with q | q
      · rw [q]
        exact ea
      · exact W.cnts_zero o.2 eb q
    · cases e
theorem W.cnts_zero_of {L : List Str} : ∀ {ws : List W}, (∀ x ∈ ws, x.cnt L = some 0) → W.cnts L ws = some 0
  | [], _ => by rw [W.cnts]
  | w :: r, h => by
    rw [W.cnts, h w (List.mem_cons_self ..), W.cnts_zero_of fun x q => h x (List.mem_cons_of_mem _ q)]
    rfl
/-- an address has a place: the word is not empty -/
theorem vd_cnt {t : W} (o : t.Ok abc) {ns : List Int} : Vd t ns → t.cnt abcABC ≠ some 0 := by
  induction ns generalizing t with
  | nil =>
    rintro ⟨c, v⟩ e
    rw [go_nil] at v
    cases v
    unfold W.Ok at o
    rw [cnt_ltr, if_pos (abc_sub c o)] at e
    cases e
  | cons i r ih =>
    intro v e
    obtain ⟨c, v'⟩ := v
    cases es : t.stp i with
    | none => rw [go_none es] at v'; cases v'
    | some u =>
      rw [go_cons es] at v'
      have ou := (stp_ok o es).1
      have hu := ih ou ⟨c, v'⟩
      cases t with
      | join ws =>
        rw [stpJ] at es
        split at es
        · have m := List.mem_of_getElem? es
          rw [cnt_join] at e
          unfold W.Ok at o
          exact hu (W.cnts_zero o.2 e m)
        · cases es
      | times w n =>
        rw [stpT] at es
        split at es
        · rename_i hh
          cases es
          unfold W.Ok at o
          rw [cnt_times, if_pos (by omega)] at e
          cases eu : u.cnt abcABC with
          | none => rw [eu] at e; cases e
          | some m =>
            rw [eu] at e
            have e2 : m * n = 0 := Option.some.inj e
            rcases Int.mul_eq_zero.mp e2 with z | z
            · rw [z] at eu
              exact hu eu
            · omega
        · cases es
      | right w =>
        rw [stpR] at es
        split at es
        · cases es
          rw [cnt_right, if_neg hu] at e
          cases e
        · cases es
      | left w =>
        rw [stpL] at es
        split at es
        · cases es
          rw [cnt_left, if_neg hu] at e
          cases e
        · cases es
      | emp => cases es
      | ltr c => cases es
      | nam c => cases es
/-! ### how the heap bears them -/
def AdV (K : PySem.W.Frag) (H : Hp) (v : V) (ns : List Int) : Prop := ∃ a, v = .ref a ∧ SqT K H a (ns.map V.int)
theorem AdV.tp {K : PySem.W.Frag} {H H' : Hp} {v : V} {ns : List Int} (t : Tp H H') (h : AdV K H v ns) : AdV K H' v ns := by
  obtain ⟨a, e, s⟩ := h
  exact ⟨a, e, t.sq s⟩
end SW

set_option Elab.async false
set_option linter.all false
set_option maxRecDepth 100000
set_option maxHeartbeats 4000000
namespace SW
open PySem PySem.Spec PyProof.Rows L2
theorem atI_last {xs : List V} {x : V} : atI (xs ++ [x]) (-1) = some x := by
  unfold atI
  have h : ixN (xs ++ [x]).length (-1) = some xs.length := by
    unfold ixN
    rw [if_neg (by decide), List.length_append, if_pos (by show -(((xs.length + 1 : Nat)) : Int) ≤ -1; omega)]
    congr 1
    show ((-1 : Int) + ((xs.length + 1 : Nat) : Int)).toNat = xs.length
    omega
  rw [h]
  show (xs ++ [x])[xs.length]? = some x
  rw [List.getElem?_append_right (Nat.le_refl _), Nat.sub_self]
  rfl
theorem stp_parts {t u : W} {i : Int} (h : t.stp i = some u) : (∃ ws, t = .join ws ∧ 0 ≤ i ∧ ws[i.toNat]? = some u) ∨ (∃ n, t = .times u n) ∨ t = .right u ∨ t = .left u := by
  cases t with
  | join ws =>
    rw [stpJ] at h
    split at h
    · rename_i hh
      exact .inl ⟨ws, rfl, hh.1, h⟩
    · cases h
  | times w n =>
    rw [stpT] at h
    split at h
    · cases h
      exact .inr (.inl ⟨n, rfl⟩)
    · cases h
  | right w =>
    rw [stpR] at h
    split at h
    · cases h
      exact .inr (.inr (.inl rfl))
    · cases h
  | left w =>
    rw [stpL] at h
    split at h
    · cases h
      exact .inr (.inr (.inr rfl))
    · cases h
  | emp => cases h
  | ltr c => cases h
  | nam c => cases h
/-- here[1][number] if here is a join, else here[1] -/
def tStep (K : PySem.W.Frag) (i j : Nat) : TE := tIf (tTest (tOp rEq (tOp (rIxT K) (tVar i) (tC (.int 0))) (tC (.str "join")))) (tOp (rIxT K) (tOp (rIxT K) (tVar i) (tC (.int 1))) (tVar j)) (tOp (rIxT K) (tVar i) (tC (.int 1)))
theorem walk_step {K : PySem.W.Frag} {i j : Nat} {H : Hp} {x : V} {u u2 : W} {k : Int} {σ : L2.St} {Q : VK} (hx : WV K H x u) (h : u.stp k = some u2) (hi : σ[i]? = some (some x)) (hj : σ[j]? = some (some (.int k))) (q : ∀ y, WV K H y u2 → Q y H) : tStep K i j σ H Q := by
  have at_ := hx.at
  rcases stp_parts h with ⟨ws, rfl, h0, h1⟩ | ⟨n, rfl⟩ | rfl | rfl
  · cases at_ with | @join a b xs ws e s s2 hw => ?_
    cases e
    have hk : k.toNat < xs.length := by rw [hw.length]; exact (List.getElem?_eq_some_iff.mp h1).1
    obtain ⟨u3, e3, hu3⟩ := hw.get (List.getElem?_eq_getElem hk)
    rw [h1] at e3
    cases e3
    exact ⟨_, hi, _, _, _, _, rfl, rfl, s, rfl, rfl, eq_yes rfl ⟨_, hi, _, _, _, _, rfl, rfl, s, rfl, _, hj, _, _, _, _, rfl, rfl, s2, at_of (j := k.toNat) (by omega) (List.getElem?_eq_getElem hk), q _ hu3⟩⟩
  · cases at_ with | times e s hw => ?_
    cases e
    exact ⟨_, hi, _, _, _, _, rfl, rfl, s, rfl, rfl, eq_no (by decide +kernel) ⟨_, hi, _, _, _, _, rfl, rfl, s, rfl, q _ hw⟩⟩
  · cases at_ with | right e s hw => ?_
    cases e
    exact ⟨_, hi, _, _, _, _, rfl, rfl, s, rfl, rfl, eq_no (by decide +kernel) ⟨_, hi, _, _, _, _, rfl, rfl, s, rfl, q _ hw⟩⟩
  · cases at_ with | left e s hw => ?_
    cases e
    exact ⟨_, hi, _, _, _, _, rfl, rfl, s, rfl, rfl, eq_no (by decide +kernel) ⟨_, hi, _, _, _, _, rfl, rfl, s, rfl, q _ hw⟩⟩
theorem cat_one {H : Hp} {K : PySem.W.Frag} {a b : Addr} {i : Int} {ns : List Int} {Q : VK} (ha : SqT K H a [.int i]) (hb : SqT K H b (ns.map V.int)) (hl : ns.length ≤ 1000) (q : ∀ p H', SqT K H' p ((i :: ns).map V.int) → Same H H' → Q (.ref p) H') : rCatT K (.ref a) (.ref b) H Q := by
  refine ⟨a, b, [.int i], ns.map V.int, rfl, rfl, ha, hb, by simp, ?_, fun e => ?_, fun _ p hp => ?_⟩
  · rw [List.length_map]
    exact Nat.le_trans (show 1 + ns.length ≤ 2000 by omega) (by decide)
  · cases ns with
    | nil => exact q a H ha (Same.refl H)
    | cons x r => cases e
  · exact q p _ (SqT.of upd_same) (same_new hp)

/-! ### parts of an address -/
theorem sl_pre {K : PySem.W.Frag} {H : Hp} {a : Addr} {ns : List Int} {i : Int} {k : Nat} {Q : VK} (hi : i = (k : Int)) (ha : SqT K H a (ns.map V.int)) (q : ∀ b H', SqT K H' b ((ns.take k).map V.int) → Same H H' → Q (.ref b) H') : rSlA K (.ref a) none (some i) H Q := by
  subst hi
  have e : cutV (ns.map V.int) none (some (k : Int)) = (ns.take k).map V.int := by rw [cut_to, List.map_take]
  refine ⟨a, _, rfl, ha, fun h => q a H ?_ (Same.refl H), fun _ p hp => q p _ (by rw [e]; exact SqT.of upd_same) (same_new hp)⟩
  have h2 := h.2
  rw [HT.sIx_nat, List.length_map] at h2
  rw [List.take_of_length_le (by omega)]
  exact ha
theorem sl_suf0 {K : PySem.W.Frag} {H : Hp} {a : Addr} {ns : List Int} {i : Int} {k : Nat} {Q : VK} (hi : i = (k : Int)) (ha : SqT K H a (ns.map V.int)) (q : ∀ b H', SqT K H' b ((ns.drop k).map V.int) → Same H H' → Q (.ref b) H') : rSlA K (.ref a) (some i) none H Q := by
  subst hi
  have e : cutV (ns.map V.int) (some (k : Int)) none = (ns.drop k).map V.int := by
    unfold cutV
    rw [HT.sIx_nat, HT.sIx_none, List.length_map, List.map_drop]
    by_cases hk : k ≤ ns.length
    · rw [Nat.min_eq_left hk]
      exact List.take_of_length_le (by rw [List.length_drop, List.length_map]; omega)
    · rw [Nat.min_eq_right (by omega), Nat.sub_self, List.take_zero, List.drop_eq_nil_of_le (by rw [List.length_map]; omega)]
  refine ⟨a, _, rfl, ha, fun h => q a H ?_ (Same.refl H), fun _ p hp => q p _ (by rw [e]; exact SqT.of upd_same) (same_new hp)⟩
  have h2 := h.1
  rw [HT.sIx_nat, List.length_map] at h2
  have h3 : ns.drop k = ns := by
    by_cases hk : k = 0
    · rw [hk, List.drop_zero]
    · have : ns.length = 0 := by omega
      rw [List.length_eq_zero_iff.mp this, List.drop_nil]
  rw [h3]
  exact ha
theorem sl_suf {K : PySem.W.Frag} {σ : L2.St} {H : Hp} {a : Addr} {ns : List Int} {i : Int} {k : Nat} {Q : VK} (hi : i = (k : Int)) (ha : SqT K H a (ns.map V.int)) (q : ∀ b H', SqT K H' b ((ns.drop k).map V.int) → Same H H' → Q (.ref b) H') : tNoPart σ H fun u H3 => rSlA K (.ref a) (some i) u H3 Q :=
  sl_suf0 hi ha q
theorem cat_any {K : PySem.W.Frag} {H : Hp} {a b : Addr} {ns ms : List Int} {Q : VK} (ha : SqT K H a (ns.map V.int)) (hb : SqT K H b (ms.map V.int)) (h1 : ns.length ≤ 1000) (h2 : ms.length ≤ 1000)
    (q : ∀ p H', SqT K H' p ((ns ++ ms).map V.int) → Same H H' → Q (.ref p) H') : rCatA K (.ref a) (.ref b) H Q := by
  refine ⟨a, b, ns.map V.int, ms.map V.int, rfl, rfl, ha, hb, ?_, fun e => ?_, fun _ e => ?_, fun _ _ p hp => ?_⟩
  · rw [List.length_map, List.length_map]
    exact Nat.le_trans (show ns.length + ms.length ≤ 2000 by omega) (by decide)
  · cases ns with
    | nil => exact q b H hb (Same.refl H)
    | cons x r => cases e
  · cases ms with
    | nil => exact q a H (by rw [List.append_nil]; exact ha) (Same.refl H)
    | cons x r => cases e
  · exact q p _ (by rw [List.map_append]; exact SqT.of upd_same) (same_new hp)
/-- what is one tuple of one number -/
theorem one_int {K : PySem.W.Frag} {H : Hp} {p : Addr} {i : Int} (h : SqT K H p [.int i]) : SqT K H p (([i] : List Int).map V.int) := h
theorem kp_same {r : Addr} {H H' : Hp} (s : Same H H') : Kp r H H' := fun b o _ h => s _ _ h
theorem Rng.same {H H' : Hp} {r l : Addr} (g : Rng H r l) (s : Same H H') : Rng H' r l := g.of (fun o h => s _ _ h) (fun o h => s _ _ h)
/-! ### comprehensions of one name with a test -/
theorem lcrT {lo : Int} {n j : Nat} {tt : TT} {te : TE} {σ : L2.St} {H1 : Hp} {D : Addr} {Qd : Hp → Prop} (Pv : Nat → Hp → Prop) (h0 : Pv 0 (upd H1 D (.lst [])))
    (hs : ∀ i H, i < n → Pv i H → tt (σ.set j (some (.int (lo + i)))) H fun b H3 => if b = true then te (σ.set j (some (.int (lo + i)))) H3 fun y H4 => ∃ acc, H4 D = some (.lst acc) ∧ acc.length < sizeLine ∧ Pv (i + 1) (upd H4 D (.lst (acc ++ [y]))) else Pv (i + 1) H3)
    (hd : ∀ H, Pv n H → Qd H) :
    ∃ W : Nat → Nat → Hp → Prop, (∃ m, W 0 m (upd H1 D (.lst []))) ∧ ∀ i m H, W i m H →
      ((Itr lo n).stop i H ∧ Qd H) ∨ ((Itr lo n).go i H ∧ ∃ Nx : Hp → Prop, (∀ H', Nx H' → ∃ m', m' < m ∧ W (i + 1) m' H') ∧ ∀ x H', (Itr lo n).yld i H x H' → gName j x (wipe σ [j]) H' fun σ2 H2 => wipe σ2 [j] = wipe σ [j] ∧ tt σ2 H2 fun b H3 =>
        if b = true then te σ2 H3 fun y H4 => ∃ acc, H4 D = some (.lst acc) ∧ acc.length < sizeLine ∧ Nx (upd H4 D (.lst (acc ++ [y]))) else Nx H3) := by
  refine lc_range Pv h0 (fun i H hi p => ?_) hd
  have e1 : wipe σ [j] = σ.set j none := rfl
  have e2 : (wipe σ [j]).set j (some (.int (lo + i))) = σ.set j (some (.int (lo + i))) := by rw [e1, List.set_set]
  unfold gName
  rw [e2]
  refine ⟨?_, hs i H hi p⟩
  show (σ.set j (some (.int (lo + i)))).set j none = σ.set j none
  rw [List.set_set]
theorem toL_zero {o : Option Int} : toL o = 0 ↔ o = some 0 := by
  cases o with
  | none => exact ⟨fun h => absurd h (by show ¬ (-1 : Int) = 0; decide), fun h => nomatch h⟩
  | some m => exact ⟨fun h => congrArg some h, fun h => Option.some.inj h⟩
/-- == 0 of a count -/
theorem eq0 {o : Option Int} {A B : Prop} (a : o = some 0 → A) (b : o ≠ some 0 → B) : ∃ k, V.bl (decide (V.int (toL o) = V.int 0)) = V.bl k ∧ if k = true then A else B := by
  by_cases h : o = some 0
  · exact ⟨true, by rw [h]; rfl, a h⟩
  · refine ⟨false, ?_, b h⟩
    rw [decide_eq_false]
    intro e
    exact h (toL_zero.mp (V.int.inj e))
/-- != 0 of a count -/
theorem ne0 {o : Option Int} {A B : Prop} (a : o ≠ some 0 → A) (b : o = some 0 → B) : ∃ k, V.bl (!decide (V.int (toL o) = V.int 0)) = V.bl k ∧ if k = true then A else B := by
  by_cases h : o = some 0
  · exact ⟨false, by rw [h]; rfl, b h⟩
  · refine ⟨true, ?_, a h⟩
    rw [decide_eq_false]
    · rfl
    · intro e
      exact h (toL_zero.mp (V.int.inj e))
theorem log_big {m : Int} (h0 : 0 ≤ m) (h : m ≤ 1000000000000000000000000000001) : m.natAbs.log2 < 9000 := by
  refine Nat.lt_of_lt_of_le (PySem.Flt.log2_lt_of (k := 110) (by decide) ?_) (by decide)
  have : m.natAbs ≤ 1000000000000000000000000000001 := by omega
  exact Nat.lt_of_le_of_lt this (by decide)
end SW

set_option Elab.async false
set_option linter.all false
set_option maxRecDepth 100000
set_option maxHeartbeats 4000000
namespace SW
open PySem PySem.Spec PyProof.Rows L2
/-! ### range(a, b) of numbers of any size -/
theorem long_turn {P : Program} {w : World} {K : PySem.W.Frag} {tg : Expr} (z : Addr) (a : Int) (k : Nat) : Turn P w K tg (Itr a k) [z] z (fun j hp => IsLongIter hp z (a + (j : Nat) * 1) ((k : Int) - (j : Nat)) 1) where
  mem := List.mem_singleton.mpr rfl
  obj := fun j hp st b hb => by
    obtain rfl := List.mem_singleton.mp hb
    exact ⟨_, st, fun v q => nomatch (show Data.fields _ = Data.cell v from q)⟩
  keep := fun j hp hp' st kp => kp z (List.mem_singleton.mpr rfl) _ st
  self := fun _ _ _ _ _ st q => wpAny_pyIter_longiter st q
  item := by
    intro X hP hw hK calm j pins s σ H E I fps st going
    subst hP hw hK
    obtain ⟨p0, p1, p2, p3, p4, p5⟩ := fps z (List.mem_singleton.mpr rfl)
    have walks := Walks.longrange (prog := X.prog) (w := X.w) (I.ok.hd calm) z a 1 k
    refine walks.item j s _ _ going st (fun v hp' tk hv st' kept => ?_)
    obtain ⟨t, rfl⟩ := hv
    have J : Inv X pins σ H { s with heap := hp', toks := tk } := I.turned (fun b o hb e => kept b o (by simpa using hb) e) p0 p1 p3 p4 p5
    refine ⟨_, rfl, go_of (s := { s with heap := hp', toks := tk }) (n := "longrange_iterator") st' rfl rfl (by decide) ⟨.int (a + j), H, J, ⟨t, ?_⟩, ⟨rfl, rfl⟩, st', fun b hb => (fps b hb).1⟩⟩
    rw [Int.mul_one]
  done := by
    intro X hP hw hK calm j pins s σ H E I fps st over
    subst hP hw hK
    obtain ⟨p0, p1, p2, p3, p4, p5⟩ := fps z (List.mem_singleton.mpr rfl)
    refine wpAny_pyNext_long_end (I.ok.hd calm) st (by have : k ≤ j := over; omega) (fun hp' eb => ⟨rfl, ?_⟩)
    exact I.turned (t' := s.toks) (fun b o hb e => eb b o hb e) p0 p1 p3 p4 p5
section
variable {X : Cx} {tg : Expr}
theorem walk_range {pins : List (Addr × Obj)} {σ : L2.St} {H : Hp} {s : Shared} {R : It → Hp → Prop} {E : Value → Shared → Prop} {a b : Int} {t u v : Tok} {tk : Nat} (I : Inv X pins σ H s) (q : R (Itr a (b - a).toNat) H) :
    wpAny (model X.prog X.w) X.A (pyIter (.ref s.heap.objs.size)) (PIE X pins σ tg R) E { s with heap := s.heap.push { cls := .type "range", data := .fields #[.int a t, .int b u, .int 1 v] }, toks := tk } := by
  have I1 : Inv X pins σ H { s with heap := s.heap.push { cls := .type "range", data := .fields #[.int a t, .int b u, .int 1 v] }, toks := tk } := I.kept fun c o e => Heap.get?_push_of_some _ e
  have e1 : a + ((0 : Nat) : Int) * 1 = a := by simp
  have e2 : (((b - a).toNat : Nat) : Int) - ((0 : Nat) : Int) = Builtin.Range.rangeSize a b 1 := by
    rw [rangeSize_one]
    split <;> omega
  have fps : ∀ c ∈ [(s.heap.push { cls := .type "range", data := .fields #[.int a t, .int b u, .int 1 v] }).objs.size], FpOk X pins H c := fun c hc => by
    obtain rfl := List.mem_singleton.mp hc
    exact I1.fpOk (Nat.le_refl _) (I1.hok.fresh (Nat.le_refl _))
  cases hs : Builtin.Range.small a b 1 with
  | true =>
    refine wpAny_pyIter_range (IsRange.new ..) hs ?_
    refine ⟨(s.heap.push { cls := .type "range", data := .fields #[.int a t, .int b u, .int 1 v] }).objs.size, [(s.heap.push { cls := .type "range", data := .fields #[.int a t, .int b u, .int 1 v] }).objs.size], _, _, H, rfl, I1.kept (t' := tk) (fun c o e => Heap.get?_push_of_some _ e), turn_range _ a (b - a).toNat, ?_, fps, q⟩
    show IsRangeIter _ _ (a + ((0 : Nat) : Int) * 1) ((((b - a).toNat : Nat) : Int) - ((0 : Nat) : Int)) 1
    rw [e1, e2]
    exact Heap.get?_push_size _ rfl
  | false =>
    refine wpAny_pyIter_longrange (IsRange.new ..) hs ?_
    refine ⟨(s.heap.push { cls := .type "range", data := .fields #[.int a t, .int b u, .int 1 v] }).objs.size, [(s.heap.push { cls := .type "range", data := .fields #[.int a t, .int b u, .int 1 v] }).objs.size], _, _, H, rfl, I1.kept (t' := tk) (fun c o e => Heap.get?_push_of_some _ e), long_turn _ a (b - a).toNat, ?_, fps, q⟩
    show IsLongIter _ _ (a + ((0 : Nat) : Int) * 1) ((((b - a).toNat : Nat) : Int) - ((0 : Nat) : Int)) 1
    rw [e1, e2]
    exact Heap.get?_push_size _ rfl
def iRgW (ta : TA) : TI := fun σ H R => ta σ H fun vs H1 => ∃ a b : Int, vs = [.int a, .int b] ∧ R (Itr a (b - a).toNat) H1
theorem pi_rgW {e1 e2 : Expr} {ta : TA} {p pos : Pos} (hg : Gl X "range") (hm : X.mg "range" = none) (ha : PA X [e1, e2] ta) (hs : starEach [e1, e2] X.env = [(false, eval e1 X.env), (false, eval e2 X.env)] := by rfl) (hs2 : starEach [e2] X.env = [(false, eval e2 X.env)] := by rfl) :
    PI X tg (.Call (.Name "range" p) [e1, e2] [] pos) (iRgW ta) := by
  constructor
  intro pins s σ H R I h
  refine Call_ (ld_blt I hg hm boot_range (PyProof.Rows.callWith_type1 (thn (ha.run pos pins s σ H _ I h) fun us s1 got => ?_) (by rw [hs, hs2]) (by rw [hs2]; rfl)))
  obtain ⟨vs, H1, I1, rel, a, b, e, q⟩ := got
  subst e
  match us, rel with
  | [_, _], .cons ⟨t, rfl⟩ (.cons ⟨t', rfl⟩ .nil) => exact call_range_2 (walk_range I1 q)
end
end SW

set_option Elab.async false
set_option linter.all false
set_option maxRecDepth 100000
set_option maxHeartbeats 4000000
namespace SW
open PySem PySem.Spec PyProof.Rows L2
/-! ### max of a tuple of numbers -/
theorem ints_read {h : Heap} : ∀ {ns : List Int} {us : List Value}, Vals (ns.map V.int) us → ReadsAll h us (ns.map PyData.int) []
  | [], _, .nil => .nil
  | n :: r, _, .cons a b => by
    obtain ⟨t, rfl⟩ := a
    exact ReadsAll.cons (as := []) (bs := []) (Reads.int _ _) (ints_read b)
theorem ints_alike (ns : List Int) : PySem.W.AlikeAll (ns.map PyData.int) := by
  refine ⟨fun x hx y hy => ?_, fun x hx => ?_⟩
  · obtain ⟨a, _, rfl⟩ := List.mem_map.mp hx
    obtain ⟨b, _, rfl⟩ := List.mem_map.mp hy
    rfl
  · obtain ⟨a, _, rfl⟩ := List.mem_map.mp hx
    intro e
    cases e
theorem ints_depth (ns : List Int) : PyData.depthAll (ns.map PyData.int) ≤ 1 := by
  induction ns with
  | nil => simp [PyData.depthAll]
  | cons n r ih =>
    rw [List.map_cons]
    unfold PyData.depthAll
    have : PyData.depth (.int n) ≤ 1 := by simp [PyData.depth]
    omega
theorem fold_max (n : Int) (ns : List Int) : ∀ y ∈ n :: ns, y ≤ ns.foldl max n := by
  induction ns generalizing n with
  | nil =>
    intro y hy
    rw [List.mem_singleton.mp hy]
    exact Int.le_refl _
  | cons k r ih =>
    intro y hy
    rw [List.foldl_cons]
    rcases List.mem_cons.mp hy with rfl | hy
    · exact Int.le_trans (Int.le_max_left _ _) (ih (max y k) _ (List.mem_cons_self ..))
    · rcases List.mem_cons.mp hy with rfl | hy
      · exact Int.le_trans (Int.le_max_right _ _) (ih (max n y) _ (List.mem_cons_self ..))
      · exact ih (max n k) y (List.mem_cons_of_mem _ hy)
def rMaxT (K : PySem.W.Frag) : List V → Hp → VK → Prop := fun vs H Q => ∃ (a : Addr) (n : Int) (ns : List Int), vs = [V.ref a] ∧ SqT K H a ((n :: ns).map V.int) ∧ ∀ m, (∀ y ∈ n :: ns, y ≤ m) → Q (.int m) H
theorem cr_maxT {X : Cx} (hc : X.calm = true) (hu : X.A.units + 64 < cLine) : CallR X (.builtin "max") (rMaxT X.K) := by
  intro pins s σ H vs us Q I r h
  obtain ⟨a, n, ns, rfl, hs, q⟩ := h
  obtain ⟨its, rv, hl, _⟩ := I.tuple hs
  rw [Vals.ref1 r]
  have hd := ints_depth (n :: ns)
  refine PySem.W.max_tuple_data (x := .int n) (xs := ns.map PyData.int) (I.ok.hd hc) (show s.heap.IsTuple a its.toArray from hl) (ints_read rv) (ints_alike (n :: ns)) (by have : PyData.depthAll (.int n :: ns.map PyData.int) ≤ 1 := hd; omega) (fun i v h' tk bs _ hr hk => ?_)
  rw [PySem.W.maxD_ints] at hr
  cases hr
  exact ⟨.int _, H, I.kept (t' := tk) hk, ⟨_, rfl⟩, q _ (fold_max n ns)⟩
/-! ### zip of a list and two tuples -/
def Itz3 (K : PySem.W.Frag) (l a b : Addr) : It :=
  ⟨fun i H => ∃ (xs ys zs : List V) (x y z : V), SqL K H l xs ∧ SqT K H a ys ∧ SqT K H b zs ∧ xs[i]? = some x ∧ ys[i]? = some y ∧ zs[i]? = some z,
    fun i H v H' => ∃ T x y z, v = .ref T ∧ H T = none ∧ H' = upd H T (.tup [x, y, z]) ∧ (∀ xs, SqL K H l xs → xs[i]? = some x) ∧ (∀ ys, SqT K H a ys → ys[i]? = some y) ∧ ∀ zs, SqT K H b zs → zs[i]? = some z,
    fun i H => ∃ xs ys zs : List V, SqL K H l xs ∧ SqT K H a ys ∧ SqT K H b zs ∧ i = min (min xs.length ys.length) zs.length⟩
theorem turn_zip3 {P : Program} {w : World} {K : PySem.W.Frag} {elts : List Expr} {kk : Nat} {tpos : Pos} {l a b z TI TO i1 i2 i3 : Addr} (S : ZipSep3 z TI TO i1 i2 i3 [i1, l] [i2, a] [i3, b]) (n1 : l ≠ i1) (n2 : a ≠ i2) (n3 : b ≠ i3) :
    Turn P w K (.Tuple elts kk tpos) (Itz3 K l a b) [z, TI, TO, i1, i2, i3] z
      (fun i h => IsZip h z TI TO .none ∧ IsTupOf3 h TI (.ref i1) (.ref i2) (.ref i3) ∧ (∃ x y u, IsTupOf3 h TO x y u) ∧ h.IsListIter i1 l i ∧ h.IsTupleIter i2 a i ∧ h.IsTupleIter i3 b i) where
  mem := List.mem_cons_self ..
  obj := fun i h st c hc => by
    obtain ⟨hz, hTI, ⟨x, y, u, hTO⟩, ⟨o1, e1, _, d1⟩, ⟨o2, e2, _, d2⟩, ⟨o3, e3, _, d3⟩⟩ := st
    have e' : c = z ∨ c = TI ∨ c = TO ∨ c = i1 ∨ c = i2 ∨ c = i3 := by simpa using hc
    rcases e' with q | q | q | q | q | q
    · rw [q]; exact ⟨_, hz, fun v q => nomatch q⟩
    · rw [q]; exact ⟨_, hTI, fun v q => nomatch q⟩
    · rw [q]; exact ⟨_, hTO, fun v q => nomatch q⟩
    · rw [q]; exact ⟨o1, e1, fun v q => by rw [d1] at q; cases q⟩
    · rw [q]; exact ⟨o2, e2, fun v q => by rw [d2] at q; cases q⟩
    · rw [q]; exact ⟨o3, e3, fun v q => by rw [d3] at q; cases q⟩
  keep := fun i h h' st k => by
    obtain ⟨hz, hTI, ⟨x, y, u, hTO⟩, h1, h2, h3⟩ := st
    exact ⟨k z (by simp) _ hz, k TI (by simp) _ hTI, ⟨x, y, u, k TO (by simp) _ hTO⟩, h1.at fun o q => k i1 (by simp) o q, h2.at fun o q => k i2 (by simp) o q, h3.at fun o q => k i3 (by simp) o q⟩
  self := fun A i s Q E st h => wpAny_pyIter_zip st.1 h
  item := by
    intro X hP hw hK calm i pins s σ H E I fps st going
    subst hP hw hK
    obtain ⟨hz, hTI, hTO, h1, h2, h3⟩ := st
    obtain ⟨xs, ys, zs, x, y, u, hl, ha, hb, hx, hy, hu⟩ := going
    obtain ⟨its1, r1, p1, _⟩ := I.list hl
    obtain ⟨its2, r2, p2, _⟩ := I.tuple ha
    obtain ⟨its3, r3, p3, _⟩ := I.tuple hb
    obtain ⟨v1, hv1, q1⟩ := r1.get hx
    obtain ⟨v2, hv2, q2⟩ := r2.get hy
    obtain ⟨v3, hv3, q3⟩ := r3.get hu
    have hd : X.A.in1.handled = none := I.ok.hd calm
    have W := WalksT.zipD3 (A := X.A) S (Draws.list (prog := X.prog) (w := X.w) hd i1 l n1 its1.toArray) (Draws.tuple hd i2 a n2 its2.toArray) (Draws.tuple hd i3 b n3 its3.toArray)
    have L1 : i < its1.toArray.size := by rw [List.size_toArray]; exact (List.getElem?_eq_some_iff.mp hv1).1
    have L2 : i < its2.toArray.size := by rw [List.size_toArray]; exact (List.getElem?_eq_some_iff.mp hv2).1
    have L3 : i < its3.toArray.size := by rw [List.size_toArray]; exact (List.getElem?_eq_some_iff.mp hv3).1
    refine W.item i s _ _ (by omega) ⟨hz, hTI, hTO, ⟨h1, p1.isList⟩, ⟨h2, show s.heap.IsTuple a its2.toArray from p2⟩, ⟨h3, show s.heap.IsTuple b its3.toArray from p3⟩⟩ (fun T vals h' tk hvals hT hTup mid kept => ?_)
    obtain ⟨w1, w2, w3, e1, e2, e3, rfl⟩ := hvals
    have a1 : w1 = v1 := by
      have : its1[i]? = some w1 := by simpa using e1
      rw [hv1] at this
      exact (Option.some.inj this).symm
    have a2 : w2 = v2 := by
      have : its2[i]? = some w2 := by simpa using e2
      rw [hv2] at this
      exact (Option.some.inj this).symm
    have a3 : w3 = v3 := by
      have : its3[i]? = some w3 := by simpa using e3
      rw [hv3] at this
      exact (Option.some.inj this).symm
    subst a1 a2 a3
    have apart := W.apart i T h' mid
    refine ⟨_, rfl, W.go elts kk tpos i T { s with heap := h', toks := tk } _ _ mid (fun h'' st' kept2 => ?_)⟩
    have hTup2 : h''.IsTuple T #[w1, w2, w3] := hTup.at fun o q => kept2 T o apart q
    have new : ObjOk X.prog X.w (upd H T (.tup [x, y, u])) h'' T (.tup [x, y, u]) := ⟨by show 3 ≤ sizeLine; decide, [w1, w2, w3], .cons q1 (.cons q2 (.cons q3 .nil)), hTup2⟩
    have sub : ∀ c ∈ [z, TO, i1, i2, i3], FpOk X pins H c := fun c hc => fps c (by
      have e' : c = z ∨ c = TO ∨ c = i1 ∨ c = i2 ∨ c = i3 := by simpa using hc
      rcases e' with q | q | q | q | q <;> rw [q] <;> simp)
    have J : Inv X pins σ (upd H T (.tup [x, y, u])) { s with heap := h'', toks := tk } :=
      I.turnedNew (t' := tk) (ch := [z, TO, i1, i2, i3]) (fun c o hc q => kept2 c o hc (kept c o hc q)) sub hT new
    obtain ⟨gz, gTI, gTO, g1, g2, g3⟩ := st'
    refine ⟨.ref T, _, J, rfl, ⟨T, x, y, u, rfl, I.hok.fresh hT, rfl, fun l' hl' => by rw [I.list_inj hl' hl]; exact hx, fun l' hl' => by rw [I.tuple_inj hl' ha]; exact hy, fun l' hl' => by rw [I.tuple_inj hl' hb]; exact hu⟩, ⟨gz, gTI, gTO, g1.1, g2.1, g3.1⟩, fun c hc => ?_⟩
    have hcl : c < s.heap.objs.size := by
      have e' : c = z ∨ c = TI ∨ c = TO ∨ c = i1 ∨ c = i2 ∨ c = i3 := by simpa using hc
      obtain ⟨x0, y0, u0, hTO⟩ := hTO
      rcases e' with q | q | q | q | q | q
      · rw [q]; exact Heap.lt_size hz
      · rw [q]; exact Heap.lt_size hTI
      · rw [q]; exact Heap.lt_size hTO
      · rw [q]; obtain ⟨_, e1, _⟩ := h1; exact Heap.lt_size e1
      · rw [q]; obtain ⟨_, e1, _⟩ := h2; exact Heap.lt_size e1
      · rw [q]; obtain ⟨_, e1, _⟩ := h3; exact Heap.lt_size e1
    rw [upd_ne (Nat.ne_of_lt (Nat.lt_of_lt_of_le hcl hT))]
    exact (fps c hc).1
  done := by
    intro X hP hw hK calm i pins s σ H E I fps st over
    subst hP hw hK
    obtain ⟨hz, hTI, hTO, h1, h2, h3⟩ := st
    obtain ⟨xs, ys, zs, hl, ha, hb, hi⟩ := over
    obtain ⟨its1, r1, p1, _⟩ := I.list hl
    obtain ⟨its2, r2, p2, _⟩ := I.tuple ha
    obtain ⟨its3, r3, p3, _⟩ := I.tuple hb
    have hd : X.A.in1.handled = none := I.ok.hd calm
    have W := WalksT.zipD3 (A := X.A) S (Draws.list (prog := X.prog) (w := X.w) hd i1 l n1 its1.toArray) (Draws.tuple hd i2 a n2 its2.toArray) (Draws.tuple hd i3 b n3 its3.toArray)
    have e : i = min (min its1.toArray.size its2.toArray.size) its3.toArray.size := by
      rw [List.size_toArray, List.size_toArray, List.size_toArray, ← r1.length, ← r2.length, ← r3.length]
      exact hi
    have sub : ∀ c ∈ [z, TO, i1, i2, i3], FpOk X pins H c := fun c hc => fps c (by
      have e' : c = z ∨ c = TO ∨ c = i1 ∨ c = i2 ∨ c = i3 := by simpa using hc
      rcases e' with q | q | q | q | q <;> rw [q] <;> simp)
    subst e
    exact W.done s _ _ ⟨hz, hTI, hTO, ⟨h1, p1.isList⟩, ⟨h2, show s.heap.IsTuple a its2.toArray from p2⟩, ⟨h3, show s.heap.IsTuple b its3.toArray from p3⟩⟩ (fun h' tk kept => ⟨rfl, I.turnedL (t' := tk) (ch := [z, TO, i1, i2, i3]) (fun c o hc q => kept c o hc q) sub⟩)
def iZip3 (K : PySem.W.Frag) (ta : TA) : TI := fun σ H R => ta σ H fun vs H1 => ∃ l a b xs ys zs, vs = [.ref l, .ref a, .ref b] ∧ SqL K H1 l xs ∧ SqT K H1 a ys ∧ SqT K H1 b zs ∧ R (Itz3 K l a b) H1
theorem pi_zip3 {X : Cx} {e1 e2 e3 : Expr} {ta : TA} {p pos tpos : Pos} {elts : List Expr} {kk : Nat} (hg : Gl X "zip") (hm : X.mg "zip" = none) (ha : PA X [e1, e2, e3] ta)
    (hs : starEach [e1, e2, e3] X.env = (false, eval e1 X.env) :: starEach [e2, e3] X.env := by rfl) (hpl : (backTo pos (starEach [e2, e3] X.env)).any (·.1) = false := by rfl) :
    PI X (.Tuple elts kk tpos) (.Call (.Name "zip" p) [e1, e2, e3] [] pos) (iZip3 X.K ta) := by
  constructor
  intro pins s σ H R I h
  refine Call_ (ld_blt I hg hm PyProof.Rows.boot_zip (PyProof.Rows.callWith_type1 (thn (ha.run pos pins s σ H _ I h) fun us s1 got => ?_) hs hpl))
  obtain ⟨vs, H1, I1, rel, l, a, b, xs, ys, zs, rfl, hl, ht, ht2, q⟩ := got
  match us, rel with
  | [_, _, _], .cons e1 (.cons e2 (.cons e3 .nil)) =>
    cases e1
    cases e2
    cases e3
    obtain ⟨its1, r1, p1, _⟩ := I1.list hl
    obtain ⟨its2, r2, p2, _⟩ := I1.tuple ht
    obtain ⟨its3, r3, p3, _⟩ := I1.tuple ht2
    have p2' : s1.heap.IsTuple a its2.toArray := p2
    have p3' : s1.heap.IsTuple b its3.toArray := p3
    have ll : l < s1.heap.objs.size := by obtain ⟨o, ho, _⟩ := p1.isList; exact Heap.lt_size ho
    have la : a < s1.heap.objs.size := by obtain ⟨o, ho, _⟩ := p2'; exact Heap.lt_size ho
    have lb : b < s1.heap.objs.size := by obtain ⟨o, ho, _⟩ := p3'; exact Heap.lt_size ho
    refine zip_begins3 (begins_list l its1.toArray) (begins_tuple a its2.toArray) (begins_tuple b its3.toArray) p1.isList p2' p3' (fun h' hz hTI hTO g1 g2 g3 hsz hk => wpAny_pyIter_zip hz ?_)
    have I2 : Inv X pins σ H1 { s1 with heap := h' } := I1.kept (t' := s1.toks) hk
    have S := zip_sep3 (N := s1.heap.objs.size) (fp1 := [l]) (fp2 := [a]) (fp3 := [b]) (fun c hc => by rw [List.mem_singleton.mp hc]; exact ll) (fun c hc => by rw [List.mem_singleton.mp hc]; exact la) (fun c hc => by rw [List.mem_singleton.mp hc]; exact lb)
    refine ⟨s1.heap.objs.size + 5, [s1.heap.objs.size + 5, s1.heap.objs.size + 3, s1.heap.objs.size + 4, s1.heap.objs.size, s1.heap.objs.size + 1, s1.heap.objs.size + 2], _, _, H1, rfl, I2,
      turn_zip3 S (Nat.ne_of_lt ll) (Nat.ne_of_lt (Nat.lt_succ_of_lt la)) (Nat.ne_of_lt (Nat.lt_succ_of_lt (Nat.lt_succ_of_lt lb))), ⟨hz, hTI, ⟨_, _, _, hTO⟩, ⟨_, g1, rfl, rfl⟩, ⟨_, g2, rfl, rfl⟩, ⟨_, g3, rfl, rfl⟩⟩, fun c hc => ?_, q⟩
    have hle : s1.heap.objs.size ≤ c := by
      have e' : c = s1.heap.objs.size + 5 ∨ c = s1.heap.objs.size + 3 ∨ c = s1.heap.objs.size + 4 ∨ c = s1.heap.objs.size ∨ c = s1.heap.objs.size + 1 ∨ c = s1.heap.objs.size + 2 := by simpa using hc
      rcases e' with q | q | q | q | q | q <;> rw [q]
      · exact Nat.le_add_right _ _
      · exact Nat.le_add_right _ _
      · exact Nat.le_add_right _ _
      · exact Nat.le_refl _
      · exact Nat.le_add_right _ _
      · exact Nat.le_add_right _ _
    exact I1.fpOk hle (I1.hok.fresh hle)
/-- a loop over it -/
theorem for_zip3 {K : PySem.W.Frag} {l a b : Addr} {xs ys zs : List V} {g : TG} {tb : TS} {D : Ends} {σ : L2.St} {H : Hp} {n : Nat} (hn : n = min (min xs.length ys.length) zs.length) (Pv : Nat → L2.St → Hp → Prop) (h0 : Pv 0 σ H) (hq : ∀ i σ H, Pv i σ H → SqL K H l xs ∧ SqT K H a ys ∧ SqT K H b zs)
    (hs : ∀ (i : Nat) (x y u : V) (T : Addr) (σ : L2.St) (H : Hp), xs[i]? = some x → ys[i]? = some y → zs[i]? = some u → Pv i σ H → H T = none → g (.ref T) σ (upd H T (.tup [x, y, u])) fun σ2 H2 => tb { D with nx := Pv (i + 1), ct := Pv (i + 1), bk := D.nx } σ2 H2) (hd : ∀ σ H, Pv n σ H → D.nx σ H) :
    ∃ W : Nat → Nat → L2.St → Hp → Prop, (∃ m, W 0 m σ H) ∧ ∀ i m σ H, W i m σ H →
      ((Itz3 K l a b).stop i H ∧ D.nx σ H) ∨ ((Itz3 K l a b).go i H ∧ ∃ N : L2.St → Hp → Prop, (∀ σ' H', N σ' H' → ∃ m', m' < m ∧ W (i + 1) m' σ' H') ∧ ∀ v H', (Itz3 K l a b).yld i H v H' → g v σ H' fun σ2 H2 => tb { D with nx := N, ct := N, bk := D.nx } σ2 H2) := by
  refine ⟨fun i m σ H => m = n - i ∧ i ≤ n ∧ Pv i σ H, ⟨n, rfl, Nat.zero_le _, h0⟩, ?_⟩
  rintro i m σ H ⟨rfl, hi, p⟩
  obtain ⟨qx, qy, qz⟩ := hq i σ H p
  by_cases hlt : i < n
  · have h1 : xs[i]? = some xs[i] := List.getElem?_eq_getElem (by omega)
    have h2 : ys[i]? = some ys[i] := List.getElem?_eq_getElem (by omega)
    have h3 : zs[i]? = some zs[i] := List.getElem?_eq_getElem (by omega)
    refine .inr ⟨⟨xs, ys, zs, _, _, _, qx, qy, qz, h1, h2, h3⟩, Pv (i + 1), fun σ' H' p' => ⟨n - (i + 1), by omega, rfl, hlt, p'⟩, fun v H' y => ?_⟩
    obtain ⟨T, x', y', u', rfl, hT, rfl, f1, f2, f3⟩ := y
    exact hs i x' y' u' T σ H (f1 xs qx) (f2 ys qy) (f3 zs qz) p hT
  · have e : i = n := by omega
    subst e
    exact .inl ⟨⟨xs, ys, zs, qx, qy, qz, hn⟩, hd σ H p⟩
/-- a loop over zip of two tuples of any lengths -/
theorem for_zipTm {K : PySem.W.Frag} {a b : Addr} {xs ys : List V} {g : TG} {tb : TS} {D : Ends} {σ : L2.St} {H : Hp} {n : Nat} (hn : n = min xs.length ys.length) (Pv : Nat → L2.St → Hp → Prop) (h0 : Pv 0 σ H) (hq : ∀ i σ H, Pv i σ H → SqT K H a xs ∧ SqT K H b ys)
    (hs : ∀ (i : Nat) (x y : V) (T : Addr) (σ : L2.St) (H : Hp), xs[i]? = some x → ys[i]? = some y → Pv i σ H → H T = none → g (.ref T) σ (upd H T (.tup [x, y])) fun σ2 H2 => tb { D with nx := Pv (i + 1), ct := Pv (i + 1), bk := D.nx } σ2 H2) (hd : ∀ σ H, Pv n σ H → D.nx σ H) :
    ∃ W : Nat → Nat → L2.St → Hp → Prop, (∃ m, W 0 m σ H) ∧ ∀ i m σ H, W i m σ H →
      ((RZ.ItzT K a b).stop i H ∧ D.nx σ H) ∨ ((RZ.ItzT K a b).go i H ∧ ∃ N : L2.St → Hp → Prop, (∀ σ' H', N σ' H' → ∃ m', m' < m ∧ W (i + 1) m' σ' H') ∧ ∀ v H', (RZ.ItzT K a b).yld i H v H' → g v σ H' fun σ2 H2 => tb { D with nx := N, ct := N, bk := D.nx } σ2 H2) := by
  refine ⟨fun i m σ H => m = n - i ∧ i ≤ n ∧ Pv i σ H, ⟨n, rfl, Nat.zero_le _, h0⟩, ?_⟩
  rintro i m σ H ⟨rfl, hi, p⟩
  obtain ⟨qx, qy⟩ := hq i σ H p
  by_cases hlt : i < n
  · have h1 : xs[i]? = some xs[i] := List.getElem?_eq_getElem (by omega)
    have h2 : ys[i]? = some ys[i] := List.getElem?_eq_getElem (by omega)
    refine .inr ⟨⟨xs, ys, _, _, qx, qy, h1, h2⟩, Pv (i + 1), fun σ' H' p' => ⟨n - (i + 1), by omega, rfl, hlt, p'⟩, fun v H' y => ?_⟩
    obtain ⟨T, x', y', rfl, hT, rfl, f1, f2⟩ := y
    exact hs i x' y' T σ H (f1 xs qx) (f2 ys qy) p hT
  · have e : i = n := by omega
    subst e
    exact .inl ⟨⟨xs, ys, qx, qy, by omega⟩, hd σ H p⟩
end SW

set_option Elab.async false
set_option linter.all false
set_option maxRecDepth 100000
set_option maxHeartbeats 4000000
/-! ### enumerate(tuple) -/
namespace PySem
open Sem (wp)
set_option maxHeartbeats 1000000 in
theorem sw_enum_new1 {v : Value} {o : Obj} {H : Heap → Prop} (B : Begins v o H) :
    Meets (Builtin.«enumerate.__new__» ⟨[.type "enumerate", v], []⟩) (fun _ R s => H s.heap ∧
      R (.ok (.ret (.ref (s.heap.push o).objs.size))) { s with heap := (s.heap.push o).push { cls := .type "enumerate", data := .fields #[.none, .bool false, .ref s.heap.objs.size, rawInt 0, .none, .none] } }) :=
  .of_wp fun prog w A R s h => by
    obtain ⟨hp, g, d, tk, os⟩ := s; obtain ⟨h1, h⟩ := h
    have hsub := sub_enumerate
    have q1 : ∀ {A' : Around} {E : Value → Shared → Prop} {Q : Value → Shared → Prop}, Q (.ref hp.objs.size) ⟨hp.push o, g, d, tk, os⟩ → wpAny (model prog w) A' (pyIter v) Q E ⟨hp, g, d, tk, os⟩ :=
      fun q => B.iter prog w _ _ ⟨hp, g, d, tk, os⟩ _ h1 q
    wp_walk using q1
    refine wpAny_stack_any fun st => wpAny_pure ?_
    split
    · rename_i c _ _ _ _ _
      cases (c == Value.type "enumerate")
      · wp_walk using q1
        exact ⟨_, rfl, h⟩
      · wp_walk using q1
        exact ⟨_, rfl, h⟩
    · wp_walk using q1
      exact ⟨_, rfl, h⟩
section
variable {prog : Program} {w : World} {A : Around} {E : Value → Shared → Prop} {s : Shared}
theorem sw_enum_begins1 {v : Value} {o : Obj} {H : Heap → Prop} {Q : Value → Shared → Prop} (B : Begins v o H) (h1 : H s.heap)
    (h : ∀ h', IsEnum h' (s.heap.objs.size + 1) s.heap.objs.size 0 .none → h'.get? s.heap.objs.size = some o → h'.objs.size = s.heap.objs.size + 2 →
      (∀ b o, s.heap.get? b = some o → h'.get? b = some o) → Q (.ref (s.heap.objs.size + 1)) { s with heap := h' }) :
    wpAny (model prog w) A (call (.type "enumerate") [v]) Q E s := by
  refine callType_new F.called_enumerate (by decide) (F.typeCall_enumerate_1 _) (F.newCall_enumerate_1 _) (fun obj => F.args_object_init_2 obj _) F.entry_enumerate_new
    (sw_enum_new1 B) ⟨h1, ?_⟩
  have hz : (s.heap.push o).objs.size = s.heap.objs.size + 1 := Heap.size_push ..
  show _ ∧ _
  rw [hz]
  have he : IsEnum ((s.heap.push o).push { cls := .type "enumerate", data := .fields #[.none, .bool false, .ref s.heap.objs.size, rawInt 0, .none, .none] }) (s.heap.objs.size + 1) s.heap.objs.size 0 .none := by
    have := Heap.get?_push_size (s.heap.push o) (o := { cls := .type "enumerate", data := .fields #[.none, .bool false, .ref s.heap.objs.size, rawInt 0, .none, .none] }) rfl
    rw [hz] at this; exact this
  refine ⟨⟨_, he, rfl⟩, h _ he (Heap.get?_push_of_some _ (Heap.get?_push_size _ B.free)) (by rw [Heap.size_push, hz]) fun b o x => Heap.get?_push_of_some _ (Heap.get?_push_of_some _ x)⟩
end
end PySem
namespace SW
open PySem PySem.Spec PyProof.Rows L2
def Itet (K : PySem.W.Frag) (a : Addr) : It :=
  ⟨fun i H => ∃ (ys : List V) (y : V), SqT K H a ys ∧ ys[i]? = some y,
    fun i H v H' => ∃ T y, v = .ref T ∧ H T = none ∧ H' = upd H T (.tup [.int (i : Nat), y]) ∧ (∀ ys, SqT K H a ys → ys[i]? = some y),
    fun i H => ∃ ys : List V, SqT K H a ys ∧ i = ys.length⟩
theorem turn_enumT {P : Program} {w : World} {K : PySem.W.Frag} {elts : List Expr} {kk : Nat} {tpos : Pos} {a e it : Addr} (n1 : a ≠ it) (n2 : e ≠ it) (n3 : e ≠ a) :
    Turn P w K (.Tuple elts kk tpos) (Itet K a) [e, it] e (fun i h => (∃ old, IsEnum h e it (0 + ((i : Nat) : Int)) old) ∧ h.IsTupleIter it a i) where
  mem := List.mem_cons_self ..
  obj := fun i h st b hb => by
    obtain ⟨⟨old, he⟩, ⟨o, ho, hc, hd⟩⟩ := st
    have e' : b = e ∨ b = it := by simpa using hb
    rcases e' with z | z
    · rw [z]; exact ⟨_, he, fun v q => nomatch q⟩
    · rw [z]; exact ⟨o, ho, fun v q => by rw [hd] at q; cases q⟩
  keep := fun i h h' st k => let ⟨⟨old, he⟩, hi⟩ := st; ⟨⟨old, k e (by simp) _ he⟩, hi.at fun o q => k it (by simp) o q⟩
  self := fun A i s Q E st h => let ⟨⟨_, he⟩, _⟩ := st; wpAny_pyIter_enum he h
  item := by
    intro X hP hw hK calm i pins s σ H E I fps st going
    subst hP hw hK
    obtain ⟨he, h2⟩ := st
    obtain ⟨ys, y, ha, hy⟩ := going
    obtain ⟨its2, r2, p2, _⟩ := I.tuple ha
    obtain ⟨v2, hv2, q2⟩ := r2.get hy
    have hd : X.A.in1.handled = none := I.ok.hd calm
    have W := WalksT.enumFrom (A := X.A) 0 (Draws.tuple (prog := X.prog) (w := X.w) hd it a n1 its2.toArray) e n2 (by simp [n2, n3]) (by simp)
    have L2 : i < its2.toArray.size := by rw [List.size_toArray]; exact (List.getElem?_eq_some_iff.mp hv2).1
    refine W.item i s _ _ L2 ⟨he, ⟨h2, show s.heap.IsTuple a its2.toArray from p2⟩⟩ (fun T vals h' tk hvals hT hTup mid kept => ?_)
    obtain ⟨t, w2, e2, rfl⟩ := hvals
    have a2 : w2 = v2 := by
      have : its2[i]? = some w2 := by simpa using e2
      rw [hv2] at this
      exact (Option.some.inj this).symm
    subst a2
    have apart := W.apart i T h' mid
    refine ⟨_, rfl, W.go elts kk tpos i T { s with heap := h', toks := tk } _ _ mid (fun h'' st' kept2 => ?_)⟩
    have e0 : (0 : Int) + (i : Int) = ((i : Nat) : Int) := Int.zero_add _
    rw [e0] at hTup
    have hTup2 : h''.IsTuple T #[.int ((i : Nat) : Int) t, w2] := hTup.at fun o q => kept2 T o apart q
    have new : ObjOk X.prog X.w (upd H T (.tup [.int (i : Nat), y])) h'' T (.tup [.int (i : Nat), y]) := ⟨by show 2 ≤ sizeLine; decide, [.int ((i : Nat) : Int) t, w2], .cons ⟨_, rfl⟩ (.cons q2 .nil), hTup2⟩
    have sub : ∀ c ∈ [e, it], FpOk X pins H c := fps
    have J : Inv X pins σ (upd H T (.tup [.int (i : Nat), y])) { s with heap := h'', toks := tk } :=
      I.turnedNew (t' := tk) (ch := [e, it]) (fun c o hc q => kept2 c o hc (kept c o hc q)) sub hT new
    obtain ⟨ge, g2⟩ := st'
    refine ⟨.ref T, _, J, rfl, ⟨T, y, rfl, I.hok.fresh hT, rfl, fun l' hl' => by rw [I.tuple_inj hl' ha]; exact hy⟩, ⟨ge, g2.1⟩, fun c hc => ?_⟩
    have hcl : c < s.heap.objs.size := by
      have e' : c = e ∨ c = it := by simpa using hc
      obtain ⟨old, he'⟩ := he
      rcases e' with q | q
      · rw [q]; exact Heap.lt_size he'
      · rw [q]; obtain ⟨_, e1, _⟩ := h2; exact Heap.lt_size e1
    rw [upd_ne (Nat.ne_of_lt (Nat.lt_of_lt_of_le hcl hT))]
    exact (fps c hc).1
  done := by
    intro X hP hw hK calm i pins s σ H E I fps st over
    subst hP hw hK
    obtain ⟨he, h2⟩ := st
    obtain ⟨ys, ha, hi⟩ := over
    obtain ⟨its2, r2, p2, _⟩ := I.tuple ha
    have hd : X.A.in1.handled = none := I.ok.hd calm
    have W := WalksT.enumFrom (A := X.A) 0 (Draws.tuple (prog := X.prog) (w := X.w) hd it a n1 its2.toArray) e n2 (by simp [n2, n3]) (by simp)
    have e' : i = its2.toArray.size := by
      rw [List.size_toArray, ← r2.length]
      exact hi
    subst e'
    exact W.done s _ _ ⟨he, ⟨h2, show s.heap.IsTuple a its2.toArray from p2⟩⟩ (fun h' tk kept => ⟨rfl, I.turnedL (t' := tk) (ch := [e, it]) (fun c o hc q => kept c o hc q) fps⟩)
def iEnumT (K : PySem.W.Frag) (ta : TA) : TI := fun σ H R => ta σ H fun vs H1 => ∃ a ys, vs = [.ref a] ∧ SqT K H1 a ys ∧ R (Itet K a) H1
theorem pi_enumT {X : Cx} {e : Expr} {ta : TA} {p pos tpos : Pos} {elts : List Expr} {kk : Nat} (hg : Gl X "enumerate") (hm : X.mg "enumerate" = none) (ha : PA X [e] ta) (hs : starEach [e] X.env = [(false, eval e X.env)] := by rfl) :
    PI X (.Tuple elts kk tpos) (.Call (.Name "enumerate" p) [e] [] pos) (iEnumT X.K ta) := by
  refine ⟨fun pins s σ H R I h => ?_⟩
  refine Call_ (ld_blt I hg hm boot_enumerate (PyProof.Rows.callWith_type1 (thn (ha.run pos pins s σ H _ I h) fun us s1 ⟨vs, H1, I1, r1, q1⟩ => ?_) hs rfl))
  obtain ⟨a, xs, ex, hq, q⟩ := q1
  subst ex
  cases r1 with
  | cons r rr =>
    cases rr
    cases r
    obtain ⟨its2, r2, p2, _⟩ := I1.tuple hq
    have p2' : s1.heap.IsTuple a its2.toArray := p2
    have la : a < s1.heap.objs.size := by obtain ⟨o, ho, _⟩ := p2'; exact Heap.lt_size ho
    refine sw_enum_begins1 (begins_tuple a its2.toArray) p2' fun h' he hit hsz hk => wpAny_pyIter_enum he ?_
    have I2 : Inv X pins σ H1 { s1 with heap := h' } := I1.kept (t' := s1.toks) hk
    refine ⟨s1.heap.objs.size + 1, [s1.heap.objs.size + 1, s1.heap.objs.size], _, _, H1, rfl, I2, turn_enumT (a := a) (Nat.ne_of_lt la) (Nat.succ_ne_self _) (Nat.ne_of_gt (Nat.lt_succ_of_lt la)), ⟨⟨.none, he⟩, ⟨_, hit, rfl, rfl⟩⟩, fun b hb => ?_, q⟩
    have e' : b = s1.heap.objs.size + 1 ∨ b = s1.heap.objs.size := by simpa using hb
    have hle : s1.heap.objs.size ≤ b := by
      rcases e' with z | z
      · rw [z]; exact Nat.le_add_right _ _
      · rw [z]; exact Nat.le_refl _
    exact I1.fpOk hle (I1.hok.fresh hle)
theorem for_enumT {K : PySem.W.Frag} {a : Addr} {ys : List V} {g : TG} {tb : TS} {D : Ends} {σ : L2.St} {H : Hp} (Pv : Nat → L2.St → Hp → Prop) (h0 : Pv 0 σ H) (hq : ∀ i σ H, Pv i σ H → SqT K H a ys)
    (hs : ∀ (i : Nat) (y : V) (T : Addr) (σ : L2.St) (H : Hp), ys[i]? = some y → Pv i σ H → H T = none → g (.ref T) σ (upd H T (.tup [.int (i : Nat), y])) fun σ2 H2 => tb { D with nx := Pv (i + 1), ct := Pv (i + 1), bk := D.nx } σ2 H2) (hd : ∀ σ H, Pv ys.length σ H → D.nx σ H) :
    ∃ W : Nat → Nat → L2.St → Hp → Prop, (∃ m, W 0 m σ H) ∧ ∀ i m σ H, W i m σ H →
      ((Itet K a).stop i H ∧ D.nx σ H) ∨ ((Itet K a).go i H ∧ ∃ N : L2.St → Hp → Prop, (∀ σ' H', N σ' H' → ∃ m', m' < m ∧ W (i + 1) m' σ' H') ∧ ∀ v H', (Itet K a).yld i H v H' → g v σ H' fun σ2 H2 => tb { D with nx := N, ct := N, bk := D.nx } σ2 H2) := by
  refine ⟨fun i m σ H => m = ys.length - i ∧ i ≤ ys.length ∧ Pv i σ H, ⟨ys.length, rfl, Nat.zero_le _, h0⟩, ?_⟩
  rintro i m σ H ⟨rfl, hi, p⟩
  have qy := hq i σ H p
  by_cases hlt : i < ys.length
  · have h2 : ys[i]? = some ys[i] := List.getElem?_eq_getElem hlt
    refine .inr ⟨⟨ys, _, qy, h2⟩, Pv (i + 1), fun σ' H' p' => ⟨ys.length - (i + 1), by omega, rfl, hlt, p'⟩, fun v H' y => ?_⟩
    obtain ⟨T, y', rfl, hT, rfl, f2⟩ := y
    exact hs i y' T σ H (f2 ys qy) p hT
  · have e : i = ys.length := by omega
    subst e
    exact .inl ⟨⟨ys, qy, rfl⟩, hd σ H p⟩
end SW

set_option Elab.async false
set_option linter.all false
set_option maxRecDepth 100000
set_option maxHeartbeats 4000000
/-! ### list(enumerate(tuple)): the pairs stay in the list -/
namespace PySem.W
open PySem PySem.Calls PyProof.Rows PyProof.V PySem.Spec
theorem en_nolen : typeLookup (.type "enumerate") "__len__" = pure none := by rw [typeLookup_type, builtinLookup_eq_fast]; kernel_rfl
theorem en_nohint : typeLookup (.type "enumerate") "__length_hint__" = pure none := by rw [typeLookup_type, builtinLookup_eq_fast]; kernel_rfl
section
variable {prog : Program} {w : World} {A : Around} {E : Value → Shared → Prop} {s : Shared}
theorem en_next_held {e it T : Addr} {fp : List Addr} {n i : Nat} {c : Int} {P : Nat → Value → Prop} {St : Nat → Heap → Prop} {old : Value} {f : Bool} {oT : Obj} {Q : Value → Shared → Prop}
    (D : Draws prog w A it fp n P St) (he : IsEnumHeld s.heap e it c old T f) (hT : s.heap.get? T = some oT) (hTe : T ≠ e) (hTi : T ≠ it) (hst : St i s.heap) (hlt : i < n) (hne : e ≠ it) (hef : e ∉ fp)
    (hQ : ∀ x h' tk, P i x → IsEnumHeld h' e it (c + 1) old T true → St (i + 1) h' →
      h'.get? s.heap.objs.size = some { cls := .type "tuple", data := .seq #[.int c tk, x] } → h'.objs.size = s.heap.objs.size + 1 →
      (∀ b o, b ≠ e → b ≠ it → s.heap.get? b = some o → h'.get? b = some o) → Q (.ref s.heap.objs.size) { s with heap := h', toks := tk + 1 }) :
    wpAny (model prog w) A (Builtin.«enumerate.__next__» ⟨[.ref e], []⟩) (fun fin s' => ∃ v, fin = .done (.ret v) ∧ Q v s') E s := by
  obtain ⟨hp, g, d, tk₀, os⟩ := s
  show wpAny _ _ (field (.ref e) 2 >>= _) _ _ _
  refine wpAny_bind (wpAny_field he rfl (x := .ref it) rfl ?_)
  refine wpAny_bind (D.item i _ _ _ hlt hst fun x h₁ tk hPx hit₁ hs₁ => ?_)
  replace hs₁ : Heap.SameBut it hp h₁ := hs₁
  have he₁ : IsEnumHeld h₁ e it c old T f := (hs₁.2 e hne).trans he
  show wpAny _ _ (field (.ref e) 3 >>= _) _ _ ⟨h₁, g, d, tk, os⟩
  refine wpAny_bind (wpAny_field he₁ rfl (x := rawInt c) rfl ?_)
  show wpAny _ _ (field (.ref e) 4 >>= _) _ _ ⟨h₁, g, d, tk, os⟩
  refine wpAny_bind (wpAny_field he₁ rfl (x := .none) rfl ?_)
  show wpAny _ _ (mkInt c >>= _) _ _ ⟨h₁, g, d, tk, os⟩
  refine wpAny_bind (wpAny_mkInt ?_)
  show wpAny _ _ (setField (.ref e) 3 (rawInt (c + 1)) >>= _) _ _ ⟨h₁, g, d, tk + 1, os⟩
  refine wpAny_bind (wpAny_setField_rec he₁ (by simp) fun h₂ he₂ hs₂ => ?_)
  replace hs₂ : Heap.SameBut e h₁ h₂ := hs₂
  replace he₂ : IsEnumHeld h₂ e it (c + 1) old T f := he₂
  show wpAny _ _ (setField (.ref e) 4 .none >>= _) _ _ ⟨h₂, g, d, tk + 1, os⟩
  refine wpAny_bind (wpAny_setField_rec he₂ (by simp) fun h₃ he₃ hs₃ => ?_)
  replace hs₃ : Heap.SameBut e h₂ h₃ := hs₃
  replace he₃ : IsEnumHeld h₃ e it (c + 1) old T f := he₃
  show wpAny _ _ (newTuple [.int c tk, x] >>= _) _ _ ⟨h₃, g, d, tk + 1, os⟩
  refine wpAny_bind (wpAny_newTuple ?_)
  have he₄ : IsEnumHeld (h₃.push { cls := .type "tuple", data := .seq #[.int c tk, x] }) e it (c + 1) old T f := Heap.get?_push_of_some _ he₃
  generalize hh₄ : h₃.push { cls := .type "tuple", data := .seq #[.int c tk, x] } = h₄ at he₄
  have hsz : h₃.objs.size = hp.objs.size := by rw [hs₃.1, hs₂.1, hs₁.1]
  have hel : e < hp.objs.size := Heap.lt_size he
  have ht₄ : h₄.get? hp.objs.size = some { cls := .type "tuple", data := .seq #[.int c tk, x] } := by rw [← hh₄, ← hsz]; exact Heap.get?_push_size _ rfl
  have hz₄ : h₄.objs.size = hp.objs.size + 1 := by rw [← hh₄, Heap.size_push, hsz]
  have hk₄ : ∀ b o, b ≠ e → b ≠ it → hp.get? b = some o → h₄.get? b = some o := fun b o hbe hbi hb => by
    rw [← hh₄]; exact Heap.get?_push_of_some _ (hs₃.extBut b o hbe (hs₂.extBut b o hbe (hs₁.extBut b o hbi hb)))
  have hit₄ : St (i + 1) h₄ := D.frame _ _ _ hit₁ fun b hb o y => by
    have hbe : b ≠ e := fun q => hef (q ▸ hb)
    rw [← hh₄]; exact Heap.get?_push_of_some _ (hs₃.extBut b o hbe (hs₂.extBut b o hbe y))
  show wpAny _ _ (Builtin.SmallTypes.ownedTupleIsFree (.ref e) >>= _) _ _ ⟨h₄, g, d, tk + 1, os⟩
  rw [hsz]
  clear hh₄ he₃ hs₃ he₂ hs₂ he₁ hs₁ hit₁ hsz h₃ h₂ h₁
  refine wpAny_bind (wpAny_tupleHeld_enum (s := ⟨h₄, g, d, tk + 1, os⟩) he₄ (hk₄ T oT hTe hTi hT) fun h₅ he₅ hs₅ => ?_)
  replace hs₅ : Heap.SameBut e h₄ h₅ := hs₅
  simp only [Bool.false_eq_true, if_false]
  refine wpAny_pure ⟨_, rfl, hQ x h₅ tk hPx he₅ ?_ (hs₅.extBut _ _ (Nat.ne_of_gt hel) ht₄) ?_ fun b o hbe hbi hb => hs₅.extBut b o hbe (hk₄ b o hbe hbi hb)⟩
  · exact D.frame _ _ _ hit₄ fun b hb o y => hs₅.extBut b o (fun q => hef (q ▸ hb)) y
  · show h₅.objs.size = hp.objs.size + 1
    rw [hs₅.1, hz₄]
def EnSt (h : Heap) (e it S : Addr) (i : Nat) : Prop := (i = 0 ∧ IsEnum h e it 0 .none) ∨ ∃ item T f oT, IsEnumHeld h e it (i : Int) item T f ∧ h.get? T = some oT ∧ T ≠ e ∧ T ≠ it ∧ T ≠ S
theorem en_item {e it t S : Addr} {i : Nat} {items : Array Value} {Q : Option Value → Shared → Prop} (hh : A.in1.handled = none) (hst : EnSt s.heap e it S i) (hti : s.heap.IsTupleIter it t i) (ht : s.heap.IsTuple t items) (hlt : i < items.size)
    (hei : e ≠ it) (hti' : t ≠ it) (hte : e ≠ t) (hS : S < s.heap.objs.size)
    (hQ : ∀ h' tk, EnSt h' e it S (i + 1) → h'.IsTupleIter it t (i + 1) → h'.IsTuple t items → h'.get? s.heap.objs.size = some { cls := .type "tuple", data := .seq #[.int (i : Int) tk, items[i]] } → h'.objs.size = s.heap.objs.size + 1 →
      (∀ b o, b ≠ e → b ≠ it → s.heap.get? b = some o → h'.get? b = some o) → Q (some (.ref s.heap.objs.size)) { s with heap := h', toks := tk + 1 }) :
    wpAny (model prog w) A (pyNext (.ref e)) Q E s := by
  have D := Draws.tuple (prog := prog) (w := w) hh it t hti' items
  have hef : e ∉ [it, t] := by simp [hei, hte]
  have hii : it < s.heap.objs.size := by obtain ⟨_, q, _⟩ := hti; exact Heap.lt_size q
  rcases hst with ⟨rfl, he⟩ | ⟨item, T, f, oT, he, hT, n1, n2, n3⟩
  · have hel : e < s.heap.objs.size := Heap.lt_size he
    refine wpAny_pyNext_enum_itemC D he ⟨hti, ht⟩ hlt hei hef fun x h' tk hx ho hs' hT hz hk => ?_
    have ex : x = items[0] := by
      have : items[0]? = some x := hx
      rw [Array.getElem?_eq_getElem hlt] at this
      exact (Option.some.inj this).symm
    subst ex
    exact hQ h' tk (.inr ⟨_, _, false, _, ho, hT, Nat.ne_of_gt hel, Nat.ne_of_gt hii, Nat.ne_of_gt hS⟩) hs'.1 hs'.2 hT hz hk
  · have hTy : s.TypeIs (.ref e) "enumerate" := ⟨_, he, rfl⟩
    unfold pyNext
    refine wpAny_bind (wpAny_attempt (wpAny_callSpecial?_slot (name := Str.ofString "__next__") hTy F.slot_enumerate_next
      (wpAny_call_entry F.slot_enumerate_next hTy F.entry_enumerate_next
        (en_next_held D he hT n1 n2 ⟨hti, ht⟩ hlt hei hef fun x h' tk hx ho hs' hT' hz hk => wpAny_pure ?_) (F.args_enumerate_next_1 _))))
    have ex : x = items[i] := by
      have : items[i]? = some x := hx
      rw [Array.getElem?_eq_getElem hlt] at this
      exact (Option.some.inj this).symm
    subst ex
    exact hQ h' tk (.inr ⟨_, _, true, _, ho, hk T oT n1 n2 hT, n1, n2, n3⟩) hs'.1 hs'.2 hT' hz hk
theorem en_done {e it t S : Addr} {items : Array Value} {Q : Option Value → Shared → Prop} (hh : A.in1.handled = none) (hst : EnSt s.heap e it S items.size) (hti : s.heap.IsTupleIter it t items.size) (ht : s.heap.IsTuple t items) (hti' : t ≠ it)
    (hQ : ∀ h', Heap.ExtBut it s.heap h' → Q none { s with heap := h' }) : wpAny (model prog w) A (pyNext (.ref e)) Q E s := by
  have D := Draws.tuple (prog := prog) (w := w) hh it t hti' items
  rcases hst with ⟨_, he⟩ | ⟨item, T, f, oT, he, hT, n1, n2, n3⟩
  · exact wpAny_pyNext_enum_endD D he ⟨hti, ht⟩ hQ
  · have hTy : s.TypeIs (.ref e) "enumerate" := ⟨_, he, rfl⟩
    unfold pyNext
    refine wpAny_bind (wpAny_attempt (wpAny_callSpecial?_slot (name := Str.ofString "__next__") hTy F.slot_enumerate_next
      (wpAny_call_entry F.slot_enumerate_next hTy F.entry_enumerate_next ?_ (F.args_enumerate_next_1 _))))
    show wpAny _ _ (field (.ref e) 2 >>= _) _ _ _
    refine wpAny_bind (wpAny_field he rfl (x := .ref it) rfl ?_)
    refine wpAny_bind (D.done _ _ _ ⟨hti, ht⟩ fun h' x he' hx' => ?_)
    obtain ⟨o, ho, hc⟩ := hx'
    refine wpAny_bind (wpAny_isInstance (T := "StopIteration") (b := true) ⟨o, ho, hc⟩ isSubtype_stop ?_)
    exact wpAny_pure (hQ _ he')
end
end PySem.W

set_option Elab.async false
set_option linter.all false
set_option maxRecDepth 100000
set_option maxHeartbeats 4000000
/-! ### list(enumerate(tuple)) -/
namespace PySem.W
open PySem PySem.Calls PyProof.Rows PyProof.V PySem.Spec
structure EnG (items : Array Value) (lo : Addr) (h : Heap) (as : List Addr) : Prop where
  rise : as.Pairwise (· < ·)
  above : ∀ a ∈ as, lo < a
  pairs : ∀ (j : Nat) (a : Addr), as[j]? = some a → ∃ (hj : j < items.size) (t : Tok), h.get? a = some { cls := .type "tuple", data := .seq #[.int (j : Int) t, items[j]] }
theorem EnG.there {items : Array Value} {lo : Addr} {h : Heap} {as : List Addr} (g : EnG items lo h as) {a : Addr} (ha : a ∈ as) : a < h.objs.size := by
  obtain ⟨j, hj⟩ := List.mem_iff_getElem?.mp ha
  obtain ⟨_, _, e⟩ := g.pairs j a hj
  exact Heap.lt_size e
section
variable {prog : Program} {w : World} {A : Around} {s : Shared} {R : Result → Shared → Prop} {items : Array Value}
theorem en_loop {S e it t : Addr} (hh : A.handled = none) (h1 : it < e) (h2 : e < S) (h3 : t < it) (hn : items.size ≤ sizeLine) (res : Value) {h₁ : Heap}
    (hR : ∀ h' tk acc c as, (∀ b o, b ≠ S → b ≠ e → b ≠ it → h₁.get? b = some o → h'.get? b = some o) → h'.get? S = some { cls := .type "list", dict := none, data := .seq acc c, slots := #[] } → as.length = items.size → EnG items S h' as →
      acc.toList = as.map Value.ref → R (.ok (.ret res)) { s with heap := h', toks := tk }) :
    ∀ (k i : Nat) (h : Heap) (tk c : Nat) (acc : Array Value) (as : List Addr), items.size - i = k → i ≤ items.size → EnSt h e it S i → h.IsTupleIter it t i → h.IsTuple t items → (∀ b o, b ≠ S → b ≠ e → b ≠ it → h₁.get? b = some o → h.get? b = some o) →
      h.get? S = some { cls := .type "list", dict := none, data := .seq acc c, slots := #[] } → acc.toList = as.map Value.ref → as.length = i → EnG items S h as →
      codeAny (model prog w) A (.builtin "list.extend.loop" ⟨[.ref S, .ref e, res], []⟩) R { s with heap := h, toks := tk } := by
  have nSe : S ≠ e := Nat.ne_of_gt h2
  have nSi : S ≠ it := Nat.ne_of_gt (Nat.lt_trans h1 h2)
  have nei : e ≠ it := Nat.ne_of_gt h1
  have nti : t ≠ it := Nat.ne_of_lt h3
  have net : e ≠ t := Nat.ne_of_gt (Nat.lt_trans h3 h1)
  have ntS : t ≠ S := Nat.ne_of_lt (Nat.lt_trans h3 (Nat.lt_trans h1 h2))
  intro k
  induction k with
  | zero =>
    intro i h tk c acc as hk hi hst hti ht hkeep hS hacc hal hG
    have hin : i = items.size := by omega
    subst hin
    refine codeAny_builtin PySem.F.entry_extend_loop ?_
    rw [Around.under_plainId PySem.F.plain_extend_loop _]
    show wpAny _ A.in1 (pyNext (.ref e) >>= _) _ _ _
    refine wpAny_bind (en_done (s := { s with heap := h, toks := tk }) (A := A.in1) hh hst hti ht nti fun h' he => ?_)
    refine wpAny_pure (hR h' tk acc c as (fun b o n1 n2 n3 q => he b o n3 (hkeep b o n1 n2 n3 q)) (he S _ nSi hS) hal ⟨hG.rise, hG.above, fun j a hj => ?_⟩ hacc)
    obtain ⟨hj', tj, e3⟩ := hG.pairs j a hj
    exact ⟨hj', tj, he a _ (Nat.ne_of_gt (Nat.lt_trans (Nat.lt_trans h1 h2) (hG.above a (List.mem_of_getElem? hj)))) e3⟩
  | succ k ih =>
    intro i h tk c acc as hk hi hst hti ht hkeep hS hacc hal hG
    have hlt : i < items.size := by omega
    have hsz : acc.size = i := by rw [← Array.length_toList, hacc, List.length_map, hal]
    refine codeAny_builtin PySem.F.entry_extend_loop ?_
    rw [Around.under_plainId PySem.F.plain_extend_loop _]
    show wpAny _ A.in1 (pyNext (.ref e) >>= _) _ _ _
    refine wpAny_bind (en_item (s := { s with heap := h, toks := tk }) (S := S) (A := A.in1) hh hst hti ht hlt nei nti net (Heap.lt_size hS) fun h' tk' hst' hti' ht' hT hz hkp => ?_)
    dsimp only at hT hz hkp ⊢
    have hS' := hkp S _ nSe nSi hS
    have up : ∀ b o, b ≠ S → h'.get? b = some o → (h'.update S (Obj.mapSeq (·.push (Value.ref h.objs.size)))).get? b = some o := fun b o hb q => (Heap.get?_update_other _ _ (Ne.symm hb)).trans q
    have hSl : S < h.objs.size := Heap.lt_size hS
    show wpAny _ A.in1 (updateSeq S (·.push (Value.ref h.objs.size)) >>= _) _ _ _
    refine wpAny_bind ?_
    refine wpAny_updateSeq hS' rfl (wpAny_pure ⟨plainId_quiet PySem.F.plain_extend_loop _, ih (i + 1) _ (tk' + 1) _ (acc.push (Value.ref h.objs.size)) (as ++ [h.objs.size]) (by omega) hlt ?_ (hti'.at fun o q => up it o nSi.symm q) (ht'.at fun o q => up t o ntS q)
      (fun b o n1 n2 n3 q => up b o n1 (hkp b o n2 n3 (hkeep b o n1 n2 n3 q))) (Heap.get?_update_self _ hS' rfl) (by rw [Array.toList_push, hacc, List.map_append]; rfl) (by rw [List.length_append, hal]; rfl) ⟨?_, ?_, ?_⟩⟩) (by rw [hsz]; omega) (by show (acc.push (Value.ref h.objs.size)).size ≤ sizeLine + 1; rw [Array.size_push, hsz]; omega)
    · rcases hst' with ⟨q, _⟩ | ⟨item, T, f, oT, he, hT', n1, n2, n3⟩
      · cases q
      · exact .inr ⟨item, T, f, oT, up e _ nSe.symm he, up T oT n3 hT', n1, n2, n3⟩
    · refine List.pairwise_append.mpr ⟨hG.rise, List.pairwise_singleton _ _, fun a ha b hb => ?_⟩
      rw [List.mem_singleton.mp hb]
      exact hG.there ha
    · intro a ha
      rcases List.mem_append.mp ha with ha | ha
      · exact hG.above a ha
      · rw [List.mem_singleton.mp ha]; exact hSl
    · intro j b hj
      rcases Nat.lt_trichotomy j as.length with q | q | q
      · rw [List.getElem?_append_left q] at hj
        obtain ⟨hj', tj, e3⟩ := hG.pairs j b hj
        have hb := hG.above b (List.mem_of_getElem? hj)
        exact ⟨hj', tj, up b _ (Nat.ne_of_gt hb) (hkp b _ (Nat.ne_of_gt (Nat.lt_trans h2 hb)) (Nat.ne_of_gt (Nat.lt_trans (Nat.lt_trans h1 h2) hb)) e3)⟩
      · subst q
        have hb : h.objs.size = b := by simpa using hj
        subst hb
        exact ⟨by omega, tk', by subst hal; exact up _ _ (Nat.ne_of_gt hSl) hT⟩
      · have hnone : (as ++ [h.objs.size])[j]? = none := List.getElem?_eq_none (by rw [List.length_append, List.length_singleton]; omega)
        rw [hnone] at hj; cases hj
end
section
variable {prog : Program} {w : World} {A : Around} {E : Value → Shared → Prop} {s : Shared} {e it t : Addr} {items : Array Value}
theorem en_hint (hT : s.TypeIs (.ref e) "enumerate") {Q : Bool → Shared → Prop} (h : Q true s) : wpAny (model prog w) A (Builtin.List.listLengthHint (.ref e)) Q E s := by
  unfold Builtin.List.listLengthHint
  refine wpAny_bind (wpAny_specialOf hT en_nolen ?_)
  show wpAny _ _ (specialOf (Value.ref e) (Str.ofString "__length_hint__") >>= _) _ _ _
  refine wpAny_bind (wpAny_specialOf hT en_nohint ?_)
  exact wpAny_pure h
theorem en_extend {R : Result → Shared → Prop} (hh : A.handled = none) (he : IsEnum s.heap e it 0 .none) (hti : s.heap.IsTupleIter it t 0) (ht : s.heap.IsTuple t items) (S : Addr) (h1 : it < e) (h2 : e < S) (h3 : t < it) (res : Value) (c₀ : Nat) (hS : s.heap.get? S = some { cls := .type "list", data := .seq #[] c₀ })
    (hR : ∀ h' tk acc c as, (∀ b o, b ≠ S → b ≠ e → b ≠ it → s.heap.get? b = some o → h'.get? b = some o) → h'.get? S = some { cls := .type "list", dict := none, data := .seq acc c, slots := #[] } → as.length = items.size → EnG items S h' as →
      acc.toList = as.map Value.ref → R (.ok (.ret res)) { s with heap := h', toks := tk }) (hn : items.size ≤ sizeLine) :
    wpAny (model prog w) A.in1 (Builtin.List.listExtendWith (.ref S) (.ref e) res)
      (fun fin s' => match fin with | .done f => R (.ok f) s' | .again c' => c'.quiet = true ∧ codeAny (model prog w) A c' R s') (fun e s' => R (.error e) s') s := by
  have nSe : S ≠ e := Nat.ne_of_gt h2
  have nSi : S ≠ it := Nat.ne_of_gt (Nat.lt_trans h1 h2)
  have ntS : t ≠ S := Nat.ne_of_lt (Nat.lt_trans h3 (Nat.lt_trans h1 h2))
  have hT : s.TypeIs (.ref e) "enumerate" := ⟨_, he, rfl⟩
  unfold Builtin.List.listExtendWith
  refine wpAny_bind (wpAny_typeOf (T := "enumerate") hT ?_)
  have q1 : Builtin.List.listSameRef (.ref S) (.ref e) = false := by simp [Builtin.List.listSameRef, nSe]
  have q2 : (Value.type "enumerate" == Value.type "list") = false := by decide
  have q3 : (Value.type "enumerate" == Value.type "tuple") = false := by decide
  simp only [q1, q2, q3, Bool.or_false, Bool.false_eq_true, if_false]
  refine wpAny_bind (wpAny_pyIter_enum he ?_)
  refine wpAny_bind (wpAny_holding (en_hint hT ?_))
  refine wpAny_ite_split (fun _ => ?_) (fun hab => absurd rfl hab)
  refine wpAny_bind (wpAny_rule ?_)
  refine wpAny_bind ?_
  show wpAny _ _ (updateSeq S (·.push .none) >>= fun _ => updateSeq S (·.pop)) _ _ _
  refine wpAny_bind (wpAny_updateSeq hS rfl ?_)
  have hS₂ := Heap.get?_update_self (Obj.mapSeq (·.push Value.none)) hS rfl
  refine wpAny_updateSeq (hz := by seq_fits) hS₂ rfl ?_
  have hS₃ := Heap.get?_update_self (Obj.mapSeq (·.pop)) hS₂ rfl
  have oth : ∀ b o, b ≠ S → s.heap.get? b = some o → ((s.heap.update S (Obj.mapSeq (·.push Value.none))).update S (Obj.mapSeq (·.pop))).get? b = some o := fun b o hb q => (Heap.get?_update_other _ _ (Ne.symm hb)).trans ((Heap.get?_update_other _ _ (Ne.symm hb)).trans q)
  refine wpAny_pure ⟨plainId_quiet PySem.F.plain_extend_loop _, ?_⟩
  exact en_loop (items := items) (s := s) (h₁ := s.heap) hh h1 h2 h3 hn res hR items.size 0 _ s.toks _ #[] [] (Nat.sub_zero _) (Nat.zero_le _) (.inl ⟨rfl, oth e _ nSe.symm he⟩) (hti.at fun o q => oth it o nSi.symm q) (ht.at fun o q => oth t o ntS q) (fun b o n1 _ _ q => oth b o n1 q) hS₃ rfl rfl
    ⟨List.Pairwise.nil, (fun _ ha => nomatch ha), (fun j a hj => by simp at hj)⟩
theorem en_init {R : Result → Shared → Prop} (hh : A.handled = none) (he : IsEnum s.heap e it 0 .none) (hti : s.heap.IsTupleIter it t 0) (ht : s.heap.IsTuple t items) (S : Addr) (h1 : it < e) (h2 : e < S) (h3 : t < it) (hS : s.heap.get? S = some { cls := .type "list", data := .seq #[] })
    (hR : ∀ h' tk acc c as, (∀ b o, b ≠ S → b ≠ e → b ≠ it → s.heap.get? b = some o → h'.get? b = some o) → h'.get? S = some { cls := .type "list", dict := none, data := .seq acc c, slots := #[] } → as.length = items.size → EnG items S h' as →
      acc.toList = as.map Value.ref → R (.ok (.ret .none)) { s with heap := h', toks := tk }) (hn : items.size ≤ sizeLine) :
    wpAny (model prog w) A.in1 (Builtin.«list.__init__» ⟨[.ref S, .ref e], []⟩)
      (fun fin s' => match fin with | .done f => R (.ok f) s' | .again c' => c'.quiet = true ∧ codeAny (model prog w) A c' R s') (fun e s' => R (.error e) s') s := by
  have nSe : S ≠ e := Nat.ne_of_gt h2
  have nSi : S ≠ it := Nat.ne_of_gt (Nat.lt_trans h1 h2)
  have ntS : t ≠ S := Nat.ne_of_lt (Nat.lt_trans h3 (Nat.lt_trans h1 h2))
  show wpAny _ _ (do let old ← Builtin.List.listItems (.ref S); Builtin.List.listUpdate (.ref S) (fun _ => #[]); letGo old.toList.reverse; Builtin.List.listExtendWith (.ref S) (.ref e) .none) _ _ s
  refine wpAny_bind ?_
  unfold Builtin.List.listItems
  refine wpAny_bind (wpAny_seqItems hS rfl (wpAny_pure ?_))
  show wpAny _ _ (updateSeq S (fun _ => #[]) >>= fun _ => letGo (#[] : Array Value).toList.reverse >>= fun _ => Builtin.List.listExtendWith (.ref S) (.ref e) .none) _ _ s
  refine wpAny_bind (wpAny_updateSeq hS rfl ?_)
  have hS₂ := Heap.get?_update_self (Obj.mapSeq (fun _ => (#[] : Array Value))) hS rfl
  have oth : ∀ b o, b ≠ S → s.heap.get? b = some o → (s.heap.update S (Obj.mapSeq (fun _ => (#[] : Array Value)))).get? b = some o :=
    fun b o hb q => (Heap.get?_update_other _ _ (Ne.symm hb)).trans q
  refine wpAny_bind (wpAny_letGo ?_)
  refine en_extend (items := items) hh (oth e _ nSe.symm he) (hti.at fun o q => oth it o nSi.symm q) (ht.at fun o q => oth t o ntS q) S h1 h2 h3 .none _ hS₂ (fun h' tk acc c as hk hS' hl hG hacc => ?_) hn
  exact hR h' tk acc c as (fun b o n1 n2 n3 q => hk b o n1 n2 n3 (oth b o n1 q)) hS' hl hG hacc
theorem en_call {Q : Value → Shared → Prop} (hh : A.handled = none) (he : IsEnum s.heap e it 0 .none) (hti : s.heap.IsTupleIter it t 0) (ht : s.heap.IsTuple t items) (h1 : it < e) (h3 : t < it) (hn : items.size ≤ sizeLine)
    (hQ : ∀ h' tk acc c as, (∀ b o, b ≠ e → b ≠ it → s.heap.get? b = some o → h'.get? b = some o) → h'.get? s.heap.objs.size = some { cls := .type "list", dict := none, data := .seq acc c, slots := #[] } → as.length = items.size → EnG items s.heap.objs.size h' as →
      acc.toList = as.map Value.ref → Q (.ref s.heap.objs.size) { s with heap := h', toks := tk }) :
    wpAny (model prog w) A (call (.type "list") [.ref e]) Q E s := by
  refine callType_codes (Q₁ := fun obj s₁ => obj = .ref s.heap.objs.size ∧ s₁ = { s with heap := s.heap.push { cls := .type "list", data := .seq #[] } }) PySem.F.called_list (PySem.F.typeCall_list_1 _) PySem.F.entry_list_init
    (code_list_new _ ⟨rfl, rfl⟩) fun obj s₁ h₁ => ?_
  obtain ⟨rfl, rfl⟩ := h₁
  have hS : (s.heap.push { cls := .type "list", data := .seq #[] }).get? s.heap.objs.size = some { cls := .type "list", data := .seq #[] } := Heap.get?_push_size _ rfl
  have hel : e < s.heap.objs.size := Heap.lt_size he
  refine ⟨⟨_, hS, rfl⟩, PySem.F.args_list_init_2 _ _, en_init (items := items) (A := A.in1) hh (Heap.get?_push_of_some _ he) (hti.at fun o q => Heap.get?_push_of_some _ q) (ht.at fun o q => Heap.get?_push_of_some _ q) _ h1 hel h3 hS (fun h' tk acc c as hk hS' hl hG hacc => ?_) hn⟩
  exact ⟨rfl, hQ h' tk acc c as (fun b o n1 n2 q => hk b o (Nat.ne_of_lt (Heap.lt_size q)) n1 n2 (Heap.get?_push_of_some _ q)) hS' hl hG hacc⟩
end
end PySem.W

set_option Elab.async false
set_option linter.all false
set_option maxRecDepth 100000
set_option maxHeartbeats 4000000
/-! ### the rule for list(enumerate(tuple)) -/
namespace SW
open PySem PySem.Spec PyProof.Rows L2 LiI
def enP : Nat → List V → List (Key × V)
  | _, [] => []
  | j, x :: r => (.inl (j : Int), x) :: enP (j + 1) r
theorem enP_len : ∀ (xs : List V) (j : Nat), (enP j xs).length = xs.length
  | [], _ => rfl
  | _ :: r, j => congrArg Nat.succ (enP_len r (j + 1))
theorem enP_get : ∀ (xs : List V) (j i : Nat) {p : Key × V}, (enP j xs)[i]? = some p → ∃ x, xs[i]? = some x ∧ p = (.inl ((j + i : Nat) : Int), x)
  | [], _, _, _, h => by cases h
  | x :: r, j, 0, p, h => by
    cases h
    exact ⟨x, rfl, rfl⟩
  | x :: r, j, i + 1, p, h => by
    obtain ⟨y, e1, e2⟩ := enP_get r (j + 1) i h
    exact ⟨y, e1, by rw [e2, show j + 1 + i = j + (i + 1) by omega]⟩
theorem en_laid {X : Cx} {pins : List (Addr × Obj)} {σ : L2.St} {H : Hp} {s : Shared} {h' : Heap} {tk : Nat} {xs : List V} {its : List Value} {acc : Array Value} {c : Nat} {as : List Addr} {S : Addr} (I : Inv X pins σ H s) (hSz : s.heap.objs.size ≤ S) (hz : xs.length ≤ sizeLine) (rv : Vals xs its)
    (hk : ∀ b o, s.heap.get? b = some o → h'.get? b = some o) (hS : h'.get? S = some { cls := .type "list", dict := none, data := .seq acc c, slots := #[] }) (hl : as.length = its.toArray.size) (hG : PySem.W.EnG its.toArray S h' as) (hacc : acc.toList = as.map Value.ref) :
    ∃ H' : Hp, (∀ b o, H b = some o → H' b = some o) ∧ H S = none ∧ H' S = some (.lst (as.map V.ref)) ∧ Paired (fun (t : Addr) (q : Key × V) => H' t = some (.tup [kV q.1, q.2])) as (enP 0 xs) ∧ Inv X pins σ H' { s with heap := h', toks := tk } := by
  have lk : xs.length = its.length := rv.length
  have hl' : as.length = its.length := by rw [hl, List.size_toArray]
  have hSn : S ∉ as := fun z => Nat.lt_irrefl _ (hG.above _ z)
  have nd : as.Nodup := List.Pairwise.imp (fun {a b} (h : a < b) => Nat.ne_of_lt h) hG.rise
  have new : ∀ t ∈ as, H t = none := fun t ht => I.hok.fresh (Nat.le_trans hSz (Nat.le_of_lt (hG.above t ht)))
  have newS : H S = none := I.hok.fresh hSz
  have atP := putT_at as (enP 0 xs) (upd H S (.lst (as.map V.ref))) (by rw [enP_len]; omega) nd
  have off : ∀ b, b ∉ as → b ≠ S → putT (upd H S (.lst (as.map V.ref))) as (enP 0 xs) b = H b := fun b h1 h2 => by rw [putT_off as (enP 0 xs) _ h1, upd_ne h2]
  have low : ∀ b o, s.heap.get? b = some o → b ∉ as ∧ b ≠ S := fun b o e => ⟨fun z => absurd (Heap.lt_size e) (Nat.not_lt.mpr (Nat.le_trans hSz (Nat.le_of_lt (hG.above b z)))), Nat.ne_of_lt (Nat.lt_of_lt_of_le (Heap.lt_size e) hSz)⟩
  have kp : ∀ b u, H b = some u → (putT (upd H S (.lst (as.map V.ref))) as (enP 0 xs)) b = some u := fun b u e => by
    rw [off b (fun z => by rw [new b z] at e; cases e) (fun z => by rw [z, newS] at e; cases e)]
    exact e
  have eS : putT (upd H S (.lst (as.map V.ref))) as (enP 0 xs) S = some (.lst (as.map V.ref)) := by rw [putT_off as (enP 0 xs) _ hSn, upd_same]
  refine ⟨putT (upd H S (.lst (as.map V.ref))) as (enP 0 xs), kp, newS, eS, atP, ?_⟩
  refine I.call' (ch := []) rfl ⟨fun b o q _ _ _ => hk b o q, fun b o q _ _ _ => ⟨o.slots, hk b o q⟩, fun b o q n _ => ?_, fun b o q _ => ⟨o, hk b o q⟩, fun b xs q => kp b _ q, fun b o u q => kp b _ q, fun b ps q => ⟨#[], by rw [kp b _ q]; simp⟩⟩ (fun b u q => ?_) I.bare fun b z => by simp at z
  · obtain ⟨z1, z2⟩ := low b o q
    rw [off b z1 z2]
    exact n
  · by_cases hb : b ∈ as
    · obtain ⟨j, pk, e1, e2, e3⟩ := paired_ix atP hb
      rw [e3] at q
      cases q
      obtain ⟨x, ex, ep⟩ := enP_get xs 0 j e2
      subst ep
      obtain ⟨hj, t, f3⟩ := hG.pairs j b e1
      obtain ⟨v, hv, rr⟩ := rv.get ex
      have ev : its.toArray[j] = v := by
        have hj' : j < its.length := by simpa using hj
        have : its[j]? = some its[j] := List.getElem?_eq_getElem hj'
        rw [hv] at this
        have := Option.some.inj this
        simpa using this.symm
      rw [ev] at f3
      have e0 : ((0 + j : Nat) : Int) = (j : Int) := by rw [Nat.zero_add]
      refine ⟨by show 2 ≤ sizeLine; decide, [.int (j : Int) t, v], .cons ?_ (.cons rr .nil), ⟨_, f3, rfl, _, rfl⟩⟩
      show RelV (V.int ((0 + j : Nat) : Int)) _
      rw [e0]
      exact ⟨_, rfl⟩
    · by_cases hb2 : b = S
      · rw [hb2] at q ⊢
        rw [eS] at q
        cases q
        refine ⟨by rw [List.length_map]; omega, acc.toList, c, by rw [hacc]; exact vals_refs as, ?_⟩
        rw [Array.toArray_toList]
        exact hS
      · rw [off b hb hb2] at q
        exact (I.hok b u q).stay (fun d v _ y => hk d v y) (fun d y => kp d _ y) fun d xs y => kp d _ y
/-- list(enumerate(t)): a new list of new pairs -/
def tListEn (K : PySem.W.Frag) (ta : TA) : TE := fun σ H Q => ta σ H fun vs H1 => ∃ a xs, vs = [.ref a] ∧ SqT K H1 a xs ∧ xs.length ≤ sizeLine ∧
  ∀ (H' : Hp) (p : Addr) (ts : List Addr), (∀ b o, H1 b = some o → H' b = some o) → H1 p = none → H' p = some (.lst (ts.map V.ref)) → Paired (fun (t : Addr) (q : Key × V) => H' t = some (.tup [kV q.1, q.2])) ts (enP 0 xs) → Q (.ref p) H'
theorem pe_listEnT {X : Cx} {e : Expr} {ta : TA} {p p2 cpos pos : Pos} (hc : X.calm = true) (ha : PA X [e] ta) (hg : Gl X "list") (hm : X.mg "list" = none) (hv : bootBuiltins "list" = some (.type "list")) (hg2 : Gl X "enumerate") (hm2 : X.mg "enumerate" = none)
    (hs2 : starEach [e] X.env = [(false, eval e X.env)] := by rfl) (hs : starEach [.Call (.Name "enumerate" p2) [e] [] cpos] X.env = (false, eval (.Call (.Name "enumerate" p2) [e] [] cpos) X.env) :: starEach [] X.env := by rfl) :
    PE X (.Call (.Name "list" p) [.Call (.Name "enumerate" p2) [e] [] cpos] [] pos) (tListEn X.K ta) := by
  refine ⟨fun pins s σ H Q I hq => ?_⟩
  refine wpAny_Call_Name_kw (ld_blt I hg hm hv ?_)
  refine PyProof.Rows.callWith_type1 ?_ hs rfl
  rw [hs]
  show wpAny _ _ (spliced ((false, eval (.Call (.Name "enumerate" p2) [e] [] cpos) X.env) :: backTo pos (starEach [] X.env))) _ _ s
  refine Calls.spliced_cons ?_
  refine Call_ (ld_blt I hg2 hm2 boot_enumerate (PyProof.Rows.callWith_type1 (thn (ha.run cpos pins s σ H _ I hq) fun us s1 ⟨vs, H1, I1, r1, q1⟩ => ?_) hs2 rfl))
  obtain ⟨a, xs, ex, hsq, hz, q⟩ := q1
  subst ex
  cases r1 with
  | cons r rr =>
    cases rr
    cases r
    obtain ⟨its2, r2, p2', _⟩ := I1.tuple hsq
    have pT : s1.heap.IsTuple a its2.toArray := p2'
    have la : a < s1.heap.objs.size := by obtain ⟨o, ho, _⟩ := pT; exact Heap.lt_size ho
    refine sw_enum_begins1 (begins_tuple a its2.toArray) pT fun h' he hit hsz hk => ?_
    refine Calls.spliced_nil ?_
    have I2 : Inv X pins σ H1 { s1 with heap := h' } := I1.kept (t' := s1.toks) hk
    refine PySem.W.en_call (s := { s1 with heap := h' }) (items := its2.toArray) (I1.ok.hd hc) he ⟨_, hit, rfl, rfl⟩ (pT.at fun o q => hk a o q) (Nat.lt_succ_self _) la (by rw [List.size_toArray, ← r2.length]; exact hz) fun h'' tk acc c as hk2 hS hl hG hacc => ?_
    have hk3 : ∀ b o, s1.heap.get? b = some o → h''.get? b = some o := fun b o e => hk2 b o (Nat.ne_of_lt (Nat.lt_succ_of_lt (Heap.lt_size e))) (Nat.ne_of_lt (Heap.lt_size e)) (hk b o e)
    have hSz : s1.heap.objs.size ≤ h'.objs.size := by rw [hsz]; exact Nat.le_add_right _ _
    obtain ⟨H', g1, g2, g3, g4, J⟩ := en_laid (tk := tk) (S := h'.objs.size) I1 hSz hz r2 hk3 hS hl hG hacc
    exact ⟨.ref _, H', J, rfl, q H' _ as g1 g2 g3 g4⟩
end SW

set_option Elab.async false
set_option linter.all false
set_option maxRecDepth 100000
set_option maxHeartbeats 4000000
namespace SW
open PySem PySem.Spec PyProof.Rows L2
def W.isLeft : W → Bool
  | .left _ => true
  | _ => false
/-- the order of two addresses: by the first number that differs -/
def cmpA : W → List Int → List Int → Int
  | t, i :: r, j :: s => if i = j then (match t.stp i with
    | some u => cmpA u r s
    | none => 0) else if t.isLeft then (if j < i then -1 else 1) else (if i < j then -1 else 1)
  | _, _, _ => 0
/-- it begins at the n-th numbers -/
theorem cmp_drop {t u : W} {a b : List Int} : ∀ {n : Nat}, a.take n = b.take n → t.go (a.take n) = some u → cmpA t a b = cmpA u (a.drop n) (b.drop n) := by
  intro n
  induction n generalizing t a b with
  | zero =>
    intro _ h
    rw [List.take_zero, go_nil] at h
    cases h
    rfl
  | succ n ih =>
    intro e h
    cases a with
    | nil =>
      cases b with
      | nil =>
        rw [List.take_nil, go_nil] at h
        cases h
        rfl
      | cons j s => cases e
    | cons i r =>
      cases b with
      | nil => cases e
      | cons j s =>
        rw [List.take_succ_cons, List.take_succ_cons] at e
        injection e with e1 e2
        subst e1
        rw [List.take_succ_cons] at h
        cases es : t.stp i with
        | none => rw [go_none es] at h; cases h
        | some v =>
          rw [go_cons es] at h
          rw [cmpA, if_pos rfl, es, List.drop_succ_cons, List.drop_succ_cons]
          exact ih e2 h
theorem cmp_end {t : W} {b : List Int} : cmpA t [] b = 0 := by
  cases b <;> rfl
theorem cmp_end2 {t : W} {a : List Int} : cmpA t a [] = 0 := by
  cases a <;> rfl
/-! ### the first and the last place -/
mutual
def W.fst : W → Option (List Int)
  | .ltr _ => some []
  | .times w n => if 0 < n then w.fst.map (0 :: ·) else none
  | .right w => w.fst.map (0 :: ·)
  | .join ws => W.fsts ws 0
  | _ => none
def W.fsts : List W → Nat → Option (List Int)
  | [], _ => none
  | w :: r, k => if w.cnt abcABC = some 0 then W.fsts r (k + 1) else w.fst.map ((k : Int) :: ·)
end
mutual
def W.lst : W → Option (List Int)
  | .ltr _ => some []
  | .times w n => if 0 < n then w.lst.map ((n - 1) :: ·) else none
  | .left w => w.lst.map (0 :: ·)
  | .join ws => W.lsts ws 0
  | _ => none
def W.lsts : List W → Nat → Option (List Int)
  | [], _ => none
  | w :: r, k => if W.cnts abcABC r = some 0 then (if w.cnt abcABC = some 0 then none else w.lst.map ((k : Int) :: ·)) else W.lsts r (k + 1)
end
theorem opt_map_cons {o : Option (List Int)} {i : Int} {f : List Int} (h : o.map (i :: ·) = some f) : ∃ g, o = some g ∧ f = i :: g := by
  cases o with
  | none => cases h
  | some g => cases h; exact ⟨g, rfl, rfl⟩
theorem fsts_inv : ∀ (ws : List W) (k : Nat) {f : List Int}, W.fsts ws k = some f → ∃ (j : Nat) (w : W) (g : List Int), ws[j]? = some w ∧ w.fst = some g ∧ f = ((k + j : Nat) : Int) :: g ∧ w.cnt abcABC ≠ some 0 ∧ ∀ i, i < j → ∀ x, ws[i]? = some x → x.cnt abcABC = some 0
  | [], k, f, h => by rw [W.fsts] at h; cases h
  | w :: r, k, f, h => by
    rw [W.fsts] at h
    split at h
    · rename_i hc
      obtain ⟨j, u, g, e1, e2, e3, e4, e5⟩ := fsts_inv r (k + 1) h
      refine ⟨j + 1, u, g, e1, e2, by rw [e3, show k + 1 + j = k + (j + 1) by omega], e4, fun i hi x hx => ?_⟩
      cases i with
      | zero => cases hx; exact hc
      | succ i => exact e5 i (by omega) x hx
    · rename_i hc
      obtain ⟨g, e1, e2⟩ := opt_map_cons h
      exact ⟨0, w, g, rfl, e1, e2, hc, fun i hi => absurd hi (Nat.not_lt_zero i)⟩
theorem lsts_inv : ∀ (ws : List W) (k : Nat) {f : List Int}, W.Oks abc ws → W.lsts ws k = some f → ∃ (j : Nat) (w : W) (g : List Int), ws[j]? = some w ∧ w.lst = some g ∧ f = ((k + j : Nat) : Int) :: g ∧ w.cnt abcABC ≠ some 0 ∧ ∀ i, j < i → ∀ x, ws[i]? = some x → x.cnt abcABC = some 0
  | [], k, f, o, h => by rw [W.lsts] at h; cases h
  | w :: r, k, f, o, h => by
    unfold W.Oks at o
    rw [W.lsts] at h
    split at h
    · rename_i hr
      split at h
      · cases h
      · rename_i hc
        obtain ⟨g, e1, e2⟩ := opt_map_cons h
        refine ⟨0, w, g, rfl, e1, e2, hc, fun i hi x hx => ?_⟩
        cases i with
        | zero => exact absurd hi (Nat.lt_irrefl 0)
        | succ i => exact W.cnts_zero o.2 hr (List.mem_of_getElem? (show r[i]? = some x from hx))
    · obtain ⟨j, u, g, e1, e2, e3, e4, e5⟩ := lsts_inv r (k + 1) o.2 h
      refine ⟨j + 1, u, g, e1, e2, by rw [e3, show k + 1 + j = k + (j + 1) by omega], e4, fun i hi x hx => ?_⟩
      cases i with
      | zero => exact absurd hi (Nat.not_lt_zero _)
      | succ i => exact e5 i (by omega) x hx
theorem stp_ge {t u : W} {i : Int} (h : t.stp i = some u) : 0 ≤ i := by
  cases t with
  | join ws => rw [stpJ] at h; split at h; exact (‹_ ∧ _›).1; cases h
  | times w n => rw [stpT] at h; split at h; exact (‹_ ∧ _›).1; cases h
  | right w => rw [stpR] at h; split at h; exact (‹_ ∧ _›).1; cases h
  | left w => rw [stpL] at h; split at h; exact (‹_ ∧ _›).1; cases h
  | emp => cases h
  | ltr c => cases h
  | nam c => cases h
theorem fst_inv {t : W} {f : List Int} (h : t.fst = some f) : (∃ c, t = .ltr c ∧ f = []) ∨ ∃ i g u, f = i :: g ∧ t.stp i = some u ∧ u.fst = some g ∧ t.isLeft = false ∧ ∀ j v, t.stp j = some v → v.cnt abcABC ≠ some 0 → i ≤ j := by
  cases t with
  | emp => rw [W.fst] at h; cases h; all_goals (intros; contradiction)
  | nam c => rw [W.fst] at h; cases h; all_goals (intros; contradiction)
  | left w => rw [W.fst] at h; cases h; all_goals (intros; contradiction)
  | ltr c =>
    rw [W.fst] at h
    cases h
    exact .inl ⟨c, rfl, rfl⟩
  | times w n =>
    rw [W.fst] at h
    split at h
    · obtain ⟨g, e1, rfl⟩ := opt_map_cons h
      exact .inr ⟨0, g, w, rfl, stp_times (by decide) (by omega), e1, rfl, fun j v hj _ => stp_ge hj⟩
    · cases h
  | right w =>
    rw [W.fst] at h
    obtain ⟨g, e1, rfl⟩ := opt_map_cons h
    exact .inr ⟨0, g, w, rfl, stp_right (by decide) (by decide), e1, rfl, fun j v hj _ => stp_ge hj⟩
  | join ws =>
    rw [W.fst] at h
    obtain ⟨j, w, g, e1, e2, e3, e4, e5⟩ := fsts_inv ws 0 h
    rw [Nat.zero_add] at e3
    refine .inr ⟨(j : Int), g, w, e3, stp_join e1, e2, rfl, fun j' v hj hv => ?_⟩
    have h0 := stp_ge hj
    obtain ⟨k, rfl⟩ := Int.eq_ofNat_of_zero_le h0
    refine Classical.byContradiction fun hlt => hv ?_
    refine e5 k (by omega) v ?_
    rw [stpJ] at hj
    split at hj
    · exact hj
    · cases hj
theorem lst_inv {t : W} {f : List Int} (o : t.Ok abc) (h : t.lst = some f) : (∃ c, t = .ltr c ∧ f = []) ∨ ∃ i g u, f = i :: g ∧ t.stp i = some u ∧ u.lst = some g ∧ (t.isLeft = true → ∀ j v, t.stp j = some v → i ≤ j) ∧ (t.isLeft = false → ∀ j v, t.stp j = some v → v.cnt abcABC ≠ some 0 → j ≤ i) := by
  cases t with
  | emp => rw [W.lst] at h; cases h; all_goals (intros; contradiction)
  | nam c => rw [W.lst] at h; cases h; all_goals (intros; contradiction)
  | right w => rw [W.lst] at h; cases h; all_goals (intros; contradiction)
  | ltr c =>
    rw [W.lst] at h
    cases h
    exact .inl ⟨c, rfl, rfl⟩
  | times w n =>
    rw [W.lst] at h
    split at h
    · obtain ⟨g, e1, rfl⟩ := opt_map_cons h
      refine .inr ⟨n - 1, g, w, rfl, stp_times (by omega) (by omega), e1, (fun h => nomatch h), fun _ j v hj _ => ?_⟩
      rw [stpT] at hj
      split at hj
      · omega
      · cases hj
    · cases h
  | left w =>
    rw [W.lst] at h
    obtain ⟨g, e1, rfl⟩ := opt_map_cons h
    exact .inr ⟨0, g, w, rfl, stp_left (by decide) (by decide), e1, fun _ j v hj => stp_ge hj, fun h => nomatch h⟩
  | join ws =>
    unfold W.Ok at o
    rw [W.lst] at h
    obtain ⟨j, w, g, e1, e2, e3, e4, e5⟩ := lsts_inv ws 0 o.2 h
    rw [Nat.zero_add] at e3
    refine .inr ⟨(j : Int), g, w, e3, stp_join e1, e2, fun h => (nomatch h), fun _ j' v hj hv => ?_⟩
    have h0 := stp_ge hj
    obtain ⟨k, rfl⟩ := Int.eq_ofNat_of_zero_le h0
    refine Classical.byContradiction fun hlt => hv ?_
    refine e5 k (by omega) v ?_
    rw [stpJ] at hj
    split at hj
    · exact hj
    · cases hj
theorem fst_vd : ∀ (f : List Int) {t : W}, t.fst = some f → Vd t f
  | f, t, h => by
    rcases fst_inv h with ⟨c, rfl, rfl⟩ | ⟨i, g, u, rfl, e1, e2, _⟩
    · exact ⟨c, go_nil _⟩
    · exact vd_cons e1 (fst_vd g e2)
theorem lst_vd : ∀ (f : List Int) {t : W}, t.Ok abc → t.lst = some f → Vd t f
  | f, t, o, h => by
    rcases lst_inv o h with ⟨c, rfl, rfl⟩ | ⟨i, g, u, rfl, e1, e2, _⟩
    · exact ⟨c, go_nil _⟩
    · exact vd_cons e1 (lst_vd g (stp_ok o e1).1 e2)
theorem isL_of {t u : W} {i : Int} (h : t.stp i = some u) : t.isL = false := by
  cases t <;> first | rfl | cases h
theorem fst_min : ∀ (f ns : List Int) {t : W}, t.Ok abc → t.fst = some f → Vd t ns → cmpA t ns f ≠ -1
  | f, ns, t, o, h, v => by
    rcases fst_inv h with ⟨c, rfl, rfl⟩ | ⟨i, g, u, rfl, e1, e2, e3, e4⟩
    · rw [cmp_end2]; decide
    · obtain ⟨j, r, x, rfl, e5, v2⟩ := vd_inv v (isL_of e1)
      have le := e4 j x e5 (vd_cnt (stp_ok o e5).1 v2)
      rw [cmpA]
      split
      · rename_i hji
        subst hji
        rw [e5] at e1
        cases e1
        rw [e5]
        exact fst_min g r (stp_ok o e5).1 e2 v2
      · rw [e3, if_neg (by decide), if_neg (by omega)]
        decide
theorem lst_max : ∀ (f ns : List Int) {t : W}, t.Ok abc → t.lst = some f → Vd t ns → cmpA t f ns ≠ -1
  | f, ns, t, o, h, v => by
    rcases lst_inv o h with ⟨c, rfl, rfl⟩ | ⟨i, g, u, rfl, e1, e2, e3, e4⟩
    · rw [cmp_end]; decide
    · obtain ⟨j, r, x, rfl, e5, v2⟩ := vd_inv v (isL_of e1)
      rw [cmpA]
      split
      · rename_i hij
        subst hij
        rw [e5] at e1
        cases e1
        rw [e5]
        exact lst_max g r (stp_ok o e5).1 e2 v2
      · cases hL : t.isLeft with
        | true =>
          have := e3 hL j x e5
          rw [if_pos rfl, if_neg (by omega)]
          decide
        | false =>
          have := e4 hL j x e5 (vd_cnt (stp_ok o e5).1 v2)
          rw [if_neg (by decide), if_neg (by omega)]
          decide
end SW

set_option Elab.async false
set_option linter.all false
set_option maxRecDepth 100000
set_option maxHeartbeats 4000000
namespace SW
open PySem PySem.Spec PyProof.Rows L2
def top (i : Nat) : Stmt := PySem.Challenge.pw_scatterwords_k11_first_and_last_places.main.body.getD i (.Pass ⟨0, 0, 0, 0⟩)
abbrev s_is_empty : Stmt := top 4
abbrev s_length : Stmt := top 5
abbrev s__count : Stmt := top 6
abbrev s_first_place : Stmt := top 8
abbrev s_last_place : Stmt := top 9
abbrev s__longer : Stmt := top 10
abbrev s__law_draws : Stmt := top 12
abbrev s__law_draw : Stmt := top 13
abbrev s__law_pick : Stmt := top 14
abbrev s__law_great : Stmt := top 15
abbrev s__law_same : Stmt := top 16
abbrev s__law_tree : Stmt := top 17
abbrev s__law_word : Stmt := top 18
abbrev s__law_parts : Stmt := top 19
abbrev s__law_count : Stmt := top 20
abbrev s__law_places : Stmt := top 21
abbrev s__law_spots : Stmt := top 22
abbrev s__law_ahead : Stmt := top 23
abbrev s__law_wide : Stmt := top 24
abbrev s__law_turned : Stmt := top 25
abbrev s__law_first : Stmt := top 26
abbrev s__law_last : Stmt := top 27
abbrev s_law : Stmt := top 28
section
variable {P : Program} {w : World} {K : PySem.W.Frag} {mg : Str → Option Value} {base : Heap}
def spMir (K : PySem.W.Frag) (n : Nat) : Sp := fun vs H Q _ => ∃ v t, vs = [v] ∧ WV K H v t ∧ t.Ok abcABC ∧ t.dep ≤ n ∧ ∀ v' H', WV K H' v' t.mir → Same H H' → Q v' H'
/-! ### _law_draws -/
def spDraws (K : PySem.W.Frag) : Sp := fun vs H Q _ => ∃ (a : Addr) (ns : List Int), vs = [.ref a] ∧ SqL K H a (ns.map V.int) ∧ ∀ r l H', Rng H' r l → Same H H' → Q (.ref r) H'
theorem sc__law_draws : FnScope ["_law_script", "_law_state", "_law_cell"] ["_law_script"] (defScope s__law_draws) := ⟨rfl, rfl, rfl, by decide +kernel, rfl, by decide +kernel, by decide +kernel⟩
theorem ok_draws (D : Df K mg "_law_draws" s__law_draws ["_law_script"]) (bi : Bi mg) : Cal P w K mg base 1 "_law_draws" ["_law_script"] (spDraws K) := by
  refine D.ok sc__law_draws (fun vs H Q E h => ?_) (fun f cdv A outer s H vs Q E hr h => ?_)
  · obtain ⟨a, ns, rfl, _⟩ := h
    rfl
  obtain ⟨a, ns, rfl, hS, q⟩ := h
  refine ⟨_, (pss_cons (ps_set (i := 1) sc__law_draws.nd rfl (.inl rfl) pe_int)
      (pss_cons (ps_for PassesOwn.never rfl (pi_list (pe_slice sl_list (pv 0) po_none (po_some pe_int))) (pg_name (i := 2) sc__law_draws.nd rfl (.inl rfl)) (pss_one (ps_set (i := 1) sc__law_draws.nd rfl (.inl rfl) (pe_op op_modN (pe_callTy call_int1 (by rfl) bi.int (by decide +kernel) (pa_cons (pe_op op_add (pe_op op_add (pe_op op_mul (pv 1) pe_int) (pe_op op_modN (pe_callTy call_int1 (by rfl) bi.int (by decide +kernel) (pa_cons (pv 2) pa_nil)) pe_int)) pe_int) pa_nil)) pe_int))))
      (pss_one (ps_ret (pe_lst (pa_cons (pe_callTy call_list_of (by rfl) bi.list (by decide +kernel) (pa_cons (pe_slice sl_list (pv 0) po_none (po_some pe_int)) pa_nil)) (pa_cons pe_int (pa_cons pe_int (pa_cons (pv 1) (pa_cons pe_int pa_nil)))))))))), ?_⟩
  obtain ⟨ms, hms⟩ := cutV_ints ns none (some 63)
  refine ⟨_, rfl, 63, rfl, a, _, rfl, hS, fun c nc => ?_⟩
  have k1 : Same H (upd H c (.lst (cutV (ns.map V.int) none (some 63)))) := same_new nc
  refine ⟨c, rfl, ⟨_, SqL.of upd_same⟩, for_list (xs := cutV (ns.map V.int) none (some 63)) (fun i σ' H' => ∃ st y2, σ' = [some (.ref a), some (.int st), y2] ∧ H' = upd H c (.lst (cutV (ns.map V.int) none (some 63)))) ?_ ?_ ?_ ?_⟩
  · exact ⟨_, none, rfl, rfl⟩
  · rintro i σ' H' _ ⟨st, y2, _, rfl⟩
    exact SqL.of upd_same
  · rintro i x σ' H' hx ⟨st, y2, rfl, rfl⟩
    rw [hms, List.getElem?_map] at hx
    obtain ⟨m, _, rfl⟩ := Option.map_eq_some_iff.mp hx
    refine ⟨_, rfl, _, _, rfl, rfl, .inr (by decide), _, rfl, .inl ⟨_, rfl, _, _, rfl, rfl, (show (2147483629 : Int) ≠ 0 by decide), _, _, rfl, rfl, _, _, rfl, rfl, .inl ⟨_, rfl, _, _, rfl, rfl, (show (2147483647 : Int) ≠ 0 by decide), ?_⟩⟩⟩
    exact ⟨_, _, rfl, rfl⟩
  · rintro σ' H' ⟨st, y2, rfl, rfl⟩
    refine ⟨_, rfl, 63, rfl, a, _, rfl, k1.seq hS, fun c2 nc2 => ?_⟩
    refine ⟨c2, _, rfl, .inl (SqL.of upd_same), fun l hl => ?_⟩
    refine ⟨_, rfl, (by show 5 ≤ sizeLine; decide), fun r hr' => ?_⟩
    have e1 := upd_same (H := upd (upd H c (.lst (cutV (ns.map V.int) none (some 63)))) c2 (.lst (cutV (ns.map V.int) none (some 63)))) (a := l) (o := .lst (cutV (ns.map V.int) none (some 63)))
    have lr := ne_of_none e1 hr'
    refine q r l _ ⟨ms, 0, 0, st, 0, upd_same, ?_, by decide, lr⟩ (k1.trans ((same_new nc2).trans ((same_new hl).trans (same_new hr'))))
    rw [upd_ne lr, e1, hms]
/-! ### _law_draw -/
def spDrawW : Sp := fun vs H Q _ => ∃ r l m, vs = [.ref r, .int m] ∧ 0 < m ∧ m.natAbs.log2 < 9000 ∧ Rng H r l ∧ ∀ (v : Int) H', 0 ≤ v → v < m → Rng H' r l → Kp r H H' → Q (.int v) H'
def spDraw : Sp := fun vs H Q _ => ∃ r l m, vs = [.ref r, .int m] ∧ 0 < m ∧ m < 1073741824 ∧ Rng H r l ∧ ∀ (v : Int) H', 0 ≤ v → v < m → Rng H' r l → Kp r H H' → Q (.int v) H'
theorem sc__law_draw : FnScope ["_law_rng", "_law_many", "_law_cell", "_law_digit", "_law_seed"] ["_law_rng", "_law_many"] (defScope s__law_draw) := ⟨rfl, rfl, rfl, by decide +kernel, rfl, by decide +kernel, by decide +kernel⟩
theorem ok_drawW (D : Df K mg "_law_draw" s__law_draw ["_law_rng", "_law_many"]) (bi : Bi mg) : Cal P w K mg base 1 "_law_draw" ["_law_rng", "_law_many"] spDrawW := by
  refine D.ok sc__law_draw (fun vs H Q E h => ?_) (fun f cdv A outer s H vs Q E hr h => ?_)
  · obtain ⟨r, l, m, rfl, _⟩ := h
    rfl
  obtain ⟨r, l, m, rfl, hm, hm2, ⟨ns, i, d, st, c, h1, h2, h3, h4⟩, q⟩ := h
  refine ⟨_, (pss_cons (ps_asg (pe_op op_add (pe_ix ix_list (pv 0) pe_int (fun _ _ => rfl)) pe_int) (pg_sub (pv 0) pe_int set_list))
      (C8.pss_cut (ps_if (PW.pt (pw_and (pt_cmpR op_eq (pe_ix ix_list (pv 0) pe_int (fun _ _ => rfl)) pe_int (nomark _)) (pw_and1 (pt_cmpR op_lt (pe_ix ix_list (pv 0) pe_int (fun _ _ => rfl)) (pe_callB call_len_seq (by rfl) bi.len PySem.boot_len (pa_cons (pe_ix ix_list (pv 0) pe_int (fun _ _ => rfl)) pa_nil)) (nomark _))))) (pss_cons (ps_set (i := 2) sc__law_draw.nd rfl (.inl rfl) (pe_ix ix_list (pe_ix ix_list (pv 0) pe_int (fun _ _ => rfl)) (pe_ix ix_list (pv 0) pe_int (fun _ _ => rfl)) (fun _ _ => rfl)))
      (pss_cons (ps_asg (pe_op op_add (pe_ix ix_list (pv 0) pe_int (fun _ _ => rfl)) pe_int) (pg_sub (pv 0) pe_int set_list))
      (pss_one (ps_if (pt_cmpR op_ge (pv 2) (pe_op op_pow pe_int pe_int) (nomark _)) (pss_one (ps_asg (pv 2) (pg_sub (pv 0) pe_int set_list))) (pss_one (ps_asg (pe_op op_modN (pe_callTy call_int1 (by rfl) bi.int (by decide +kernel) (pa_cons (pe_op op_add (pe_op op_add (pe_op op_mul (pe_ix ix_list (pv 0) pe_int (fun _ _ => rfl)) pe_int) (pe_op op_mul (pe_op op_modN (pe_callTy call_int1 (by rfl) bi.int (by decide +kernel) (pa_cons (pv 2) pa_nil)) pe_int) pe_int)) pe_int) pa_nil)) pe_int) (pg_sub (pv 0) pe_int set_list))))))) pss_nil)
      (pss_cons (ps_if (pt_cmpR op_gt (pe_ix ix_list (pv 0) pe_int (fun _ _ => rfl)) pe_int (nomark _)) (pss_cons (ps_set (i := 3) sc__law_draw.nd rfl (.inl rfl) (pe_op op_modN (pe_callTy call_int1 (by rfl) bi.int (by decide +kernel) (pa_cons (pe_ix ix_list (pv 0) pe_int (fun _ _ => rfl)) pa_nil)) (pv 1)))
      (pss_cons (ps_asg (pe_op op_fdivW (pe_ix ix_list (pv 0) pe_int (fun _ _ => rfl)) (pv 1)) (pg_sub (pv 0) pe_int set_list))
      (pss_one (ps_ret (pv 3))))) pss_nil)
      (pss_cons (ps_set (i := 4) sc__law_draw.nd rfl (.inl rfl) (pe_ix ix_list (pv 0) pe_int (fun _ _ => rfl)))
      (pss_cons (ps_asg (pe_op op_modN (pe_callTy call_int1 (by rfl) bi.int (by decide +kernel) (pa_cons (pe_op op_add (pe_op op_add (pe_op op_add (pe_op op_mul (pv 4) pe_int) (pe_op op_mul (pe_op op_fdivN (pv 4) pe_int) pe_int)) (pe_op op_mul (pe_ix ix_list (pv 0) pe_int (fun _ _ => rfl)) pe_int)) pe_int) pa_nil)) pe_int) (pg_sub (pv 0) pe_int set_list))
      (pss_one (ps_ret (pe_op op_modN (pe_callTy call_int1 (by rfl) bi.int (by decide +kernel) (pa_cons (pe_op op_add (pe_op op_fdivN (pe_ix ix_list (pv 0) pe_int (fun _ _ => rfl)) pe_int) (pe_op op_mul (pe_op op_modN (pe_callTy call_int1 (by rfl) bi.int (by decide +kernel) (pa_cons (pe_ix ix_list (pv 0) pe_int (fun _ _ => rfl)) pa_nil)) pe_int) pe_int)) pa_nil)) (pv 1))))))))), ?_⟩
  -- rng[4] += 1
  refine ⟨_, rfl, _, _, _, _, rfl, rfl, SqL.of h1, rfl, _, _, rfl, rfl, _, rfl, r, _, 4, 4, rfl, rfl, h1, rfl, ?_⟩
  have k1 : Kp r H (upd H r (.lst [.ref l, .int i, .int d, .int st, .int (c + 1)])) := Kp.at
  generalize e1 : upd H r (.lst (List.set [.ref l, .int i, .int d, .int st, .int c] 4 (.int (c + 1)))) = H1
  have g1 : H1 r = some (.lst [.ref l, .int i, .int d, .int st, .int (c + 1)]) := by
    rw [← e1]
    exact upd_same
  have k1 : Kp r H H1 := by
    rw [← e1]
    exact Kp.at
  have g2 := k1 _ _ h4 h2
  -- the first if: anything may stand in the three
  refine ⟨fun σ' H' => ∃ y2 i d st c, σ' = [some (.ref r), some (.int m), y2, none, none] ∧ H' r = some (.lst [.ref l, .int i, .int d, .int st, .int c]) ∧ 0 ≤ i ∧ Kp r H H', ?_, ?_⟩
  · refine ⟨_, rfl, _, _, _, _, rfl, rfl, SqL.of g1, rfl, rfl, _, rfl, ?_⟩
    refine ite2 (fun _ => ?_) (fun _ => ⟨none, i, d, st, c + 1, rfl, g1, h3, k1⟩)
    refine ⟨_, rfl, _, _, _, _, rfl, rfl, SqL.of g1, rfl, _, rfl, _, _, _, _, rfl, rfl, SqL.of g1, rfl, l, _, rfl, .inl (SqL.of g2), _, _, rfl, rfl, _, rfl, ?_⟩
    refine ite2 (fun hc => ?_) (fun _ => ⟨none, i, d, st, c + 1, rfl, g1, h3, k1⟩)
    have hc' : i < ((ns.map V.int).length : Int) := of_decide_eq_true hc
    rw [List.length_map] at hc'
    have hi : i.toNat < ns.length := by omega
    have ha : atI (ns.map V.int) i = some (.int ns[i.toNat]) := at_of (j := i.toNat) (by omega) (by rw [List.getElem?_map, List.getElem?_eq_getElem hi]; rfl)
    refine ⟨_, rfl, _, _, _, _, rfl, rfl, SqL.of g1, rfl, _, rfl, _, _, _, _, rfl, rfl, SqL.of g1, rfl, _, _, _, _, rfl, rfl, SqL.of g2, ha, ?_⟩
    refine ⟨_, rfl, _, _, _, _, rfl, rfl, SqL.of g1, rfl, _, _, rfl, rfl, _, rfl, r, _, 1, 1, rfl, rfl, g1, rfl, ?_⟩
    generalize e3 : upd H1 r (.lst (List.set [.ref l, .int i, .int d, .int st, .int (c + 1)] 1 (.int (i + 1)))) = H2
    have g3 : H2 r = some (.lst [.ref l, .int (i + 1), .int d, .int st, .int (c + 1)]) := by
      rw [← e3]
      exact upd_same
    have k3 : Kp r H H2 := by
      rw [← e3]
      exact k1.trans Kp.at
    refine ⟨_, rfl, _, _, rfl, rfl, ⟨by decide, by decide, by decide⟩, _, _, rfl, rfl, _, rfl, ?_⟩
    refine ite2 (fun _ => ?_) (fun _ => ?_)
    · refine ⟨_, rfl, _, rfl, r, _, 2, 2, rfl, rfl, g3, rfl, ?_⟩
      exact ⟨_, i + 1, _, st, c + 1, rfl, upd_same, by omega, k3.trans Kp.at⟩
    · refine ⟨_, rfl, _, _, _, _, rfl, rfl, SqL.of g3, rfl, _, _, rfl, rfl, .inr (by decide), ?_⟩
      refine ⟨_, rfl, .inl ⟨_, rfl, _, _, rfl, rfl, (show (2147483629 : Int) ≠ 0 by decide), _, _, rfl, rfl, .inr (by decide), _, _, rfl, rfl, _, _, rfl, rfl, .inl ⟨_, rfl, _, _, rfl, rfl, (show (2147483647 : Int) ≠ 0 by decide), ?_⟩⟩⟩
      refine ⟨_, rfl, r, _, 3, 3, rfl, rfl, g3, rfl, ?_⟩
      exact ⟨_, i + 1, d, _, c + 1, rfl, upd_same, by omega, k3.trans Kp.at⟩
  · rintro σ' H' ⟨y2, i, d, st, c, rfl, g1, h3, k1⟩
    refine ⟨_, rfl, _, _, _, _, rfl, rfl, SqL.of g1, rfl, _, _, rfl, rfl, _, rfl, ?_⟩
    refine ite2 (fun _ => ?_) (fun _ => ?_)
    · refine ⟨_, rfl, _, _, _, _, rfl, rfl, SqL.of g1, rfl, .inl ⟨_, rfl, _, rfl, _, _, rfl, rfl, by omega, ?_⟩⟩
      refine ⟨_, rfl, _, _, _, _, rfl, rfl, SqL.of g1, rfl, _, rfl, _, _, rfl, rfl, ⟨hm, hm2⟩, _, rfl, r, _, 2, 2, rfl, rfl, g1, rfl, ?_⟩
      refine ⟨_, rfl, q _ _ (Int.fmod_nonneg_of_pos _ hm) (Int.fmod_lt_of_pos _ hm) ?_ (k1.trans Kp.at)⟩
      exact ⟨ns, i, _, st, c, upd_same, (k1.trans Kp.at) _ _ h4 h2, h3, h4⟩
    · refine ⟨_, rfl, _, _, _, _, rfl, rfl, SqL.of g1, rfl, ?_⟩
      refine ⟨_, rfl, _, _, rfl, rfl, .inr (by decide), _, rfl, _, _, rfl, rfl, ⟨by decide, by decide⟩, _, _, rfl, rfl, .inr (by decide), _, _, rfl, rfl, _, rfl, _, _, _, _, rfl, rfl, SqL.of g1, rfl, _, _, rfl, rfl, .inr (by decide), _, _, rfl, rfl, _, _, rfl, rfl, .inl ⟨_, rfl, _, _, rfl, rfl, (show (2147483647 : Int) ≠ 0 by decide), ?_⟩⟩
      refine ⟨_, rfl, r, _, 3, 3, rfl, rfl, g1, rfl, ?_⟩
      refine ⟨_, rfl, _, _, _, _, rfl, rfl, SqL.of upd_same, rfl, _, _, rfl, rfl, ⟨by decide, by decide⟩, _, rfl, _, _, _, _, rfl, rfl, SqL.of upd_same, rfl, .inl ⟨_, rfl, _, _, rfl, rfl, (show (7919 : Int) ≠ 0 by decide), _, _, rfl, rfl, .inr (by decide), _, _, rfl, rfl, .inl ⟨_, rfl, _, rfl, _, _, rfl, rfl, by omega, ?_⟩⟩⟩
      refine q _ _ (Int.fmod_nonneg_of_pos _ hm) (Int.fmod_lt_of_pos _ hm) ?_ (k1.trans Kp.at)
      exact ⟨ns, i, _, _, c, upd_same, (k1.trans Kp.at) _ _ h4 h2, h3, h4⟩
theorem ok_draw (D : Df K mg "_law_draw" s__law_draw ["_law_rng", "_law_many"]) (bi : Bi mg) : Cal P w K mg base 1 "_law_draw" ["_law_rng", "_law_many"] spDraw := (ok_drawW D bi).imp fun vs H Q E h => by
  obtain ⟨r, l, m, e, hm, hm2, h⟩ := h
  exact ⟨r, l, m, e, hm, Nat.lt_of_lt_of_le (PySem.Flt.log2_lt_of (k := 30) (by decide) (by omega)) (by decide), h⟩
/-! ### _law_pick -/
def spPick : Sp := fun vs H Q _ => ∃ r l t xs, vs = [.ref r, .ref t] ∧ Rng H r l ∧ H t = some (.lst xs) ∧ t ≠ r ∧ 0 < xs.length ∧ xs.length ≤ 1000 ∧ ∀ (j : Nat) x H', xs[j]? = some x → Rng H' r l → Kp r H H' → Q x H'
theorem sc__law_pick : FnScope ["_law_rng", "_law_things"] ["_law_rng", "_law_things"] (defScope s__law_pick) := ⟨rfl, rfl, rfl, by decide +kernel, rfl, by decide +kernel, by decide +kernel⟩
theorem ok_pick (D : Df K mg "_law_pick" s__law_pick ["_law_rng", "_law_things"]) (bi : Bi mg) (c_law_draw : Cal P w K mg base 1 "_law_draw" ["_law_rng", "_law_many"] spDraw) : Cal P w K mg base 2 "_law_pick" ["_law_rng", "_law_things"] spPick := by
  refine D.ok sc__law_pick (fun vs H Q E h => ?_) (fun f cdv A outer s H vs Q E hr h => ?_)
  · obtain ⟨r, l, t, xs, rfl, _⟩ := h
    rfl
  obtain ⟨r, l, t, xs, rfl, g, ht, hne, h0, h1, q⟩ := h
  refine ⟨_, (pss_one (ps_ret (pe_ix ix_list (pv 1) (pe_own c_law_draw hr (by omega) (by rfl) (pa_cons (pv 0) (pa_cons (pe_callB call_len_seq (by rfl) bi.len PySem.boot_len (pa_cons (pv 1) pa_nil)) pa_nil))) (fun _ _ => rfl)))), ?_⟩
  refine ⟨_, rfl, _, rfl, _, rfl, t, xs, rfl, .inl (SqL.of ht), r, l, _, rfl, by omega, by omega, g, fun v H1 hv0 hv1 g1 k1 => ?_⟩
  have hv : v.toNat < xs.length := by omega
  exact ⟨t, xs, v, xs[v.toNat], rfl, rfl, SqL.of (k1 _ _ hne ht), at_of (j := v.toNat) (by omega) (List.getElem?_eq_getElem hv), q v.toNat _ H1 (List.getElem?_eq_getElem hv) g1 k1⟩
/-! ### _law_great -/
def spGreat : Sp := fun vs H Q _ => ∃ r l, vs = [.ref r] ∧ Rng H r l ∧ ∀ (v : Int) H', 2 ≤ v → v ≤ 1000000000000000000000000000000 → Rng H' r l → Kp r H H' → Q (.int v) H'
theorem sc__law_great : FnScope ["_law_rng"] ["_law_rng"] (defScope s__law_great) := ⟨rfl, rfl, rfl, by decide +kernel, rfl, by decide +kernel, by decide +kernel⟩
theorem ok_great (D : Df K mg "_law_great" s__law_great ["_law_rng"]) (bi : Bi mg) (c_law_draw : Cal P w K mg base 1 "_law_draw" ["_law_rng", "_law_many"] spDraw) (c_law_pick : Cal P w K mg base 2 "_law_pick" ["_law_rng", "_law_things"] spPick) : Cal P w K mg base 3 "_law_great" ["_law_rng"] spGreat := by
  refine D.ok sc__law_great (fun vs H Q E h => ?_) (fun f cdv A outer s H vs Q E hr h => ?_)
  · obtain ⟨r, l, rfl, _⟩ := h
    rfl
  obtain ⟨r, l, rfl, g, q⟩ := h
  refine ⟨_, (pss_one (ps_ret (pe_own c_law_pick hr (by omega) (by rfl) (pa_cons (pv 0) (pa_cons (pe_lst (pa_cons (pe_op op_pow pe_int pe_int) (pa_cons (pe_op op_sub (pe_op op_sub (pe_op op_pow pe_int pe_int) pe_int) (pe_own c_law_draw hr (by omega) (by rfl) (pa_cons (pv 0) (pa_cons (pe_op op_pow pe_int pe_int) pa_nil)))) (pa_cons (pe_op op_add (pe_op op_pow pe_int pe_int) (pe_own c_law_draw hr (by omega) (by rfl) (pa_cons (pv 0) (pa_cons (pe_op op_pow pe_int pe_int) pa_nil)))) pa_nil)))) pa_nil))))), ?_⟩
  refine ⟨_, rfl, ?_⟩
  refine ⟨_, _, rfl, rfl, ⟨by decide, by decide, by decide⟩, _, _, rfl, rfl, ⟨by decide, by decide, by decide⟩, _, _, rfl, rfl, _, rfl, _, _, rfl, rfl, ⟨by decide, by decide, by decide⟩, ?_⟩
  refine ⟨r, l, _, rfl, by decide, by decide, g, fun v1 H1 a1 b1 g1 k1 => ?_⟩
  have b1' : v1 < 1000000000 := b1
  refine ⟨_, _, rfl, rfl, _, _, rfl, rfl, ⟨by decide, by decide, by decide⟩, _, rfl, _, _, rfl, rfl, ⟨by decide, by decide, by decide⟩, ?_⟩
  refine ⟨r, l, _, rfl, by decide, by decide, g1, fun v2 H2 a2 b2 g2 k2 => ?_⟩
  have b2' : v2 < 1000000000 := b2
  refine ⟨_, _, rfl, rfl, (by show 3 ≤ sizeLine; decide), fun p hp => ?_⟩
  obtain ⟨z, hz⟩ := g2.lst
  refine ⟨r, l, p, _, rfl, g2.new hp, upd_same, (ne_of_none hz hp).symm, Nat.succ_pos _, (by show 3 ≤ 1000; decide), fun j x H3 e g3 k3 => ?_⟩
  have kk : Kp r H H3 := (k1.trans k2).trans ((Kp.new hp).trans k3)
  match j, e with
  | 0, e => cases e; exact q _ H3 (by decide) (by decide) g3 kk
  | 1, e => cases e; exact q _ H3 (by show 2 ≤ (1000000000000000000000000000000 : Int) - 1 - v1; omega) (by show (1000000000000000000000000000000 : Int) - 1 - v1 ≤ _; omega) g3 kk
  | 2, e => cases e; exact q _ H3 (by show 2 ≤ (1000000000000000000 : Int) + v2; omega) (by show (1000000000000000000 : Int) + v2 ≤ _; omega) g3 kk
/-! ### _law_same of equal data -/
def spSame (K : PySem.W.Frag) : Nat → Sp
  | 0 => fun _ _ _ _ => False
  | n + 1 => fun vs H Q _ => ∃ x y d, vs = [x, y] ∧ Dp K H x d ∧ Dp K H y d ∧ Sm n d ∧ ∀ H', Same H H' → Q (.bl true) H'
theorem sc__law_same : FnScope ["_law_found", "_law_due", "_law_a", "_law_b"] ["_law_found", "_law_due"] (defScope s__law_same) := ⟨rfl, rfl, rfl, by decide +kernel, rfl, by decide +kernel, by decide +kernel⟩
theorem ok_same1 {n : Nat} (D : Df K mg "_law_same" s__law_same ["_law_found", "_law_due"]) (bi : Bi mg) (c_law_same : Cal P w K mg base n "_law_same" ["_law_found", "_law_due"] (spSame K n)) :
    Cal P w K mg base (n + 1) "_law_same" ["_law_found", "_law_due"] (spSame K (n + 1)) := by
  refine D.ok sc__law_same (fun vs H Q E h => ?_) (fun f cdv A outer s H vs Q E hr h => ?_)
  · obtain ⟨x, y, d, rfl, _⟩ := h
    rfl
  obtain ⟨x, y, d, rfl, hx, hy, hs, q⟩ := h
  refine ⟨_, (pss_cons (ps_if (PW.pt (pw_or (pt_val (pe_callB call_isi (by rfl) bi.isinstance (by decide +kernel) (pa_cons (pv 1) (pa_cons (pe_bltn (v := .ty "list") (u := .type "list") (by rfl) bi.list (by decide +kernel) rfl) pa_nil)))) (pw_or1 (pt_val (pe_callB call_isi (by rfl) bi.isinstance (by decide +kernel) (pa_cons (pv 1) (pa_cons (pe_bltn (v := .ty "tuple") (u := .type "tuple") (by rfl) bi.tuple (by decide +kernel) rfl) pa_nil))))))) (pss_cons (ps_if (PW.pt (pw_or (pt_cmpR op_ne (pe_callB call_isi (by rfl) bi.isinstance (by decide +kernel) (pa_cons (pv 0) (pa_cons (pe_bltn (v := .ty "list") (u := .type "list") (by rfl) bi.list (by decide +kernel) rfl) pa_nil))) (pe_callB call_isi (by rfl) bi.isinstance (by decide +kernel) (pa_cons (pv 1) (pa_cons (pe_bltn (v := .ty "list") (u := .type "list") (by rfl) bi.list (by decide +kernel) rfl) pa_nil))) (nomark _)) (pw_or1 (pt_cmpR op_ne (pe_callB call_isi (by rfl) bi.isinstance (by decide +kernel) (pa_cons (pv 0) (pa_cons (pe_bltn (v := .ty "tuple") (u := .type "tuple") (by rfl) bi.tuple (by decide +kernel) rfl) pa_nil))) (pe_callB call_isi (by rfl) bi.isinstance (by decide +kernel) (pa_cons (pv 1) (pa_cons (pe_bltn (v := .ty "tuple") (u := .type "tuple") (by rfl) bi.tuple (by decide +kernel) rfl) pa_nil))) (nomark _))))) (pss_one (ps_ret pe_bl)) pss_nil)
      (pss_one (ps_ret (pe_and (pe_cmpR op_eq (pe_callB call_len_seq (by rfl) bi.len PySem.boot_len (pa_cons (pv 0) pa_nil)) (pe_callB call_len_seq (by rfl) bi.len PySem.boot_len (pa_cons (pv 1) pa_nil)) (nomark _)) (pe_one (pe_callB (cr_all rfl) (by rfl) bi.all (by decide +kernel) (pa_cons (pe_lc (own := [("_law_a", 2), ("_law_b", 3)]) (g := gTup K 2 (gCons (gName 2) (gCons (gName 3) gNil))) (tt := tYes) rfl sc__law_same.nd (RZ.pi_zipA (by rfl) bi.zip (pa_cons (pv 0) (pa_cons (pv 1) pa_nil))) (blkOk_by (N := ["_law_found", "_law_due", "_law_a", "_law_b"]) (sc := defScope s__law_same) (by decide +kernel)) (fun _ _ _ _ _ => (pg_tup rfl (pgs_cons (pg_name (i := 2) sc__law_same.nd rfl (.inl rfl)) (pgs_cons (pg_name (i := 3) sc__law_same.nd rfl (.inl rfl)) pgs_nil)))) (fun _ _ _ _ _ => pts_nil) (fun _ _ _ _ _ => (pe_own c_law_same hr (by omega) (by rfl) (pa_cons (pv 2) (pa_cons (pv 3) pa_nil))))) pa_nil))))))) pss_nil)
      (pss_cons (ps_if (PW.pt (pw_or (pt_cmpR op_isN (pv 1) pe_non (nomark _)) (pw_or1 (pt_cmpR op_isN (pv 0) pe_non (nomark _))))) (pss_one (ps_ret (pe_and (pe_cmpR op_isN (pv 1) pe_non (nomark _)) (pe_one (pe_cmpR op_isN (pv 0) pe_non (nomark _)))))) pss_nil)
      (pss_cons (ps_if (PW.pt (pw_or (pt_cmpR op_ne (pe_callB call_isi (by rfl) bi.isinstance (by decide +kernel) (pa_cons (pv 1) (pa_cons (pe_bltn (v := .ty "bool") (u := .type "bool") (by rfl) bi.bool (by decide +kernel) rfl) pa_nil))) (pe_callB call_isi (by rfl) bi.isinstance (by decide +kernel) (pa_cons (pv 0) (pa_cons (pe_bltn (v := .ty "bool") (u := .type "bool") (by rfl) bi.bool (by decide +kernel) rfl) pa_nil))) (nomark _)) (pw_or1 (pt_cmpR op_ne (pe_callB call_isi (by rfl) bi.isinstance (by decide +kernel) (pa_cons (pv 1) (pa_cons (pe_bltn (v := .ty "int") (u := .type "int") (by rfl) bi.int (by decide +kernel) rfl) pa_nil))) (pe_callB call_isi (by rfl) bi.isinstance (by decide +kernel) (pa_cons (pv 0) (pa_cons (pe_bltn (v := .ty "int") (u := .type "int") (by rfl) bi.int (by decide +kernel) rfl) pa_nil))) (nomark _))))) (pss_one (ps_ret pe_bl)) pss_nil)
      (pss_one (ps_ret (pe_and (pe_cmpR op_eq (pe_callB call_isi (by rfl) bi.isinstance (by decide +kernel) (pa_cons (pv 1) (pa_cons (pe_bltn (v := .ty "str") (u := .type "str") (by rfl) bi.str (by decide +kernel) rfl) pa_nil))) (pe_callB call_isi (by rfl) bi.isinstance (by decide +kernel) (pa_cons (pv 0) (pa_cons (pe_bltn (v := .ty "str") (u := .type "str") (by rfl) bi.str (by decide +kernel) rfl) pa_nil))) (nomark _)) (pe_one (pe_cmpR op_eq (pv 0) (pv 1) (nomark _))))))))), ?_⟩
  have q0 := q H (fun _ _ e => e)
  cases d with
  | none =>
    cases hx
    cases hy
    refine ⟨_, rfl, _, _, _, _, false, rfl, .ty _, .base .non, kit_ty (by decide +kernel), _, rfl, ?_⟩
    refine ⟨_, rfl, _, _, _, _, false, rfl, .ty _, .base .non, kit_ty (by decide +kernel), _, rfl, ?_⟩
    refine ⟨_, rfl, rfl, _, rfl, ?_⟩
    refine ⟨_, rfl, rfl, _, rfl, ?_⟩
    exact ⟨_, rfl, rfl, q0⟩
  | bool b =>
    cases hx
    cases hy
    refine ⟨_, rfl, _, _, _, _, false, rfl, .ty _, .base (.bl b), kit_ty (by decide +kernel), _, rfl, ?_⟩
    refine ⟨_, rfl, _, _, _, _, false, rfl, .ty _, .base (.bl b), kit_ty (by decide +kernel), _, rfl, ?_⟩
    refine ⟨_, rfl, rfl, _, rfl, ?_⟩
    refine ⟨_, rfl, rfl, _, rfl, ?_⟩
    refine ⟨_, rfl, _, _, _, _, true, rfl, .ty _, .base (.bl b), kit_ty (by decide +kernel), _, rfl, _, _, _, _, true, rfl, .ty _, .base (.bl b), kit_ty (by decide +kernel), rfl, _, rfl, ?_⟩
    refine ⟨_, rfl, _, _, _, _, true, rfl, .ty _, .base (.bl b), kit_ty (by decide +kernel), _, rfl, _, _, _, _, true, rfl, .ty _, .base (.bl b), kit_ty (by decide +kernel), rfl, _, rfl, ?_⟩
    refine ⟨_, rfl, _, _, _, _, false, rfl, .ty _, .base (.bl b), kit_ty (by decide +kernel), _, rfl, _, _, _, _, false, rfl, .ty _, .base (.bl b), kit_ty (by decide +kernel), rfl, _, rfl, ?_⟩
    refine ⟨_, rfl, _, rfl, rfl, ?_⟩
    rw [decide_eq_true rfl]
    exact q0
  | int i =>
    cases hx
    cases hy
    refine ⟨_, rfl, _, _, _, _, false, rfl, .ty _, .base (.int i), kit_ty (by decide +kernel), _, rfl, ?_⟩
    refine ⟨_, rfl, _, _, _, _, false, rfl, .ty _, .base (.int i), kit_ty (by decide +kernel), _, rfl, ?_⟩
    refine ⟨_, rfl, rfl, _, rfl, ?_⟩
    refine ⟨_, rfl, rfl, _, rfl, ?_⟩
    refine ⟨_, rfl, _, _, _, _, false, rfl, .ty _, .base (.int i), kit_ty (by decide +kernel), _, rfl, _, _, _, _, false, rfl, .ty _, .base (.int i), kit_ty (by decide +kernel), rfl, _, rfl, ?_⟩
    refine ⟨_, rfl, _, _, _, _, true, rfl, .ty _, .base (.int i), kit_ty (by decide +kernel), _, rfl, _, _, _, _, true, rfl, .ty _, .base (.int i), kit_ty (by decide +kernel), rfl, _, rfl, ?_⟩
    refine ⟨_, rfl, _, _, _, _, false, rfl, .ty _, .base (.int i), kit_ty (by decide +kernel), _, rfl, _, _, _, _, false, rfl, .ty _, .base (.int i), kit_ty (by decide +kernel), rfl, _, rfl, ?_⟩
    refine ⟨_, rfl, _, rfl, rfl, ?_⟩
    rw [decide_eq_true rfl]
    exact q0
  | str z =>
    cases hx
    cases hy
    refine ⟨_, rfl, _, _, _, _, false, rfl, .ty _, .base (.str z), kit_ty (by decide +kernel), _, rfl, ?_⟩
    refine ⟨_, rfl, _, _, _, _, false, rfl, .ty _, .base (.str z), kit_ty (by decide +kernel), _, rfl, ?_⟩
    refine ⟨_, rfl, rfl, _, rfl, ?_⟩
    refine ⟨_, rfl, rfl, _, rfl, ?_⟩
    refine ⟨_, rfl, _, _, _, _, false, rfl, .ty _, .base (.str z), kit_ty (by decide +kernel), _, rfl, _, _, _, _, false, rfl, .ty _, .base (.str z), kit_ty (by decide +kernel), rfl, _, rfl, ?_⟩
    refine ⟨_, rfl, _, _, _, _, false, rfl, .ty _, .base (.str z), kit_ty (by decide +kernel), _, rfl, _, _, _, _, false, rfl, .ty _, .base (.str z), kit_ty (by decide +kernel), rfl, _, rfl, ?_⟩
    refine ⟨_, rfl, _, _, _, _, true, rfl, .ty _, .base (.str z), kit_ty (by decide +kernel), _, rfl, _, _, _, _, true, rfl, .ty _, .base (.str z), kit_ty (by decide +kernel), rfl, _, rfl, ?_⟩
    refine ⟨_, rfl, _, rfl, rfl, ?_⟩
    rw [decide_eq_true rfl]
    exact q0
  | list ds =>
    cases hx with | lst sx ax => ?_
    cases hy with | lst sy ay => ?_
    rename_i a xs b ys
    have lx := DpAll.length ax
    have ly := DpAll.length ay
    cases n with
    | zero => exact hs.elim
    | succ m =>
    unfold Sm at hs
    refine ⟨_, rfl, _, _, _, _, true, rfl, .ty _, SqL.ty sy, kit_ty (by decide +kernel), _, rfl, ?_⟩
    
    refine ⟨_, rfl, _, _, _, _, true, rfl, .ty _, SqL.ty sx, kit_ty (by decide +kernel), _, rfl, _, _, _, _, true, rfl, .ty _, SqL.ty sy, kit_ty (by decide +kernel), rfl, _, rfl, ?_⟩
    refine ⟨_, rfl, _, _, _, _, false, rfl, .ty _, SqL.ty sx, kit_ty (by decide +kernel), _, rfl, _, _, _, _, false, rfl, .ty _, SqL.ty sy, kit_ty (by decide +kernel), rfl, _, rfl, ?_⟩
    refine ⟨_, rfl, _, _, rfl, .inl sx, _, rfl, _, _, rfl, .inl sy, rfl, _, rfl, ite2 (fun _ => ?_) (fun ne => absurd (by rw [lx, ly]; exact decide_eq_true rfl) ne)⟩
    refine ⟨_, rfl, _, rfl, a, b, xs, ys, rfl, .inl ⟨sx, sy, fun Dd hD => ?_⟩⟩
    refine lcz (n := min xs.length ys.length) (walk_zip rfl) (by decide) (fun i H2 => H2 Dd = some (.lst ((List.replicate i true).map V.bl)) ∧ Same H H2) ?_ ?_ ?_ ?_
    · exact ⟨upd_same, same_new hD⟩
    · rintro i H2 _ ⟨_, s2⟩
      exact ⟨s2.seq sx, s2.seq sy⟩
    · rintro i x y T H2 hi e1 e2 ⟨hA, s2⟩ hT
      obtain ⟨d1, g1, h1⟩ := DpAll.get ax e1
      obtain ⟨d2, g2, h2⟩ := DpAll.get ay e2
      have e := Option.some.inj (g1.symm.trans g2)
      subst e
      have s3 : Same H (upd H2 T (.tup [x, y])) := s2.trans (same_new hT)
      refine ⟨_, rfl, _, rfl, _, _, d1, rfl, Dp.same s3 _ h1, Dp.same s3 _ h2, hs.2 d1 (List.mem_of_getElem? g1), fun H4 s4 => ?_⟩
      have hA4 := s4 _ _ (same_new hT _ _ hA)
      refine ⟨_, hA4, ?_, ?_, ?_⟩
      · rw [List.length_map, List.length_replicate]
        exact Nat.lt_of_le_of_lt (show i ≤ 1000 by omega) (by decide)
      · rw [upd_same, rep_snoc]
      · intro b o hb
        rw [upd_ne (ne_of_none hb hD)]
        exact s4 _ _ (s3 _ _ hb)
    · rintro H2 ⟨hA, s2⟩
      refine ⟨Dd, _, rfl, SqL.of hA, ?_⟩
      rw [all_true]
      exact q H2 s2
  | tuple ds =>
    cases hx with | tup sx ax => ?_
    cases hy with | tup sy ay => ?_
    rename_i a xs b ys
    have lx := DpAll.length ax
    have ly := DpAll.length ay
    cases n with
    | zero => exact hs.elim
    | succ m =>
    unfold Sm at hs
    refine ⟨_, rfl, _, _, _, _, false, rfl, .ty _, SqT.ty sy, kit_ty (by decide +kernel), _, rfl, ?_⟩
    refine ⟨_, rfl, _, _, _, _, true, rfl, .ty _, SqT.ty sy, kit_ty (by decide +kernel), _, rfl, ?_⟩
    refine ⟨_, rfl, _, _, _, _, false, rfl, .ty _, SqT.ty sx, kit_ty (by decide +kernel), _, rfl, _, _, _, _, false, rfl, .ty _, SqT.ty sy, kit_ty (by decide +kernel), rfl, _, rfl, ?_⟩
    refine ⟨_, rfl, _, _, _, _, true, rfl, .ty _, SqT.ty sx, kit_ty (by decide +kernel), _, rfl, _, _, _, _, true, rfl, .ty _, SqT.ty sy, kit_ty (by decide +kernel), rfl, _, rfl, ?_⟩
    refine ⟨_, rfl, _, _, rfl, .inr sx, _, rfl, _, _, rfl, .inr sy, rfl, _, rfl, ite2 (fun _ => ?_) (fun ne => absurd (by rw [lx, ly]; exact decide_eq_true rfl) ne)⟩
    refine ⟨_, rfl, _, rfl, a, b, xs, ys, rfl, .inr ⟨sx, sy, fun Dd hD => ?_⟩⟩
    refine lcz (n := min xs.length ys.length) (walk_zipT rfl) (by decide) (fun i H2 => H2 Dd = some (.lst ((List.replicate i true).map V.bl)) ∧ Same H H2) ?_ ?_ ?_ ?_
    · exact ⟨upd_same, same_new hD⟩
    · rintro i H2 _ ⟨_, s2⟩
      exact ⟨(tp_same s2).sq sx, (tp_same s2).sq sy⟩
    · rintro i x y T H2 hi e1 e2 ⟨hA, s2⟩ hT
      obtain ⟨d1, g1, h1⟩ := DpAll.get ax e1
      obtain ⟨d2, g2, h2⟩ := DpAll.get ay e2
      have e := Option.some.inj (g1.symm.trans g2)
      subst e
      have s3 : Same H (upd H2 T (.tup [x, y])) := s2.trans (same_new hT)
      refine ⟨_, rfl, _, rfl, _, _, d1, rfl, Dp.same s3 _ h1, Dp.same s3 _ h2, hs.2 d1 (List.mem_of_getElem? g1), fun H4 s4 => ?_⟩
      have hA4 := s4 _ _ (same_new hT _ _ hA)
      refine ⟨_, hA4, ?_, ?_, ?_⟩
      · rw [List.length_map, List.length_replicate]
        exact Nat.lt_of_le_of_lt (show i ≤ 1000 by omega) (by decide)
      · rw [upd_same, rep_snoc]
      · intro b o hb
        rw [upd_ne (ne_of_none hb hD)]
        exact s4 _ _ (s3 _ _ hb)
    · rintro H2 ⟨hA, s2⟩
      refine ⟨Dd, _, rfl, SqL.of hA, ?_⟩
      rw [all_true]
      exact q H2 s2
  | dict ds => cases hx
theorem ok_same (D : Df K mg "_law_same" s__law_same ["_law_found", "_law_due"]) (bi : Bi mg) : ∀ n : Nat, Cal P w K mg base n "_law_same" ["_law_found", "_law_due"] (spSame K n)
  | 0 => D.no fun vs H Q E h => h.elim
  | n + 1 => ok_same1 D bi (ok_same D bi n)
/-! ### _law_tree -/
def spTree (K : PySem.W.Frag) (d : Nat) : Sp := fun vs H Q _ => ∃ r l k a b e, vs = [.ref r, .ref k, .int e] ∧ e = (d : Int) ∧ 1 ≤ d ∧ Rng H r l ∧ H k = some (.lst [.int a, .int b]) ∧ k ≠ r ∧ k ≠ l ∧
  ∀ v t a' b' H', WV K H' v t → t.Ok abc → t.dep ≤ d → Rng H' r l → H' k = some (.lst [.int a', .int b']) → Kp2 r k H H' → Q v H'
theorem sc__law_tree : FnScope ["_law_rng", "_law_kit", "_law_deep", "_law_way", "_law_k"] ["_law_rng", "_law_kit", "_law_deep"] (defScope s__law_tree) := ⟨rfl, rfl, rfl, by decide +kernel, rfl, by decide +kernel, by decide +kernel⟩
theorem ok_tree1 {n : Nat} (D : Df K mg "_law_tree" s__law_tree ["_law_rng", "_law_kit", "_law_deep"]) (bi : Bi mg) (c_law_draw : Cal P w K mg base 1 "_law_draw" ["_law_rng", "_law_many"] spDraw) (c_law_pick : Cal P w K mg base 2 "_law_pick" ["_law_rng", "_law_things"] spPick)
    (c_law_tree : Cal P w K mg base (n + 2) "_law_tree" ["_law_rng", "_law_kit", "_law_deep"] (spTree K n)) : Cal P w K mg base (n + 3) "_law_tree" ["_law_rng", "_law_kit", "_law_deep"] (spTree K (n + 1)) := by
  refine D.ok sc__law_tree (fun vs H Q E h => ?_) (fun f cdv A outer s H vs Q E hr h => ?_)
  · obtain ⟨r, l, k, a, b, e, rfl, _⟩ := h
    rfl
  obtain ⟨r, l, k, a, b, e, rfl, he, hd, g, hk, kr, kl, q⟩ := h
  refine ⟨_, (pss_cons (ps_if (pt_cmpR op_lt (pe_ix ix_list (pv 1) pe_int (fun _ _ => rfl)) pe_int (nomark _)) (pss_one (ps_ret (pe_tup (pa_cons pe_str pa_nil)))) pss_nil)
      (C8.pss_cut (ps_set (i := 3) sc__law_tree.nd rfl (.inl rfl) (pe_ifExp (pt_cmpR op_gt (pv 2) pe_int (nomark _)) (pe_own c_law_draw hr (by omega) (by rfl) (pa_cons (pv 0) (pa_cons pe_int pa_nil))) (pe_own c_law_draw hr (by omega) (by rfl) (pa_cons (pv 0) (pa_cons pe_int pa_nil)))))
      (pss_cons (ps_if (pt_cmpR op_lt (pv 3) pe_int (nomark _)) (pss_cons (ps_asg (pe_op op_sub (pe_ix ix_list (pv 1) pe_int (fun _ _ => rfl)) pe_int) (pg_sub (pv 1) pe_int set_list))
      (pss_one (ps_ret (pe_tup (pa_cons pe_str (pa_cons (pe_own c_law_pick hr (by omega) (by rfl) (pa_cons (pv 0) (pa_cons (pe_lst (pa_cons pe_str (pa_cons pe_str (pa_cons pe_str pa_nil)))) pa_nil))) pa_nil)))))) pss_nil)
      (pss_cons (ps_if (pt_cmpR op_eq (pv 3) pe_int (nomark _)) (pss_one (ps_ret (pe_tup (pa_cons pe_str pa_nil)))) pss_nil)
      (pss_cons (ps_if (pt_cmpR op_lt (pv 3) pe_int (nomark _)) (pss_one (ps_ret (pe_tup (pa_cons pe_str (pa_cons (pe_callTy call_tuple_of (by rfl) bi.tuple (by decide +kernel) (pa_cons (pe_lc (own := [("_law_k", 4)]) (g := gName 4) (tt := tYes) rfl sc__law_tree.nd (pi_range1 (by rfl) bi.range (pa_cons (pe_op op_add pe_int (pe_own c_law_draw hr (by omega) (by rfl) (pa_cons (pv 0) (pa_cons pe_int pa_nil)))) pa_nil)) (blkOk_by (N := ["_law_rng", "_law_kit", "_law_deep", "_law_way", "_law_k"]) (sc := defScope s__law_tree) (by decide +kernel)) (fun _ _ _ _ _ => (pg_name (i := 4) sc__law_tree.nd rfl (.inl rfl))) (fun _ _ _ _ _ => pts_nil) (fun _ _ _ _ _ => (pe_own c_law_tree hr (by omega) (by rfl) (pa_cons (pv 0) (pa_cons (pv 1) (pa_cons (pe_op op_sub (pv 2) pe_int) pa_nil)))))) pa_nil)) pa_nil))))) pss_nil)
      (pss_cons (ps_if (pt_cmpR op_eq (pv 3) pe_int (nomark _)) (pss_one (ps_ret (pe_tup (pa_cons pe_str (pa_cons (pe_own c_law_tree hr (by omega) (by rfl) (pa_cons (pv 0) (pa_cons (pv 1) (pa_cons (pe_op op_sub (pv 2) pe_int) pa_nil)))) (pa_cons (pe_own c_law_draw hr (by omega) (by rfl) (pa_cons (pv 0) (pa_cons pe_int pa_nil))) pa_nil)))))) pss_nil)
      (pss_cons (ps_if (pt_cmpR op_lt (pe_ix ix_list (pv 1) pe_int (fun _ _ => rfl)) pe_int (nomark _)) (pss_one (ps_ret (pe_own c_law_tree hr (by omega) (by rfl) (pa_cons (pv 0) (pa_cons (pv 1) (pa_cons (pe_op op_sub (pv 2) pe_int) pa_nil)))))) pss_nil)
      (pss_cons (ps_asg (pe_op op_sub (pe_ix ix_list (pv 1) pe_int (fun _ _ => rfl)) pe_int) (pg_sub (pv 1) pe_int set_list))
      (pss_one (ps_ret (pe_tup (pa_cons (pe_ix ix_list (pe_lst (pa_cons pe_str (pa_cons pe_str pa_nil))) (pe_op op_sub (pv 3) pe_int) (fun _ _ => rfl)) (pa_cons (pe_own c_law_tree hr (by omega) (by rfl) (pa_cons (pv 0) (pa_cons (pv 1) (pa_cons (pe_op op_sub (pv 2) pe_int) pa_nil)))) pa_nil))))))))))))), ?_⟩
  -- an empty kit
  refine ⟨_, rfl, _, _, _, _, rfl, rfl, SqL.of hk, rfl, _, _, rfl, rfl, _, rfl, ite2 (fun _ => ?_) (fun _ => ?_)⟩
  · refine ⟨(by show 1 ≤ sizeLine; decide), fun p hp => ?_⟩
    exact q _ .emp a b _ (wv_emp (SqT.of upd_same)) (by unfold W.Ok; trivial) (by unfold W.dep; omega) (g.new hp) (by rw [upd_ne (ne_of_none hk hp)]; exact hk) ((Kp.new hp).two)
  -- the way
  refine ⟨fun σ' H1 => ∃ way : Int, σ' = [some (.ref r), some (.ref k), some (.int e), some (.int way), none] ∧ 0 ≤ way ∧ (way < 3 ∨ (way < 9 ∧ 1 ≤ n)) ∧ Rng H1 r l ∧ Kp r H H1, ?_, ?_⟩
  · refine ⟨_, rfl, _, _, rfl, rfl, _, rfl, ite2 (fun hc => ?_) (fun _ => ?_)⟩
    · have hc' : e > 1 := of_decide_eq_true hc
      refine ⟨_, rfl, r, l, _, rfl, by decide, by decide, g, fun v H1 hv0 hv1 g1 k1 => ?_⟩
      exact ⟨v, rfl, hv0, .inr ⟨hv1, by omega⟩, g1, k1⟩
    · refine ⟨_, rfl, r, l, _, rfl, by decide, by decide, g, fun v H1 hv0 hv1 g1 k1 => ?_⟩
      exact ⟨v, rfl, hv0, .inl hv1, g1, k1⟩
  rintro σ' H1 ⟨way, rfl, w0, w1, g1, k1⟩
  have hk1 : H1 k = some (.lst [.int a, .int b]) := k1 _ _ kr hk
  obtain ⟨z, hz⟩ := g1.lst
  obtain ⟨zl, hzl⟩ := g1.some_l
  refine ⟨_, rfl, _, _, rfl, rfl, _, rfl, ite2 (fun _ => ?_) (fun hc => ?_)⟩
  · -- a letter
    refine ⟨_, rfl, _, _, _, _, rfl, rfl, SqL.of hk1, rfl, _, _, rfl, rfl, _, rfl, k, _, 0, 0, rfl, rfl, hk1, rfl, ?_⟩
    have k2 : Kp2 r k H1 (upd H1 k (.lst [.int (a - 1), .int b])) := Kp2.at
    refine ⟨_, rfl, (by show 3 ≤ sizeLine; decide), fun p hp => ?_⟩
    have hp1 : H1 p = none := by
      rw [← hp]
      exact (upd_ne (fun e => by rw [e, upd_same] at hp; cases hp)).symm
    have g2 : Rng (upd H1 k (.lst [.int (a - 1), .int b])) r l := g1.of (fun o h => by rw [upd_ne kr.symm]; exact h) (fun o h => by rw [upd_ne kl.symm]; exact h)
    have g3 := g2.new (o := .lst [.str "a", .str "b", .str "c"]) hp
    refine ⟨r, l, p, _, rfl, g3, upd_same, (ne_of_none hz hp1).symm, by decide, by decide, fun j x H4 ex g4 k4 => ?_⟩
    have hk4 : H4 k = some (.lst [.int (a - 1), .int b]) := k4 _ _ kr (by rw [upd_ne (fun e => by rw [← e, upd_same] at hp; cases hp), upd_same]; rfl)
    have kk : Kp2 r k H H4 := k1.two.trans (k2.trans ((Kp.new hp).two.trans k4.two))
    have hx : ∃ c, x = .str c ∧ c ∈ abc := by
      match j, ex with
      | 0, e => cases e; exact ⟨_, rfl, by decide⟩
      | 1, e => cases e; exact ⟨_, rfl, by decide⟩
      | 2, e => cases e; exact ⟨_, rfl, by decide⟩
    obtain ⟨c, rfl, hcm⟩ := hx
    refine ⟨(by show 2 ≤ sizeLine; decide), fun p2 hp2 => ?_⟩
    exact q _ (.ltr c) (a - 1) b _ (wv_ltr (SqT.of upd_same)) (by unfold W.Ok; exact hcm) (by unfold W.dep; omega) (g4.new hp2) (by rw [upd_ne (ne_of_none hk4 hp2)]; exact hk4) (kk.trans (Kp.new hp2).two)
  have hc' : ¬ way < 3 := of_decide_eq_false (Bool.eq_false_iff.mpr hc)
  have hn : 1 ≤ n := by omega
  have en : e - 1 = (n : Int) := by omega
  refine ⟨_, rfl, rfl, _, rfl, ite2 (fun _ => ?_) (fun q3 => ?_)⟩
  · refine ⟨(by show 1 ≤ sizeLine; decide), fun p hp => ?_⟩
    exact q _ .emp a b _ (wv_emp (SqT.of upd_same)) (by unfold W.Ok; trivial) (by unfold W.dep; omega) (g1.new hp) (by rw [upd_ne (ne_of_none hk1 hp)]; exact hk1) (k1.trans (Kp.new hp)).two
  refine ⟨_, rfl, _, _, rfl, rfl, _, rfl, ite2 (fun _ => ?_) (fun q6 => ?_)⟩
  · -- a join
    refine ⟨_, rfl, r, l, _, rfl, by decide, by decide, g1, fun v H2 v0 v1 g2 k2 => ?_⟩
    have hk2 : H2 k = some (.lst [.int a, .int b]) := k2 _ _ kr hk1
    have v1' : v < 2 := v1
    refine ⟨_, _, rfl, rfl, _, rfl, by omega, by omega, fun Dd hD => ?_⟩
    obtain ⟨z2, hz2⟩ := g2.lst
    obtain ⟨zl2, hzl2⟩ := g2.some_l
    have Dr : Dd ≠ r := (ne_of_none hz2 hD).symm
    have Dk : Dd ≠ k := (ne_of_none hk2 hD).symm
    have Dl : Dd ≠ l := (ne_of_none hzl2 hD).symm
    have kH2 : Kp r H H2 := k1.trans k2
    refine lcr (lo := 0) (n := (2 + v).toNat) (fun i H3 => ∃ ts acc a' b', H3 Dd = some (.lst acc) ∧ WVs K H3 acc ts ∧ ts.length = i ∧ (∀ t ∈ ts, t.Ok abc ∧ t.dep ≤ n) ∧ Rng H3 r l ∧ H3 k = some (.lst [.int a', .int b']) ∧ Kp2 r k H2 H3) ?_ ?_ ?_
    · exact ⟨[], [], a, b, upd_same, wvs_nil, rfl, fun t h => (List.not_mem_nil h).elim, g2.new hD, by rw [upd_ne Dk.symm]; exact hk2, (Kp.new hD).two⟩
    · rintro i H3 hi ⟨ts, acc, a', b', hA, hW, hlen, hall, g3, hk3, k3⟩
      refine ⟨_, rfl, _, rfl, _, rfl, _, _, rfl, rfl, ?_⟩
      refine ⟨r, l, k, a', b', _, rfl, en, hn, g3, hk3, kr, kl, fun y t a2 b2 H4 hy ho hdp g4 hk4 k4 => ?_⟩
      have hA4 : H4 Dd = some (.lst acc) := k4 _ _ Dr Dk hA
      obtain ⟨z3, hz3⟩ := g3.lst
      have tp : Tp H3 H4 := k4.tp hz3 hk3
      have al := hW.length
      refine ⟨acc, hA4, Nat.lt_of_le_of_lt (show acc.length ≤ 1000 by omega) (by decide), ts ++ [t], acc ++ [y], a2, b2, upd_same, ?_, by rw [List.length_append, hlen]; rfl, ?_, ?_, ?_, ?_⟩
      · exact WVs.tp (tp_set hA4) _ (WVs.app hy (WVs.tp tp _ hW))
      · intro t' ht'
        rcases List.mem_append.mp ht' with h | h
        · exact hall t' h
        · rw [List.mem_singleton.mp h]
          exact ⟨ho, hdp⟩
      · exact g4.of (fun o h => by rw [upd_ne Dr.symm]; exact h) (fun o h => by rw [upd_ne Dl.symm]; exact h)
      · rw [upd_ne Dk.symm]
        exact hk4
      · intro b o n1 n2 hb
        have nb : b ≠ Dd := ne_of_none hb hD
        rw [upd_ne nb]
        exact k4 b o n1 n2 (k3 b o n1 n2 hb)
    · rintro H3 ⟨ts, acc, a', b', hA, hW, hlen, hall, g3, hk3, k3⟩
      refine ⟨Dd, acc, rfl, .inl ⟨SqL.of hA, fun p hp => ?_⟩⟩
      refine ⟨(by show 2 ≤ sizeLine; decide), fun p2 hp2 => ?_⟩
      have t1 : Tp H3 (upd H3 p (.tup acc)) := tp_new hp
      have t2 := tp_new (o := .tup [.str "join", .ref p]) hp2
      refine q _ (.join ts) a' b' _ (wv_join (SqT.of upd_same) (t2.sq (SqT.of upd_same)) (WVs.tp (t1.trans t2) _ hW)) ?_ ?_ ((g3.new hp).new hp2) ?_ ?_
      · unfold W.Ok
        exact ⟨by omega, W.oks_of fun t ht => (hall t ht).1⟩
      · unfold W.dep
        have := W.deps_le (n := n) fun t ht => (hall t ht).2
        omega
      · have e1 : (upd H3 p (.tup acc)) k = some (.lst [.int a', .int b']) := by
          rw [upd_ne (ne_of_none hk3 hp)]
          exact hk3
        rw [upd_ne (ne_of_none e1 hp2)]
        exact e1
      · exact kH2.two.trans (k3.trans ((Kp.new hp).trans (Kp.new hp2)).two)
  refine ⟨_, rfl, rfl, _, rfl, ite2 (fun _ => ?_) (fun q7 => ?_)⟩
  · -- copies
    refine ⟨_, rfl, _, rfl, _, rfl, _, _, rfl, rfl, ?_⟩
    refine ⟨r, l, k, a, b, _, rfl, en, hn, g1, hk1, kr, kl, fun y t a2 b2 H4 hy ho hdp g4 hk4 k4 => ?_⟩
    refine ⟨_, rfl, r, l, _, rfl, by decide, by decide, g4, fun v H5 v0 v1 g5 k5 => ?_⟩
    have v1' : v < 4 := v1
    refine ⟨(by show 3 ≤ sizeLine; decide), fun p hp => ?_⟩
    obtain ⟨z4, hz4⟩ := g4.lst
    have hk5 : H5 k = some (.lst [.int a2, .int b2]) := k5 _ _ kr hk4
    refine q _ (.times t v) a2 b2 _ (wv_times (SqT.of upd_same) (WV.tp ((k5.tp hz4).trans (tp_new hp)) _ hy)) ?_ ?_ (g5.new hp) (by rw [upd_ne (ne_of_none hk5 hp)]; exact hk5) ?_
    · unfold W.Ok
      exact ⟨v0, by omega, ho⟩
    · unfold W.dep
      omega
    · exact k1.two.trans (k4.trans (k5.trans (Kp.new hp)).two)
  refine ⟨_, rfl, _, _, _, _, rfl, rfl, SqL.of hk1, rfl, _, _, rfl, rfl, _, rfl, ite2 (fun _ => ?_) (fun _ => ?_)⟩
  · refine ⟨_, rfl, _, rfl, _, rfl, _, _, rfl, rfl, ?_⟩
    refine ⟨r, l, k, a, b, _, rfl, en, hn, g1, hk1, kr, kl, fun y t a2 b2 H4 hy ho hdp g4 hk4 k4 => ?_⟩
    exact q _ t a2 b2 _ hy ho (by omega) g4 hk4 (k1.two.trans k4)
  -- endless copies
  refine ⟨_, rfl, _, _, _, _, rfl, rfl, SqL.of hk1, rfl, _, _, rfl, rfl, _, rfl, k, _, 1, 1, rfl, rfl, hk1, rfl, ?_⟩
  have k2 : Kp2 r k H1 (upd H1 k (.lst [.int a, .int (b - 1)])) := Kp2.at
  have g2 : Rng (upd H1 k (.lst [.int a, .int (b - 1)])) r l := g1.of (fun o h => by rw [upd_ne kr.symm]; exact h) (fun o h => by rw [upd_ne kl.symm]; exact h)
  refine ⟨(by show 2 ≤ sizeLine; decide), fun p hp => ?_⟩
  have hkp : (upd (upd H1 k (.lst [.int a, .int (b - 1)])) p (.lst [.str "right", .str "left"])) k = some (.lst [.int a, .int (b - 1)]) := by
    rw [upd_ne (ne_of_none upd_same hp), upd_same]
  have n3 : way ≠ 3 := fun e => q3 (by rw [e]; exact decide_eq_true rfl)
  have n6 : ¬ way < 6 := of_decide_eq_false (Bool.eq_false_iff.mpr q6)
  have n7 : way ≠ 6 := fun e => q7 (by rw [e]; exact decide_eq_true rfl)
  have h9 : way = 7 ∨ way = 8 := by omega
  have g3 := g2.new (o := .lst [.str "right", .str "left"]) hp
  have hH : Kp2 r k H (upd (upd H1 k (.lst [.int a, .int (b - 1)])) p (.lst [.str "right", .str "left"])) := k1.two.trans (k2.trans (Kp.new hp).two)
  rcases h9 with h9 | h9
  · have e0 : way - 7 = 0 := by omega
    refine ⟨_, rfl, _, _, rfl, rfl, _, _, _, _, rfl, rfl, SqL.of upd_same, at_of (j := 0) e0 rfl, ?_⟩
    refine ⟨_, rfl, _, rfl, _, rfl, _, _, rfl, rfl, ?_⟩
    refine ⟨r, l, k, a, b - 1, _, rfl, en, hn, g3, hkp, kr, kl, fun y t a2 b2 H4 hy ho hdp g4 hk4 k4 => ?_⟩
    refine ⟨(by show 2 ≤ sizeLine; decide), fun p2 hp2 => ?_⟩
    exact q _ (.right t) a2 b2 _ (wv_right (SqT.of upd_same) (WV.tp (tp_new hp2) _ hy)) (by unfold W.Ok; exact ho) (by unfold W.dep; omega) (g4.new hp2) (by rw [upd_ne (ne_of_none hk4 hp2)]; exact hk4) (hH.trans (k4.trans (Kp.new hp2).two))
  · have e0 : way - 7 = 1 := by omega
    refine ⟨_, rfl, _, _, rfl, rfl, _, _, _, _, rfl, rfl, SqL.of upd_same, at_of (j := 1) e0 rfl, ?_⟩
    refine ⟨_, rfl, _, rfl, _, rfl, _, _, rfl, rfl, ?_⟩
    refine ⟨r, l, k, a, b - 1, _, rfl, en, hn, g3, hkp, kr, kl, fun y t a2 b2 H4 hy ho hdp g4 hk4 k4 => ?_⟩
    refine ⟨(by show 2 ≤ sizeLine; decide), fun p2 hp2 => ?_⟩
    exact q _ (.left t) a2 b2 _ (wv_left (SqT.of upd_same) (WV.tp (tp_new hp2) _ hy)) (by unfold W.Ok; exact ho) (by unfold W.dep; omega) (g4.new hp2) (by rw [upd_ne (ne_of_none hk4 hp2)]; exact hk4) (hH.trans (k4.trans (Kp.new hp2).two))
theorem ok_tree (D : Df K mg "_law_tree" s__law_tree ["_law_rng", "_law_kit", "_law_deep"]) (bi : Bi mg) (c_law_draw : Cal P w K mg base 1 "_law_draw" ["_law_rng", "_law_many"] spDraw) (c_law_pick : Cal P w K mg base 2 "_law_pick" ["_law_rng", "_law_things"] spPick) :
    ∀ n : Nat, Cal P w K mg base (n + 2) "_law_tree" ["_law_rng", "_law_kit", "_law_deep"] (spTree K n)
  | 0 => D.no fun vs H Q E h => by
    obtain ⟨r, l, k, a, b, e, _, _, h1, _⟩ := h
    omega
  | n + 1 => ok_tree1 D bi c_law_draw c_law_pick (ok_tree D bi c_law_draw c_law_pick n)
/-! ### _law_word, _law_wide -/
def spWord (K : PySem.W.Frag) (n : Nat) : Sp := fun vs H Q _ => ∃ r l, vs = [.ref r] ∧ Rng H r l ∧ ∀ v t H', WV K H' v t → t.Ok abc → t.dep ≤ n → Rng H' r l → Kp r H H' → Q v H'
theorem sc__law_word : FnScope ["_law_rng", "_law_first_here"] ["_law_rng"] (defScope s__law_word) := ⟨rfl, rfl, rfl, by decide +kernel, rfl, by decide +kernel, by decide +kernel⟩
theorem ok_word (D : Df K mg "_law_word" s__law_word ["_law_rng"]) (bi : Bi mg) (c_law_draw : Cal P w K mg base 1 "_law_draw" ["_law_rng", "_law_many"] spDraw) (c_law_tree : Cal P w K mg base 5 "_law_tree" ["_law_rng", "_law_kit", "_law_deep"] (spTree K 3)) :
    Cal P w K mg base 6 "_law_word" ["_law_rng"] (spWord K 4) := by
  refine D.ok sc__law_word (fun vs H Q E h => ?_) (fun f cdv A outer s H vs Q E hr h => ?_)
  · obtain ⟨r, l, rfl, _⟩ := h
    rfl
  obtain ⟨r, l, rfl, g, q⟩ := h
  refine ⟨_, (pss_cons (ps_set (i := 1) sc__law_word.nd rfl (.inl rfl) (pe_own c_law_tree hr (by omega) (by rfl) (pa_cons (pv 0) (pa_cons (pe_lst (pa_cons pe_int (pa_cons pe_int pa_nil))) (pa_cons pe_int pa_nil)))))
      (pss_cons (ps_if (pt_cmpR op_eq (pe_own c_law_draw hr (by omega) (by rfl) (pa_cons (pv 0) (pa_cons pe_int pa_nil))) pe_int (nomark _)) (pss_one (ps_ret (pv 1))) pss_nil)
      (pss_one (ps_ret (pe_tup (pa_cons pe_str (pa_cons (pe_tup (pa_cons (pv 1) (pa_cons (pe_own c_law_tree hr (by omega) (by rfl) (pa_cons (pv 0) (pa_cons (pe_lst (pa_cons pe_int (pa_cons pe_int pa_nil))) (pa_cons pe_int pa_nil)))) pa_nil))) pa_nil))))))), ?_⟩
  refine ⟨_, rfl, (by show 2 ≤ sizeLine; decide), fun k hk => ?_⟩
  obtain ⟨z, hz⟩ := g.lst
  obtain ⟨zl, hzl⟩ := g.some_l
  refine ⟨r, l, k, 3, 1, _, rfl, rfl, by decide, g.new hk, upd_same, (ne_of_none hz hk).symm, (ne_of_none hzl hk).symm, fun v1 t1 a1 b1 H1 hv1 ho1 hd1 g1 hk1 k1 => ?_⟩
  have k1' : Kp r H H1 := Kp2.fresh hk k1
  refine ⟨_, rfl, r, l, _, rfl, by decide, by decide, g1, fun v2 H2 a2 b2 g2 k2 => ?_⟩
  obtain ⟨z1, hz1⟩ := g1.lst
  have hv2 := WV.tp (k2.tp hz1) _ hv1
  refine ⟨rfl, _, rfl, ite2 (fun _ => ?_) (fun _ => ?_)⟩
  · exact ⟨_, rfl, q _ _ _ hv2 ho1 (by omega) g2 (k1'.trans k2)⟩
  refine ⟨_, rfl, _, rfl, (by show 2 ≤ sizeLine; decide), fun k3 hk3 => ?_⟩
  obtain ⟨z2, hz2⟩ := g2.lst
  obtain ⟨zl2, hzl2⟩ := g2.some_l
  refine ⟨r, l, k3, 3, 1, _, rfl, rfl, by decide, g2.new hk3, upd_same, (ne_of_none hz2 hk3).symm, (ne_of_none hzl2 hk3).symm, fun v3 t3 a3 b3 H3 hv3 ho3 hd3 g3 hk3' k3' => ?_⟩
  have k4 : Kp r H2 H3 := Kp2.fresh hk3 k3'
  refine ⟨(by show 2 ≤ sizeLine; decide), fun p hp => ⟨(by show 2 ≤ sizeLine; decide), fun p2 hp2 => ?_⟩⟩
  have tt : Tp H3 (upd (upd H3 p (.tup [v1, v3])) p2 (.tup [.str "join", .ref p])) := (tp_new hp).trans (tp_new hp2)
  have hvA := WV.tp (k4.tp hz2) _ hv2
  refine q _ (.join [t1, t3]) _ (wv_join (SqT.of upd_same) ((tp_new hp2).sq (SqT.of upd_same)) (wvs_cons (WV.tp tt _ hvA) (wvs_cons (WV.tp tt _ hv3) wvs_nil))) ?_ ?_ ((g3.new hp).new hp2) ((k1'.trans k2).trans (k4.trans ((Kp.new hp).trans (Kp.new hp2))))
  · unfold W.Ok
    refine ⟨by show 2 ≤ 3; decide, W.oks_of fun t h => ?_⟩
    simp only [List.mem_cons, List.not_mem_nil, or_false] at h
    rcases h with rfl | rfl <;> assumption
  · rw [W.dep]
    have := W.deps_le (ws := [t1, t3]) (n := 3) fun t h => by
      simp only [List.mem_cons, List.not_mem_nil, or_false] at h
      rcases h with rfl | rfl <;> assumption
    omega
/-! ### _law_parts -/
def spParts (K : PySem.W.Frag) : Sp := fun vs H Q _ => ∃ v t, vs = [v] ∧ WV K H v t ∧ t.Ok abcABC ∧ ∀ p xs H', WVs K H' xs t.parts → H' p = some (.lst xs) → H p = none → Same H H' → Q (.ref p) H'
theorem sc__law_parts : FnScope ["_law_tree_here"] ["_law_tree_here"] (defScope s__law_parts) := ⟨rfl, rfl, rfl, by decide +kernel, rfl, by decide +kernel, by decide +kernel⟩
theorem ok_parts (D : Df K mg "_law_parts" s__law_parts ["_law_tree_here"]) (bi : Bi mg) : Cal P w K mg base 1 "_law_parts" ["_law_tree_here"] (spParts K) := by
  refine D.ok sc__law_parts (fun vs H Q E h => ?_) (fun f cdv A outer s H vs Q E hr h => ?_)
  · obtain ⟨v, t, rfl, _⟩ := h
    rfl
  obtain ⟨v, t, rfl, hv, ho, q⟩ := h
  refine ⟨_, (pss_cons (ps_if (pt_cmpR op_eq (pe_ix ix_tup (pv 0) pe_int (fun _ _ => rfl)) pe_str (nomark _)) (pss_one (ps_ret (pe_callTy call_list_of (by rfl) bi.list (by decide +kernel) (pa_cons (pe_ix ix_tup (pv 0) pe_int (fun _ _ => rfl)) pa_nil)))) pss_nil)
      (pss_one (ps_ret (pe_ifExp (PW.pt (pw_or (pt_cmpR op_eq (pe_ix ix_tup (pv 0) pe_int (fun _ _ => rfl)) pe_str (nomark _)) (pw_or (pt_cmpR op_eq (pe_ix ix_tup (pv 0) pe_int (fun _ _ => rfl)) pe_str (nomark _)) (pw_or1 (pt_cmpR op_eq (pe_ix ix_tup (pv 0) pe_int (fun _ _ => rfl)) pe_str (nomark _)))))) (pe_lst (pa_cons (pe_ix ix_tup (pv 0) pe_int (fun _ _ => rfl)) pa_nil)) (pe_lst pa_nil))))), ?_⟩
  have at_ := hv.at
  cases at_ with
  | emp e s =>
    cases e
    refine ⟨_, rfl, _, _, _, _, rfl, rfl, s, rfl, rfl, eq_no (by decide +kernel) ?_⟩
    refine ⟨_, rfl, _, _, _, _, rfl, rfl, s, rfl, rfl, eq_no (by decide +kernel) ?_⟩
    refine ⟨_, rfl, _, _, _, _, rfl, rfl, s, rfl, rfl, eq_no (by decide +kernel) ?_⟩
    refine ⟨_, rfl, _, _, _, _, rfl, rfl, s, rfl, rfl, eq_no (by decide +kernel) ?_⟩
    refine ⟨Nat.zero_le _, fun p hp => ?_⟩
    exact q p [] _ wvs_nil upd_same hp (same_new hp)
  | nam e s =>
    unfold W.Ok at ho
    exact ho.elim
  | @ltr a c e s =>
    cases e
    refine ⟨_, rfl, _, _, _, _, rfl, rfl, s, rfl, rfl, eq_no (by decide +kernel) ?_⟩
    refine ⟨_, rfl, _, _, _, _, rfl, rfl, s, rfl, rfl, eq_no (by decide +kernel) ?_⟩
    refine ⟨_, rfl, _, _, _, _, rfl, rfl, s, rfl, rfl, eq_no (by decide +kernel) ?_⟩
    refine ⟨_, rfl, _, _, _, _, rfl, rfl, s, rfl, rfl, eq_no (by decide +kernel) ?_⟩
    refine ⟨Nat.zero_le _, fun p hp => ?_⟩
    exact q p [] _ wvs_nil upd_same hp (same_new hp)
  | @join a b xs ws e s s2 hw =>
    cases e
    refine ⟨_, rfl, _, _, _, _, rfl, rfl, s, rfl, rfl, eq_yes rfl ?_⟩
    refine ⟨_, rfl, _, _, _, _, rfl, rfl, s, rfl, b, xs, rfl, .inr s2, fun p hp => ?_⟩
    exact q p xs _ (WVs.tp (tp_new hp) _ hw) upd_same hp (same_new hp)
  | @times a x t n' e s hx =>
    cases e
    refine ⟨_, rfl, _, _, _, _, rfl, rfl, s, rfl, rfl, eq_no (by decide +kernel) ?_⟩
    refine ⟨_, rfl, _, _, _, _, rfl, rfl, s, rfl, rfl, eq_yes rfl ?_⟩
    refine ⟨_, rfl, _, _, _, _, rfl, rfl, s, rfl, (by show 1 ≤ sizeLine; decide), fun p hp => ?_⟩
    exact q p [x] _ (wvs_cons (WV.tp (tp_new hp) _ hx) wvs_nil) upd_same hp (same_new hp)
  | @right a x t e s hx =>
    cases e
    refine ⟨_, rfl, _, _, _, _, rfl, rfl, s, rfl, rfl, eq_no (by decide +kernel) ?_⟩
    refine ⟨_, rfl, _, _, _, _, rfl, rfl, s, rfl, rfl, eq_no (by decide +kernel) ?_⟩
    refine ⟨_, rfl, _, _, _, _, rfl, rfl, s, rfl, rfl, eq_yes rfl ?_⟩
    refine ⟨_, rfl, _, _, _, _, rfl, rfl, s, rfl, (by show 1 ≤ sizeLine; decide), fun p hp => ?_⟩
    exact q p [x] _ (wvs_cons (WV.tp (tp_new hp) _ hx) wvs_nil) upd_same hp (same_new hp)
  | @left a x t e s hx =>
    cases e
    refine ⟨_, rfl, _, _, _, _, rfl, rfl, s, rfl, rfl, eq_no (by decide +kernel) ?_⟩
    refine ⟨_, rfl, _, _, _, _, rfl, rfl, s, rfl, rfl, eq_no (by decide +kernel) ?_⟩
    refine ⟨_, rfl, _, _, _, _, rfl, rfl, s, rfl, rfl, eq_no (by decide +kernel) ?_⟩
    refine ⟨_, rfl, _, _, _, _, rfl, rfl, s, rfl, rfl, eq_yes rfl ?_⟩
    refine ⟨_, rfl, _, _, _, _, rfl, rfl, s, rfl, (by show 1 ≤ sizeLine; decide), fun p hp => ?_⟩
    exact q p [x] _ (wvs_cons (WV.tp (tp_new hp) _ hx) wvs_nil) upd_same hp (same_new hp)
/-! ### _law_count -/
def spLCnt (K : PySem.W.Frag) (n : Nat) : Sp := fun vs H Q _ => ∃ v t u L, vs = [v, .ref u] ∧ WV K H v t ∧ t.Ok abcABC ∧ t.dep ≤ n ∧ n ≤ 100 ∧ SqL K H u (L.map V.str) ∧ ∀ H', Same H H' → Q (.int (toL (t.cnt L))) H'
theorem sc__law_count : FnScope ["_law_tree_here", "_law_letters", "_law_counts", "_law_part"] ["_law_tree_here", "_law_letters"] (defScope s__law_count) := ⟨rfl, rfl, rfl, by decide +kernel, rfl, by decide +kernel, by decide +kernel⟩
theorem ok_lcnt1 {n : Nat} (D : Df K mg "_law_count" s__law_count ["_law_tree_here", "_law_letters"]) (bi : Bi mg) (c_law_parts : Cal P w K mg base 1 "_law_parts" ["_law_tree_here"] (spParts K)) (c_law_count : Cal P w K mg base (n + 1) "_law_count" ["_law_tree_here", "_law_letters"] (spLCnt K n)) :
    Cal P w K mg base (n + 2) "_law_count" ["_law_tree_here", "_law_letters"] (spLCnt K (n + 1)) := by
  refine D.ok sc__law_count (fun vs H Q E h => ?_) (fun f cdv A outer s H vs Q E hr h => ?_)
  · obtain ⟨v, t, u, L, rfl, _⟩ := h
    rfl
  obtain ⟨v, t, u, L, rfl, hv, ho, hd, hn, hu, q⟩ := h
  refine ⟨_, (C8.pss_cut (ps_if (pt_cmpR op_eq (pe_ix ix_tup (pv 0) pe_int (fun _ _ => rfl)) pe_str (nomark _)) (pss_one (ps_ret (pe_callTy call_int1 (by rfl) bi.int (by decide +kernel) (pa_cons (pe_cmpR op_in_seq (pe_ix ix_tup (pv 0) pe_int (fun _ _ => rfl)) (pv 1) (by rfl)) pa_nil)))) pss_nil)
      (C8.pss_cut (ps_if (PW.pt (pw_and (pt_cmpR op_eq (pe_ix ix_tup (pv 0) pe_int (fun _ _ => rfl)) pe_str (nomark _)) (pw_and1 (pt_cmpR op_eq (pe_ix ix_tup (pv 0) pe_int (fun _ _ => rfl)) pe_int (nomark _))))) (pss_one (ps_ret pe_int)) pss_nil)
      (pss_cons (ps_setLc (i := 2) (own := [("_law_part", 3)]) (g := gName 3) (tt := tYes) rfl sc__law_count.nd rfl rfl (sw_true rfl rfl rfl (by decide +kernel)) (pi_list (pe_own c_law_parts hr (by omega) (by rfl) (pa_cons (pv 0) pa_nil))) (blkOk_by (N := ["_law_tree_here", "_law_letters", "_law_counts", "_law_part"]) (sc := defScope s__law_count) (by decide +kernel)) (fun _ _ _ _ _ => (pg_name (i := 3) sc__law_count.nd rfl (.inl rfl))) (fun _ _ _ _ _ => pts_nil) (fun _ _ _ _ _ => (pe_own c_law_count hr (by omega) (by rfl) (pa_cons (pv 3) (pa_cons (pv 1) pa_nil)))))
      (pss_cons (ps_if (pt_cmpR op_in_seq (pe_un un_neg pe_int) (pv 2) (by rfl)) (pss_one (ps_ret (pe_un un_neg pe_int))) pss_nil)
      (pss_cons (ps_if (PW.pt (pw_or (pt_cmpR op_eq (pe_ix ix_tup (pv 0) pe_int (fun _ _ => rfl)) pe_str (nomark _)) (pw_or1 (pt_cmpR op_eq (pe_ix ix_tup (pv 0) pe_int (fun _ _ => rfl)) pe_str (nomark _))))) (pss_one (ps_ret (pe_ifExp (pt_cmpR (op_eqD hr.units) (pv 2) (pe_lst (pa_cons pe_int pa_nil)) (nomark _)) pe_int (pe_un un_neg pe_int)))) pss_nil)
      (pss_one (ps_ret (pe_ifExp (pt_cmpR op_eq (pe_ix ix_tup (pv 0) pe_int (fun _ _ => rfl)) pe_str (nomark _)) (pe_op op_mulW (pe_ix ix_list (pv 2) pe_int (fun _ _ => rfl)) (pe_ix ix_tup (pv 0) pe_int (fun _ _ => rfl))) (pe_callB (cr_sum rfl) (by rfl) bi.sum (by decide +kernel) (pa_cons (pv 2) pa_nil)))))))))), ?_⟩
  have q0 := q H (Same.refl H)
  -- a letter
  refine ⟨fun σ' H' => σ' = [some v, some (.ref u), none, none] ∧ H' = H ∧ ∀ c, t ≠ .ltr c, ?_, ?_⟩
  · have at_ := hv.at
    cases at_ with
    | emp e s =>
      cases e
      exact ⟨_, rfl, _, _, _, _, rfl, rfl, s, rfl, rfl, eq_no (by decide +kernel) ⟨rfl, rfl, fun c e => by cases e⟩⟩
    | nam e s =>
      unfold W.Ok at ho
      exact ho.elim
    | @ltr a c e s =>
      cases e
      refine ⟨_, rfl, _, _, _, _, rfl, rfl, s, rfl, rfl, eq_yes rfl ?_⟩
      refine ⟨_, rfl, _, _, _, _, rfl, rfl, s, rfl, _, rfl, u, _, rfl, .inl hu, rfl, flat_strs L, .inr ⟨_, rfl, ?_⟩⟩
      rw [cnt_ltr] at q0
      rw [inV_str]
      by_cases hc : c ∈ L
      · rw [if_pos hc] at q0
        rw [decide_eq_true hc]
        exact q0
      · rw [if_neg hc] at q0
        rw [decide_eq_false hc]
        exact q0
    | join e s s2 hw =>
      cases e
      exact ⟨_, rfl, _, _, _, _, rfl, rfl, s, rfl, rfl, eq_no (by decide +kernel) ⟨rfl, rfl, fun c e => by cases e⟩⟩
    | times e s hx =>
      cases e
      exact ⟨_, rfl, _, _, _, _, rfl, rfl, s, rfl, rfl, eq_no (by decide +kernel) ⟨rfl, rfl, fun c e => by cases e⟩⟩
    | right e s hx =>
      cases e
      exact ⟨_, rfl, _, _, _, _, rfl, rfl, s, rfl, rfl, eq_no (by decide +kernel) ⟨rfl, rfl, fun c e => by cases e⟩⟩
    | left e s hx =>
      cases e
      exact ⟨_, rfl, _, _, _, _, rfl, rfl, s, rfl, rfl, eq_no (by decide +kernel) ⟨rfl, rfl, fun c e => by cases e⟩⟩
  rintro σ' H' ⟨rfl, rfl, hl⟩
  -- no copies
  refine ⟨fun σ' H2 => σ' = [some v, some (.ref u), none, none] ∧ H2 = H' ∧ ∀ x n, t = .times x n → n ≠ 0, ?_, ?_⟩
  · have at_ := hv.at
    cases at_ with
    | emp e s =>
      cases e
      exact ⟨_, rfl, _, _, _, _, rfl, rfl, s, rfl, rfl, eq_no (by decide +kernel) ⟨rfl, rfl, fun x n e => by cases e⟩⟩
    | nam e s =>
      unfold W.Ok at ho
      exact ho.elim
    | @ltr a c e s => exact absurd rfl (hl c)
    | join e s s2 hw =>
      cases e
      exact ⟨_, rfl, _, _, _, _, rfl, rfl, s, rfl, rfl, eq_no (by decide +kernel) ⟨rfl, rfl, fun x n e => by cases e⟩⟩
    | @times a x t n' e s hx =>
      cases e
      refine ⟨_, rfl, _, _, _, _, rfl, rfl, s, rfl, rfl, eq_yes rfl ?_⟩
      refine ⟨_, rfl, _, _, _, _, rfl, rfl, s, rfl, rfl, _, rfl, ite2 (fun hc => ?_) (fun hc => ?_)⟩
      · have hc' : V.int n' = V.int 0 := of_decide_eq_true hc
        cases hc'
        rw [cnt_times, if_neg (by decide)] at q0
        exact q0
      · refine ⟨rfl, rfl, fun x n e z => ?_⟩
        cases e
        exact hc (by rw [z]; exact decide_eq_true rfl)
    | right e s hx =>
      cases e
      exact ⟨_, rfl, _, _, _, _, rfl, rfl, s, rfl, rfl, eq_no (by decide +kernel) ⟨rfl, rfl, fun x n e => by cases e⟩⟩
    | left e s hx =>
      cases e
      exact ⟨_, rfl, _, _, _, _, rfl, rfl, s, rfl, rfl, eq_no (by decide +kernel) ⟨rfl, rfl, fun x n e => by cases e⟩⟩
  rintro σ' H2 ⟨rfl, rfl, ht⟩
  -- the counts of the parts
  refine ⟨_, rfl, v, t, rfl, hv, ho, fun p xs H1 hw hp hpn k1 => ⟨p, rfl, ⟨xs, SqL.of hp⟩, fun Dd hD => ?_⟩⟩
  have hlen := hw.length
  have h3 := W.parts_len ho
  refine lcl (xs := xs) (fun i H3 => H3 Dd = some (.lst (((t.parts.take i).map fun x => toL (x.cnt L)).map V.int)) ∧ Same H1 H3) ?_ ?_ ?_ ?_
  · exact ⟨upd_same, same_new hD⟩
  · rintro i H3 _ ⟨_, k3⟩
    exact SqL.of (k3 _ _ hp)
  · rintro i x H3 hx ⟨hA, k3⟩
    obtain ⟨t1, e1, h1⟩ := hw.get hx
    have m1 := W.parts_mem ho (List.mem_of_getElem? e1)
    refine ⟨_, rfl, _, rfl, _, t1, u, L, rfl, WV.tp (tp_same k3) _ h1, m1.1, by omega, by omega, (k1.trans k3).seq hu, fun H4 k4 => ?_⟩
    refine ⟨_, k4 _ _ hA, ?_, ?_, ?_⟩
    · rw [List.length_map, List.length_map, List.length_take]
      exact Nat.lt_of_le_of_lt (show _ ≤ 1000 by omega) (by decide)
    · rw [upd_same, List.take_add_one, e1]
      show _ = some (HO.lst (((t.parts.take i ++ [t1]).map fun x => toL (x.cnt L)).map V.int))
      rw [List.map_append, List.map_append]
      rfl
    · intro b' o hb
      rw [upd_ne (ne_of_none hb hD)]
      exact k4 _ _ (k3 _ _ hb)
  · rintro H3 ⟨hA, k3⟩
    rw [hlen, List.take_length] at hA
    have hA' : H3 Dd = some (.lst ((t.cs L).map V.int)) := hA
    have kk := k1.trans k3
    have q3 := q H3 kk
    refine ⟨_, rfl, _, rfl, Dd, _, rfl, .inl (SqL.of hA'), rfl, flat_ints _, ?_⟩
    rw [if_neg (by decide), inV_int]
    by_cases hm : (-1 : Int) ∈ t.cs L
    · rw [decide_eq_true hm]
      rw [cs_neg ho hl ht hm] at q3
      exact ⟨true, rfl, _, rfl, q3⟩
    · rw [decide_eq_false hm]
      refine ⟨false, rfl, ?_⟩
      have at_ := (WV.tp (tp_same kk) _ hv).at
      cases at_ with
      | emp e s =>
        cases e
        refine ⟨_, rfl, _, _, _, _, rfl, rfl, s, rfl, rfl, eq_no (by decide +kernel) ?_⟩
        refine ⟨_, rfl, _, _, _, _, rfl, rfl, s, rfl, rfl, eq_no (by decide +kernel) ?_⟩
        refine ⟨_, rfl, _, _, _, _, rfl, rfl, s, rfl, rfl, eq_no (by decide +kernel) ?_⟩
        rw [cnt_emp] at q3
        exact ⟨_, rfl, Dd, _, rfl, SqL.of hA', q3⟩
      | nam e s =>
        unfold W.Ok at ho
        exact ho.elim
      | @ltr a c e s => exact absurd rfl (hl c)
      | join e s s2 hw =>
        cases e
        refine ⟨_, rfl, _, _, _, _, rfl, rfl, s, rfl, rfl, eq_no (by decide +kernel) ?_⟩
        refine ⟨_, rfl, _, _, _, _, rfl, rfl, s, rfl, rfl, eq_no (by decide +kernel) ?_⟩
        refine ⟨_, rfl, _, _, _, _, rfl, rfl, s, rfl, rfl, eq_no (by decide +kernel) ?_⟩
        rw [cs_join ho hm] at q3
        exact ⟨_, rfl, Dd, _, rfl, SqL.of hA', q3⟩
      | @times a x t n' e s hx =>
        cases e
        refine ⟨_, rfl, _, _, _, _, rfl, rfl, s, rfl, rfl, eq_no (by decide +kernel) ?_⟩
        refine ⟨_, rfl, _, _, _, _, rfl, rfl, s, rfl, rfl, eq_no (by decide +kernel) ?_⟩
        refine ⟨_, rfl, _, _, _, _, rfl, rfl, s, rfl, rfl, eq_yes rfl ?_⟩
        have hn' : n'.natAbs < 2 ^ 100 := by
          unfold W.Ok at ho
          have : n'.natAbs ≤ 1000000000000000000000000000000 := by omega
          exact Nat.lt_of_le_of_lt this (by decide)
        rw [cs_times ho (ht t n' rfl) hm] at q3
        unfold W.Ok at ho
        rw [W.dep] at hd
        refine ⟨_, rfl, _, _, _, _, rfl, rfl, SqL.of hA', rfl, _, rfl, _, _, _, _, rfl, rfl, s, rfl, _, _, rfl, rfl, wide_mul (toL_abs ho.2.2) hn' (by have := t.dep_pos; omega) (by decide) (by omega), ?_⟩
        exact q3
      | @right a x t e s hx =>
        cases e
        unfold W.Ok at ho
        refine ⟨_, rfl, _, _, _, _, rfl, rfl, s, rfl, rfl, eq_yes rfl ?_⟩
        refine ⟨_, rfl, (by show 1 ≤ sizeLine; decide), fun p2 hp2 => ?_⟩
        have hA2 : (upd H3 p2 (.lst [.int 0])) Dd = some (.lst [.int (toL (t.cnt L))]) := by
          rw [upd_ne (ne_of_none hA' hp2)]
          exact hA'
        refine ⟨.list [.int (toL (t.cnt L))], .list [.int 0], .lst (SqL.of hA2) (.cons (.int _) .nil), .lst (SqL.of upd_same) (.cons (.int _) .nil), int_shaped, int_shaped, ?_⟩
        rw [int_eqv]
        have q4 := q _ (kk.trans (same_new (o := .lst [.int 0]) hp2))
        rw [cnt_right, cs_end ho] at q4
        by_cases hz : toL (t.cnt L) = 0
        · rw [if_pos hz] at q4
          rw [decide_eq_true hz]
          exact ⟨true, rfl, q4⟩
        · rw [if_neg hz] at q4
          rw [decide_eq_false hz]
          exact ⟨false, rfl, _, rfl, q4⟩
      | @left a x t e s hx =>
        cases e
        unfold W.Ok at ho
        refine ⟨_, rfl, _, _, _, _, rfl, rfl, s, rfl, rfl, eq_no (by decide +kernel) ?_⟩
        refine ⟨_, rfl, _, _, _, _, rfl, rfl, s, rfl, rfl, eq_yes rfl ?_⟩
        refine ⟨_, rfl, (by show 1 ≤ sizeLine; decide), fun p2 hp2 => ?_⟩
        have hA2 : (upd H3 p2 (.lst [.int 0])) Dd = some (.lst [.int (toL (t.cnt L))]) := by
          rw [upd_ne (ne_of_none hA' hp2)]
          exact hA'
        refine ⟨.list [.int (toL (t.cnt L))], .list [.int 0], .lst (SqL.of hA2) (.cons (.int _) .nil), .lst (SqL.of upd_same) (.cons (.int _) .nil), int_shaped, int_shaped, ?_⟩
        rw [int_eqv]
        have q4 := q _ (kk.trans (same_new (o := .lst [.int 0]) hp2))
        rw [cnt_left, cs_end ho] at q4
        by_cases hz : toL (t.cnt L) = 0
        · rw [if_pos hz] at q4
          rw [decide_eq_true hz]
          exact ⟨true, rfl, q4⟩
        · rw [if_neg hz] at q4
          rw [decide_eq_false hz]
          exact ⟨false, rfl, _, rfl, q4⟩
theorem ok_lcnt (D : Df K mg "_law_count" s__law_count ["_law_tree_here", "_law_letters"]) (bi : Bi mg) (c_law_parts : Cal P w K mg base 1 "_law_parts" ["_law_tree_here"] (spParts K)) : ∀ n : Nat, Cal P w K mg base (n + 1) "_law_count" ["_law_tree_here", "_law_letters"] (spLCnt K n)
  | 0 => D.no fun vs H Q E h => by
    obtain ⟨v, t, u, L, _, _, _, h, _⟩ := h
    have := t.dep_pos
    omega
  | n + 1 => ok_lcnt1 D bi c_law_parts (ok_lcnt D bi c_law_parts n)
/-! ### _law_places -/
def spPlaces (K : PySem.W.Frag) : Sp := fun vs H Q _ => ∃ v t, vs = [v] ∧ WV K H v t ∧ t.Ok abcABC ∧ t.dep ≤ 12 ∧ ∀ H', Same H H' → Q (.int (toL (t.cnt abcABC))) H'
theorem sc__law_places : FnScope ["_law_tree_here"] ["_law_tree_here"] (defScope s__law_places) := ⟨rfl, rfl, rfl, by decide +kernel, rfl, by decide +kernel, by decide +kernel⟩
theorem ok_places (D : Df K mg "_law_places" s__law_places ["_law_tree_here"]) (c_law_count : Cal P w K mg base 13 "_law_count" ["_law_tree_here", "_law_letters"] (spLCnt K 12)) : Cal P w K mg base 14 "_law_places" ["_law_tree_here"] (spPlaces K) := by
  refine D.ok sc__law_places (fun vs H Q E h => ?_) (fun f cdv A outer s H vs Q E hr h => ?_)
  · obtain ⟨v, t, rfl, _⟩ := h
    rfl
  obtain ⟨v, t, rfl, hv, ho, hd, q⟩ := h
  refine ⟨_, (pss_one (ps_ret (pe_own c_law_count hr (by omega) (by rfl) (pa_cons (pv 0) (pa_cons (pe_lst (pa_cons pe_str (pa_cons pe_str (pa_cons pe_str (pa_cons pe_str (pa_cons pe_str (pa_cons pe_str pa_nil))))))) pa_nil))))), ?_⟩
  refine ⟨_, rfl, (by show 6 ≤ sizeLine; decide), fun p hp => ?_⟩
  exact ⟨v, t, p, abcABC, rfl, WV.tp (tp_new hp) _ hv, ho, hd, by decide, SqL.of upd_same, fun H' k => q H' ((same_new hp).trans k)⟩
theorem sc__law_wide : FnScope ["_law_rng", "_law_tree_here"] ["_law_rng"] (defScope s__law_wide) := ⟨rfl, rfl, rfl, by decide +kernel, rfl, by decide +kernel, by decide +kernel⟩
theorem ok_wide (D : Df K mg "_law_wide" s__law_wide ["_law_rng"]) (bi : Bi mg) (c_law_draw : Cal P w K mg base 1 "_law_draw" ["_law_rng", "_law_many"] spDraw) (c_law_great : Cal P w K mg base 3 "_law_great" ["_law_rng"] spGreat) (c_law_word : Cal P w K mg base 6 "_law_word" ["_law_rng"] (spWord K 4)) :
    Cal P w K mg base 7 "_law_wide" ["_law_rng"] (spWord K 6) := by
  refine D.ok sc__law_wide (fun vs H Q E h => ?_) (fun f cdv A outer s H vs Q E hr h => ?_)
  · obtain ⟨r, l, rfl, _⟩ := h
    rfl
  obtain ⟨r, l, rfl, g, q⟩ := h
  refine ⟨_, (pss_cons (ps_set (i := 1) sc__law_wide.nd rfl (.inl rfl) (pe_own c_law_word hr (by omega) (by rfl) (pa_cons (pv 0) pa_nil)))
      (C8.pss_cut (ps_if (pt_cmpR op_eq (pe_own c_law_draw hr (by omega) (by rfl) (pa_cons (pv 0) (pa_cons pe_int pa_nil))) pe_int (nomark _)) (pss_one (ps_set (i := 1) sc__law_wide.nd rfl (.inl rfl) (pe_tup (pa_cons pe_str (pa_cons (pv 1) (pa_cons (pe_own c_law_great hr (by omega) (by rfl) (pa_cons (pv 0) pa_nil)) pa_nil)))))) pss_nil)
      (pss_one (ps_ret (pe_ifExp (pt_cmpR op_eq (pe_own c_law_draw hr (by omega) (by rfl) (pa_cons (pv 0) (pa_cons pe_int pa_nil))) pe_int (nomark _)) (pe_tup (pa_cons pe_str (pa_cons (pe_tup (pa_cons (pv 1) (pa_cons (pe_tup (pa_cons pe_str (pa_cons (pe_tup (pa_cons pe_str (pa_cons pe_str pa_nil))) (pa_cons (pe_own c_law_great hr (by omega) (by rfl) (pa_cons (pv 0) pa_nil)) pa_nil)))) pa_nil))) pa_nil))) (pv 1)))))), ?_⟩
  refine ⟨_, rfl, r, l, rfl, g, fun v1 t1 H1 hv1 ho1 hd1 g1 k1 => ?_⟩
  refine ⟨fun σ' H' => ∃ v t, σ' = [some (.ref r), some v] ∧ WV K H' v t ∧ t.Ok abc ∧ t.dep ≤ 5 ∧ Rng H' r l ∧ Kp r H H', ?_, ?_⟩
  · refine ⟨_, rfl, r, l, _, rfl, by decide, by decide, g1, fun v2 H2 a2 b2 g2 k2 => ?_⟩
    obtain ⟨z1, hz1⟩ := g1.lst
    have hv2 := WV.tp (k2.tp hz1) _ hv1
    refine ⟨rfl, _, rfl, ite2 (fun _ => ?_) (fun _ => ?_)⟩
    · refine ⟨_, rfl, _, rfl, r, l, rfl, g2, fun m H3 m1 m2 g3 k3 => ?_⟩
      refine ⟨(by show 3 ≤ sizeLine; decide), fun p hp => ?_⟩
      obtain ⟨z2, hz2⟩ := g2.lst
      exact ⟨_, .times t1 m, rfl, wv_times (SqT.of upd_same) (WV.tp ((k3.tp hz2).trans (tp_new hp)) _ hv2), by unfold W.Ok; exact ⟨by omega, m2, ho1⟩, by rw [W.dep]; omega, g3.new hp, (k1.trans k2).trans (k3.trans (Kp.new hp))⟩
    · exact ⟨_, t1, rfl, hv2, ho1, by omega, g2, k1.trans k2⟩
  rintro σ' H2 ⟨v, t, rfl, hv, ho, hd, g2, k2⟩
  refine ⟨_, rfl, r, l, _, rfl, by decide, by decide, g2, fun v3 H3 a3 b3 g3 k3 => ?_⟩
  obtain ⟨z2, hz2⟩ := g2.lst
  have hv3 := WV.tp (k3.tp hz2) _ hv
  refine ⟨rfl, _, rfl, ite2 (fun _ => ?_) (fun _ => ?_)⟩
  · refine ⟨_, rfl, (by show 2 ≤ sizeLine; decide), fun p1 hp1 => ?_⟩
    refine ⟨_, rfl, r, l, rfl, g3.new hp1, fun m H4 m1 m2 g4 k4 => ?_⟩
    refine ⟨(by show 3 ≤ sizeLine; decide), fun p2 hp2 => ⟨(by show 2 ≤ sizeLine; decide), fun p3 hp3 => ⟨(by show 2 ≤ sizeLine; decide), fun p4 hp4 => ?_⟩⟩⟩
    obtain ⟨z3, hz3⟩ := (g3.new (o := .tup [.str "letter", .str "b"]) hp1).lst
    have tA := k4.tp hz3
    have t2 := tp_new (o := .tup [.str "times", .ref p1, .int m]) hp2
    have t3 := tp_new (o := .tup [v, .ref p2]) hp3
    have t4 := tp_new (o := .tup [.str "join", .ref p3]) hp4
    have hb : WV K H4 (.ref p1) (.ltr "b") := wv_ltr (tA.sq (SqT.of upd_same))
    refine q _ (.join [t, .times (.ltr "b") m]) _ (wv_join (SqT.of upd_same) (t4.sq (SqT.of upd_same)) (wvs_cons (WV.tp ((tp_new hp1).trans (tA.trans (t2.trans (t3.trans t4)))) _ hv3) (wvs_cons (wv_times ((t3.trans t4).sq (SqT.of upd_same)) (WV.tp (t2.trans (t3.trans t4)) _ hb)) wvs_nil))) ?_ ?_ (((g4.new hp2).new hp3).new hp4) ((k2.trans k3).trans ((Kp.new hp1).trans (k4.trans ((Kp.new hp2).trans ((Kp.new hp3).trans (Kp.new hp4))))))
    · unfold W.Ok
      refine ⟨by show 2 ≤ 3; decide, W.oks_of fun x h => ?_⟩
      simp only [List.mem_cons, List.not_mem_nil, or_false] at h
      rcases h with rfl | rfl
      · exact ho
      · unfold W.Ok
        exact ⟨by omega, m2, by unfold W.Ok; decide⟩
    · rw [W.dep]
      have := W.deps_le (ws := [t, .times (.ltr "b") m]) (n := 5) fun x h => by
        simp only [List.mem_cons, List.not_mem_nil, or_false] at h
        rcases h with rfl | rfl
        · exact hd
        · rw [W.dep, W.dep]
          decide
      omega
  · exact ⟨_, rfl, q _ _ _ hv3 ho (by omega) g3 (k2.trans k3)⟩
/-! ### _law_turned -/
theorem sc__law_turned : FnScope ["_law_tree_here", "_law_part"] ["_law_tree_here"] (defScope s__law_turned) := ⟨rfl, rfl, rfl, by decide +kernel, rfl, by decide +kernel, by decide +kernel⟩
theorem ok_turned1 {n : Nat} (D : Df K mg "_law_turned" s__law_turned ["_law_tree_here"]) (bi : Bi mg) (c_law_turned : Cal P w K mg base n "_law_turned" ["_law_tree_here"] (spMir K n)) : Cal P w K mg base (n + 1) "_law_turned" ["_law_tree_here"] (spMir K (n + 1)) := by
  refine D.ok sc__law_turned (fun vs H Q E h => ?_) (fun f cdv A outer s H vs Q E hr h => ?_)
  · obtain ⟨v, t, rfl, _⟩ := h
    rfl
  obtain ⟨v, t, rfl, hv, ho, hd, q⟩ := h
  refine ⟨_, (pss_cons (ps_if (pt_cmpR op_eq (pe_ix ix_tup (pv 0) pe_int (fun _ _ => rfl)) pe_str (nomark _)) (pss_one (ps_ret (pe_tup (pa_cons pe_str (pa_cons (pe_callTy call_tuple_of (by rfl) bi.tuple (by decide +kernel) (pa_cons (pe_lc (own := [("_law_part", 1)]) (g := gName 1) (tt := tYes) rfl sc__law_turned.nd (pi_tup (pe_revT (pe_ix ix_tup (pv 0) pe_int (fun _ _ => rfl)))) (blkOk_by (N := ["_law_tree_here", "_law_part"]) (sc := defScope s__law_turned) (by decide +kernel)) (fun _ _ _ _ _ => (pg_name (i := 1) sc__law_turned.nd rfl (.inl rfl))) (fun _ _ _ _ _ => pts_nil) (fun _ _ _ _ _ => (pe_own c_law_turned hr (by omega) (by rfl) (pa_cons (pv 1) pa_nil)))) pa_nil)) pa_nil))))) pss_nil)
      (pss_cons (ps_if (pt_cmpR op_eq (pe_ix ix_tup (pv 0) pe_int (fun _ _ => rfl)) pe_str (nomark _)) (pss_one (ps_ret (pe_tup (pa_cons pe_str (pa_cons (pe_own c_law_turned hr (by omega) (by rfl) (pa_cons (pe_ix ix_tup (pv 0) pe_int (fun _ _ => rfl)) pa_nil)) (pa_cons (pe_ix ix_tup (pv 0) pe_int (fun _ _ => rfl)) pa_nil)))))) pss_nil)
      (pss_cons (ps_if (PW.pt (pw_or (pt_cmpR op_eq (pe_ix ix_tup (pv 0) pe_int (fun _ _ => rfl)) pe_str (nomark _)) (pw_or1 (pt_cmpR op_eq (pe_ix ix_tup (pv 0) pe_int (fun _ _ => rfl)) pe_str (nomark _))))) (pss_one (ps_ret (pe_tup (pa_cons (pe_dget (hu_of hr) (pe_disp (pps_cons pe_str pe_str (pps_cons pe_str pe_str pps_nil)) (by rfl) (by rfl) (fun z => by cases z) (by decide)) (pe_ix ix_tup (pv 0) pe_int (fun _ _ => rfl)) (fun _ _ => rfl)) (pa_cons (pe_own c_law_turned hr (by omega) (by rfl) (pa_cons (pe_ix ix_tup (pv 0) pe_int (fun _ _ => rfl)) pa_nil)) pa_nil))))) pss_nil)
      (pss_one (ps_ret (pv 0)))))), ?_⟩
  have at_ := hv.at
  cases at_ with
  | emp e s =>
    cases e
    refine ⟨_, rfl, _, _, _, _, rfl, rfl, s, rfl, rfl, eq_no (by decide +kernel) ?_⟩
    refine ⟨_, rfl, _, _, _, _, rfl, rfl, s, rfl, rfl, eq_no (by decide +kernel) ?_⟩
    refine ⟨_, rfl, _, _, _, _, rfl, rfl, s, rfl, rfl, eq_no (by decide +kernel) ?_⟩
    refine ⟨_, rfl, _, _, _, _, rfl, rfl, s, rfl, rfl, eq_no (by decide +kernel) ?_⟩
    exact ⟨_, rfl, q _ H (by rw [mir_emp]; exact hv) (Same.refl H)⟩
  | nam e s =>
    unfold W.Ok at ho
    exact ho.elim
  | @ltr a c e s =>
    cases e
    refine ⟨_, rfl, _, _, _, _, rfl, rfl, s, rfl, rfl, eq_no (by decide +kernel) ?_⟩
    refine ⟨_, rfl, _, _, _, _, rfl, rfl, s, rfl, rfl, eq_no (by decide +kernel) ?_⟩
    refine ⟨_, rfl, _, _, _, _, rfl, rfl, s, rfl, rfl, eq_no (by decide +kernel) ?_⟩
    refine ⟨_, rfl, _, _, _, _, rfl, rfl, s, rfl, rfl, eq_no (by decide +kernel) ?_⟩
    exact ⟨_, rfl, q _ H (by rw [mir_ltr]; exact hv) (Same.refl H)⟩
  | @join a b xs ws e s s2 hw =>
    cases e
    unfold W.Ok at ho
    rw [W.dep] at hd
    have hl := hw.length
    refine ⟨_, rfl, _, _, _, _, rfl, rfl, s, rfl, rfl, eq_yes rfl ?_⟩
    refine ⟨_, rfl, _, _, _, _, rfl, rfl, s, rfl, b, xs, rfl, s2, fun p0 hp0 => ?_⟩
    have k0 : Same H (upd H p0 (.tup xs.reverse)) := same_new hp0
    have hwr : WVs K (upd H p0 (.tup xs.reverse)) xs.reverse ws.reverse := WVs.tp (tp_same k0) _ hw.rev
    refine ⟨p0, rfl, ⟨xs.reverse, SqT.of upd_same⟩, fun Dd hD => ?_⟩
    refine lct (xs := xs.reverse) (fun i H2 => ∃ acc, H2 Dd = some (.lst acc) ∧ WVs K H2 acc ((ws.reverse.take i).map W.mir) ∧ acc.length = i ∧ Same (upd H p0 (.tup xs.reverse)) H2) ?_ ?_ ?_ ?_
    · exact ⟨[], upd_same, wvs_nil, rfl, same_new hD⟩
    · rintro i H2 _ ⟨acc, _, _, _, k2⟩
      exact (tp_same k2).sq (SqT.of upd_same)
    · rintro i x H2 hx ⟨acc, hA, hW, hlen, k2⟩
      obtain ⟨t1, e1, h1⟩ := hwr.get hx
      have m1 : t1 ∈ ws := List.mem_reverse.mp (List.mem_of_getElem? e1)
      have d1 := W.deps_mem m1
      have hi : i < xs.reverse.length := (List.getElem?_eq_some_iff.mp hx).1
      rw [List.length_reverse] at hi
      refine ⟨_, rfl, _, t1, rfl, WV.tp (tp_same k2) _ h1, W.oks_mem m1 ho.2, by omega, fun y H4 hy k4 => ?_⟩
      have hA4 := k4 _ _ hA
      refine ⟨acc, hA4, Nat.lt_of_le_of_lt (show acc.length ≤ 1000 by omega) (by decide), acc ++ [y], upd_same, ?_, by rw [List.length_append, hlen]; rfl, ?_⟩
      · exact WVs.tp (tp_set hA4) _ (wvs_snoc e1 (WVs.tp (tp_same k4) _ hW) hy)
      · intro b' o hb
        rw [upd_ne (ne_of_none hb hD)]
        exact k4 _ _ (k2 _ _ hb)
    · rintro H2 ⟨acc, hA, hW, hlen, k2⟩
      refine ⟨Dd, acc, rfl, .inl ⟨SqL.of hA, fun p hp => ?_⟩⟩
      refine ⟨(by show 2 ≤ sizeLine; decide), fun p2 hp2 => ?_⟩
      rw [List.length_reverse, hl, ← List.length_reverse, List.take_length] at hW
      have t1 : Tp H2 (upd H2 p (.tup acc)) := tp_new hp
      have t2 := tp_new (o := .tup [.str "join", .ref p]) hp2
      exact q _ _ (by rw [mir_join]; exact wv_join (SqT.of upd_same) (t2.sq (SqT.of upd_same)) (WVs.tp (t1.trans t2) _ hW)) (k0.trans (k2.trans ((same_new hp).trans (same_new hp2))))
  | @times a x t n' e s hx =>
    cases e
    unfold W.Ok at ho
    rw [W.dep] at hd
    refine ⟨_, rfl, _, _, _, _, rfl, rfl, s, rfl, rfl, eq_no (by decide +kernel) ?_⟩
    refine ⟨_, rfl, _, _, _, _, rfl, rfl, s, rfl, rfl, eq_yes rfl ?_⟩
    refine ⟨_, rfl, _, _, _, _, rfl, rfl, s, rfl, _, t, rfl, hx, ho.2.2, by omega, fun y H4 hy k4 => ?_⟩
    refine ⟨_, rfl, _, _, _, _, rfl, rfl, (tp_same k4).sq s, rfl, (by show 3 ≤ sizeLine; decide), fun p hp => ?_⟩
    exact q _ _ (by rw [mir_times]; exact wv_times (SqT.of upd_same) (WV.tp (tp_new hp) _ hy)) (k4.trans (same_new hp))
  | @right a x t e s hx =>
    cases e
    unfold W.Ok at ho
    rw [W.dep] at hd
    refine ⟨_, rfl, _, _, _, _, rfl, rfl, s, rfl, rfl, eq_no (by decide +kernel) ?_⟩
    refine ⟨_, rfl, _, _, _, _, rfl, rfl, s, rfl, rfl, eq_no (by decide +kernel) ?_⟩
    refine ⟨_, rfl, _, _, _, _, rfl, rfl, s, rfl, rfl, eq_yes rfl ?_⟩
    intro pd hpd
    refine ⟨upd_same, [(Sum.inr "right", .str "left"), (Sum.inr "left", .str "right")], rfl, by decide, ?_⟩
    rw [upd_upd]
    have k1 : Same H (upd H pd (.dK (mergeK [] [(Sum.inr "right", .str "left"), (Sum.inr "left", .str "right")]))) := same_new hpd
    have hg : valV (mergeK [] [((Sum.inr "right" : Key), V.str "left"), (Sum.inr "left", .str "right")]) (Sum.inr "right") = some (.str "left") := by decide +kernel
    refine ⟨_, rfl, _, _, _, _, rfl, rfl, (tp_same k1).sq s, rfl, pd, .str "left", rfl, ?_, ?_⟩
    · have := DGet.k (k := Sum.inr "right") (upd_same (H := H) (a := pd) (o := .dK (mergeK [] [(Sum.inr "right", .str "left"), (Sum.inr "left", .str "right")])))
      rw [hg] at this
      exact this
    refine ⟨_, rfl, _, _, _, _, rfl, rfl, (tp_same k1).sq s, rfl, _, t, rfl, WV.tp (tp_same k1) _ hx, ho, by omega, fun y H4 hy k4 => ?_⟩
    refine ⟨(by show 2 ≤ sizeLine; decide), fun p hp => ?_⟩
    exact q _ _ (by rw [mir_right]; exact wv_left (SqT.of upd_same) (WV.tp (tp_new hp) _ hy)) (k1.trans (k4.trans (same_new hp)))
  | @left a x t e s hx =>
    cases e
    unfold W.Ok at ho
    rw [W.dep] at hd
    refine ⟨_, rfl, _, _, _, _, rfl, rfl, s, rfl, rfl, eq_no (by decide +kernel) ?_⟩
    refine ⟨_, rfl, _, _, _, _, rfl, rfl, s, rfl, rfl, eq_no (by decide +kernel) ?_⟩
    refine ⟨_, rfl, _, _, _, _, rfl, rfl, s, rfl, rfl, eq_no (by decide +kernel) ?_⟩
    refine ⟨_, rfl, _, _, _, _, rfl, rfl, s, rfl, rfl, eq_yes rfl ?_⟩
    intro pd hpd
    refine ⟨upd_same, [(Sum.inr "right", .str "left"), (Sum.inr "left", .str "right")], rfl, by decide, ?_⟩
    rw [upd_upd]
    have k1 : Same H (upd H pd (.dK (mergeK [] [(Sum.inr "right", .str "left"), (Sum.inr "left", .str "right")]))) := same_new hpd
    have hg : valV (mergeK [] [((Sum.inr "right" : Key), V.str "left"), (Sum.inr "left", .str "right")]) (Sum.inr "left") = some (.str "right") := by decide +kernel
    refine ⟨_, rfl, _, _, _, _, rfl, rfl, (tp_same k1).sq s, rfl, pd, .str "right", rfl, ?_, ?_⟩
    · have := DGet.k (k := Sum.inr "left") (upd_same (H := H) (a := pd) (o := .dK (mergeK [] [(Sum.inr "right", .str "left"), (Sum.inr "left", .str "right")])))
      rw [hg] at this
      exact this
    refine ⟨_, rfl, _, _, _, _, rfl, rfl, (tp_same k1).sq s, rfl, _, t, rfl, WV.tp (tp_same k1) _ hx, ho, by omega, fun y H4 hy k4 => ?_⟩
    refine ⟨(by show 2 ≤ sizeLine; decide), fun p hp => ?_⟩
    exact q _ _ (by rw [mir_left]; exact wv_right (SqT.of upd_same) (WV.tp (tp_new hp) _ hy)) (k1.trans (k4.trans (same_new hp)))
theorem ok_turned (D : Df K mg "_law_turned" s__law_turned ["_law_tree_here"]) (bi : Bi mg) : ∀ n : Nat, Cal P w K mg base n "_law_turned" ["_law_tree_here"] (spMir K n)
  | 0 => D.no fun vs H Q E h => by
    obtain ⟨v, t, _, _, _, h, _⟩ := h
    have := t.dep_pos
    omega
  | n + 1 => ok_turned1 D bi (ok_turned D bi n)
/-! ### _law_spots, where nothing is near -/
/-- addresses of places in t -/
def Ads (K : PySem.W.Frag) (H : Hp) (vs : List V) (t : W) : Prop := ∀ x ∈ vs, ∃ a ns, x = .ref a ∧ SqT K H a (ns.map V.int) ∧ Vd t ns
theorem Ads.tp {K : PySem.W.Frag} {H H' : Hp} {vs : List V} {t : W} (k : Tp H H') (h : Ads K H vs t) : Ads K H' vs t := fun x hx => by
  obtain ⟨a, ns, e, s, v⟩ := h x hx
  exact ⟨a, ns, e, k.sq s, v⟩
theorem Ads.app {K : PySem.W.Frag} {H : Hp} {vs zs : List V} {t : W} (h : Ads K H vs t) (g : Ads K H zs t) : Ads K H (vs ++ zs) t := fun x hx => by
  rcases List.mem_append.mp hx with q | q
  · exact h x q
  · exact g x q
theorem ads_nil {K : PySem.W.Frag} {H : Hp} {t : W} : Ads K H [] t := fun x hx => (List.not_mem_nil hx).elim
theorem spots_lc {K : PySem.W.Frag} {p D : Addr} {zs : List V} {jv : Nat} {m : Int} {σ : L2.St} {H1 : Hp} {Qd : Hp → Prop} {t u : W} (hjv : ∀ x, (σ.set 10 (some x))[jv]? = some (some (.int m))) (h10 : ∀ x, (σ.set 10 (some x))[10]? = some (some x)) (hst : t.stp m = some u)
    (hp : SqL K H1 p zs) (hz : Ads K H1 zs u) (ou : u.Ok abc) (du : u.dep ≤ 100) (hD : H1 D = none) (hsz : zs.length < 10000000) (q : ∀ acc H3, H3 D = some (.lst acc) → acc.length = zs.length → Ads K H3 acc t → Same H1 H3 → Qd H3) :
    ∃ W : Nat → Nat → Hp → Prop, (∃ m, W 0 m (upd H1 D (.lst []))) ∧ ∀ i m H, W i m H →
      ((Itl K p).stop i H ∧ Qd H) ∨ ((Itl K p).go i H ∧ ∃ Nx : Hp → Prop, (∀ H', Nx H' → ∃ m', m' < m ∧ W (i + 1) m' H') ∧ ∀ x H', (Itl K p).yld i H x H' → gName 10 x (wipe σ [10]) H' fun σ2 H2 => wipe σ2 [10] = wipe σ [10] ∧ tYes σ2 H2 fun b H3 =>
        if b = true then (tOp (rCatT K) (tTup (tCons (tVar jv) tNil)) (tVar 10)) σ2 H3 fun y H4 => ∃ acc, H4 D = some (.lst acc) ∧ acc.length < sizeLine ∧ Nx (upd H4 D (.lst (acc ++ [y]))) else Nx H3) := by
  refine lcl (xs := zs) (fun i H3 => ∃ acc, H3 D = some (.lst acc) ∧ acc.length = i ∧ Ads K H3 acc t ∧ Same H1 H3) ?_ ?_ ?_ ?_
  · exact ⟨[], upd_same, rfl, ads_nil, same_new hD⟩
  · rintro i H3 _ ⟨acc, _, _, _, k3⟩
    exact k3.seq hp
  · rintro i x H3 hx ⟨acc, hA, hal, hads, k3⟩
    have hi : i < zs.length := (List.getElem?_eq_some_iff.mp hx).1
    obtain ⟨a, ns, rfl, s, hvd⟩ := hz x (List.mem_of_getElem? hx)
    have hns : ns.length ≤ 1000 := by
      obtain ⟨c, hg⟩ := hvd
      have := (go_ok _ ou hg).2
      omega
    refine ⟨_, hjv _, (by show 1 ≤ sizeLine; decide), fun p2 hp2 => ⟨_, h10 _, ?_⟩⟩
    refine cat_one (SqT.of upd_same) ((tp_new hp2).sq ((tp_same k3).sq s)) hns (fun p4 H4 hs4 k4 => ?_)
    have k34 : Same H3 H4 := (same_new hp2).trans k4
    have hA4 := k34 _ _ hA
    refine ⟨acc, hA4, ?_, acc ++ [.ref p4], upd_same, ?_, ?_, ?_⟩
    · rw [hal]
      exact Nat.lt_of_lt_of_le hi (Nat.le_trans (Nat.le_of_lt hsz) (by decide))
    · rw [List.length_append, hal]; rfl
    · refine Ads.tp (tp_set hA4) (Ads.app (Ads.tp (tp_same k34) hads) ?_)
      intro x hx
      cases List.mem_singleton.mp hx
      exact ⟨p4, m :: ns, rfl, hs4, vd_cons hst hvd⟩
    · intro b' o hb
      rw [upd_ne (ne_of_none hb hD)]
      exact k34 _ _ (k3 _ _ hb)
  · rintro H3 ⟨acc, hA, hal, hads, k3⟩
    exact q acc H3 hA hal hads k3
theorem none_same {H H1 : Hp} {a : Addr} (S : Same H H1) (h : H1 a = none) : H a = none := Option.eq_none_iff_forall_ne_some.mpr fun o q => by rw [S _ _ q] at h; cases h
def spSpots (K : PySem.W.Frag) (n : Nat) : Sp := fun vs H Q _ => ∃ v t b, vs = [v, .ref b, .int 2] ∧ WV K H v t ∧ t.Ok abc ∧ t.dep ≤ n ∧ n ≤ 6 ∧ SqL K H b [] ∧ ∀ p xs H', H' p = some (.lst xs) → H p = none → xs.length ≤ 10 ^ t.dep → Ads K H' xs t → Same H H' → Q (.ref p) H'
theorem sc__law_spots : FnScope ["_law_tree_here", "_law_near", "_law_reach", "_law_found", "_law_at", "_law_inside", "_law_ends", "_law_numbers", "_law_end", "_law_number", "_law_spot"] ["_law_tree_here", "_law_near", "_law_reach"] (defScope s__law_spots) := ⟨rfl, rfl, rfl, by decide +kernel, rfl, by decide +kernel, by decide +kernel⟩
theorem ok_spots1 {n : Nat} (D : Df K mg "_law_spots" s__law_spots ["_law_tree_here", "_law_near", "_law_reach"]) (bi : Bi mg) (c_law_spots : Cal P w K mg base n "_law_spots" ["_law_tree_here", "_law_near", "_law_reach"] (spSpots K n)) :
    Cal P w K mg base (n + 1) "_law_spots" ["_law_tree_here", "_law_near", "_law_reach"] (spSpots K (n + 1)) := by
  refine D.ok sc__law_spots (fun vs H Q E h => ?_) (fun f cdv A outer s H vs Q E hr h => ?_)
  · obtain ⟨v, t, b, rfl, _⟩ := h
    rfl
  obtain ⟨v, t, b, rfl, hv, ho, hd, hn, hb, q⟩ := h
  refine ⟨_, (C8.pss_cut (ps_if (pt_cmpR op_eq (pe_ix ix_tup (pv 0) pe_int (fun _ _ => rfl)) pe_str (nomark _)) (pss_one (ps_ret (pe_lst (pa_cons (pe_tup pa_nil) pa_nil)))) pss_nil)
      (C8.pss_cut (ps_if (pt_cmpR op_eq (pe_ix ix_tup (pv 0) pe_int (fun _ _ => rfl)) pe_str (nomark _)) (pss_one (ps_ret (pe_lst pa_nil))) pss_nil)
      (pss_cons (ps_set (i := 3) sc__law_spots.nd rfl (.inl rfl) (pe_lst pa_nil))
      (C8.pss_cut (ps_if (pt_cmpR op_eq (pe_ix ix_tup (pv 0) pe_int (fun _ _ => rfl)) pe_str (nomark _)) (pss_cons (ps_for PassesOwn.never rfl (pi_range1 (by rfl) bi.range (pa_cons (pe_callB call_len_seq (by rfl) bi.len PySem.boot_len (pa_cons (pe_ix ix_tup (pv 0) pe_int (fun _ _ => rfl)) pa_nil)) pa_nil)) (pg_name (i := 4) sc__law_spots.nd rfl (.inr rfl)) (pss_cons (ps_setLc (i := 5) (own := [("_law_spot", 10)]) (g := gName 10) (tt := tTest (tOp rEq (tOp (rIxT K) (tVar 10) (tC (.int 0))) (tVar 4))) (te := tSl (rSlA K) (tVar 10) (tPart (tC (.int 1))) tNoPart) rfl sc__law_spots.nd rfl rfl (sw_true rfl rfl rfl (by decide +kernel)) (pi_list (pv 1)) (blkOk_by (N := ["_law_tree_here", "_law_near", "_law_reach", "_law_found", "_law_at", "_law_inside", "_law_ends", "_law_numbers", "_law_end", "_law_number", "_law_spot"]) (sc := defScope s__law_spots) (by decide +kernel)) (fun _ _ _ _ _ => (pg_name (i := 10) sc__law_spots.nd rfl (.inl rfl))) (fun _ _ _ _ _ => (pts_one (pt_cmpR op_eq (pe_ix ix_tup (pv 10) pe_int (fun _ _ => rfl)) (pv 4) (nomark _)))) (fun _ _ _ _ _ => (pe_slice sl_tupA (pv 10) (po_some pe_int) po_none)))
      (pss_one (ps_set (i := 3) sc__law_spots.nd rfl (.inl rfl) (pe_op op_cat (pv 3) (pe_lc (own := [("_law_spot", 10)]) (g := gName 10) (tt := tYes) (te := tOp (rCatT K) (tTup (tCons (tVar 4) tNil)) (tVar 10)) rfl sc__law_spots.nd (pi_list (pe_own c_law_spots hr (by omega) (by rfl) (pa_cons (pe_ix ix_tup (pe_ix ix_tup (pv 0) pe_int (fun _ _ => rfl)) (pv 4) (fun _ _ => rfl)) (pa_cons (pv 5) (pa_cons (pv 2) pa_nil))))) (blkOk_by (N := ["_law_tree_here", "_law_near", "_law_reach", "_law_found", "_law_at", "_law_inside", "_law_ends", "_law_numbers", "_law_end", "_law_number", "_law_spot"]) (sc := defScope s__law_spots) (by decide +kernel)) (fun _ _ _ _ _ => (pg_name (i := 10) sc__law_spots.nd rfl (.inl rfl))) (fun _ _ _ _ _ => pts_nil) (fun _ _ _ _ _ => (pe_op op_catT (pe_tup (pa_cons (pv 4) pa_nil)) (pv 10)))))))))
      (pss_one (ps_ret (pv 3)))) pss_nil)
      (C8.pss_cut (ps_set (i := 6) sc__law_spots.nd rfl (.inl rfl) (pe_op op_cat (pe_op op_cat (pe_lst (pa_cons pe_int pa_nil)) (pe_lc (own := [("_law_spot", 10)]) (g := gName 10) (tt := tYes) (te := tOp (rIxT K) (tVar 10) (tC (.int 0))) rfl sc__law_spots.nd (pi_list (pv 1)) (blkOk_by (N := ["_law_tree_here", "_law_near", "_law_reach", "_law_found", "_law_at", "_law_inside", "_law_ends", "_law_numbers", "_law_end", "_law_number", "_law_spot"]) (sc := defScope s__law_spots) (by decide +kernel)) (fun _ _ _ _ _ => (pg_name (i := 10) sc__law_spots.nd rfl (.inl rfl))) (fun _ _ _ _ _ => pts_nil) (fun _ _ _ _ _ => (pe_ix ix_tup (pv 10) pe_int (fun _ _ => rfl))))) (pe_ifExp (pt_cmpR op_eq (pe_ix ix_tup (pv 0) pe_int (fun _ _ => rfl)) pe_str (nomark _)) (pe_lst (pa_cons (pe_op op_sub (pe_ix ix_tup (pv 0) pe_int (fun _ _ => rfl)) pe_int) pa_nil)) (pe_lst pa_nil))))
      (pss_cons (ps_set (i := 7) sc__law_spots.nd rfl (.inl rfl) (pe_lst pa_nil))
      (pss_cons (ps_for PassesOwn.never rfl (pi_list (pv 6)) (pg_name (i := 8) sc__law_spots.nd rfl (.inl rfl)) (pss_one (ps_for PassesOwn.never rfl (pi_rgW (by rfl) bi.range (pa_cons (pe_op op_sub (pv 8) (pv 2)) (pa_cons (pe_op op_add (pe_op op_add (pv 8) (pv 2)) pe_int) pa_nil))) (pg_name (i := 9) sc__law_spots.nd rfl (.inr rfl)) (pss_one (ps_if (PW.pt (pw_and (pt_cmpR op_ge (pv 9) pe_int (nomark _)) (pw_and (pt_cmpR op_notIn_seq (pv 9) (pv 7) (by rfl)) (pw_and1 (PW.pt (pw_or (pt_cmpR op_ne (pe_ix ix_tup (pv 0) pe_int (fun _ _ => rfl)) pe_str (nomark _)) (pw_or1 (pt_cmpR op_lt (pv 9) (pe_ix ix_tup (pv 0) pe_int (fun _ _ => rfl)) (nomark _))))))))) (pss_one (ps_expr (pe_bm PySem.F.plainAttrs_list PySem.F.slot_list_append PySem.F.type_list_append mt_append (pv 7) (pa_cons (pv 9) pa_nil)))) pss_nil)))))
      (pss_cons (ps_for PassesOwn.never rfl (pi_list (pe_callB cr_sortedI (by rfl) bi.sorted (by decide +kernel) (pa_cons (pv 7) pa_nil))) (pg_name (i := 9) sc__law_spots.nd rfl (.inr rfl)) (pss_cons (ps_setLc (i := 5) (own := [("_law_spot", 10)]) (g := gName 10) (tt := tTest (tOp rEq (tOp (rIxT K) (tVar 10) (tC (.int 0))) (tVar 9))) (te := tSl (rSlA K) (tVar 10) (tPart (tC (.int 1))) tNoPart) rfl sc__law_spots.nd rfl rfl (sw_true rfl rfl rfl (by decide +kernel)) (pi_list (pv 1)) (blkOk_by (N := ["_law_tree_here", "_law_near", "_law_reach", "_law_found", "_law_at", "_law_inside", "_law_ends", "_law_numbers", "_law_end", "_law_number", "_law_spot"]) (sc := defScope s__law_spots) (by decide +kernel)) (fun _ _ _ _ _ => (pg_name (i := 10) sc__law_spots.nd rfl (.inl rfl))) (fun _ _ _ _ _ => (pts_one (pt_cmpR op_eq (pe_ix ix_tup (pv 10) pe_int (fun _ _ => rfl)) (pv 9) (nomark _)))) (fun _ _ _ _ _ => (pe_slice sl_tupA (pv 10) (po_some pe_int) po_none)))
      (pss_one (ps_set (i := 3) sc__law_spots.nd rfl (.inl rfl) (pe_op op_cat (pv 3) (pe_lc (own := [("_law_spot", 10)]) (g := gName 10) (tt := tYes) (te := tOp (rCatT K) (tTup (tCons (tVar 9) tNil)) (tVar 10)) rfl sc__law_spots.nd (pi_list (pe_own c_law_spots hr (by omega) (by rfl) (pa_cons (pe_ix ix_tup (pv 0) pe_int (fun _ _ => rfl)) (pa_cons (pv 5) (pa_cons (pv 2) pa_nil))))) (blkOk_by (N := ["_law_tree_here", "_law_near", "_law_reach", "_law_found", "_law_at", "_law_inside", "_law_ends", "_law_numbers", "_law_end", "_law_number", "_law_spot"]) (sc := defScope s__law_spots) (by decide +kernel)) (fun _ _ _ _ _ => (pg_name (i := 10) sc__law_spots.nd rfl (.inl rfl))) (fun _ _ _ _ _ => pts_nil) (fun _ _ _ _ _ => (pe_op op_catT (pe_tup (pa_cons (pv 9) pa_nil)) (pv 10)))))))))
      (pss_one (ps_ret (pv 3))))))))))), ?_⟩
  refine ⟨fun σ' H' => σ' = [some v, some (.ref b), some (.int 2), none, none, none, none, none, none, none, none] ∧ H' = H ∧ t.isL = false, ?_, ?_⟩
  · have at_ := hv.at
    cases at_ with
    | nam e s =>
      unfold W.Ok at ho
      exact ho.elim
    | ltr e s =>
      cases e
      refine ⟨_, rfl, _, _, _, _, rfl, rfl, s, rfl, rfl, eq_yes rfl ?_⟩
      refine ⟨Nat.zero_le _, fun p hp => ⟨(by show 1 ≤ sizeLine; decide), fun p2 hp2 => ?_⟩⟩
      have S1 : Same H (upd H p (.tup [])) := same_new hp
      refine q p2 [.ref p] _ upd_same (none_same S1 hp2) (by rw [W.dep]; show 1 ≤ 10 ^ 1; decide) ?_ (S1.trans (same_new hp2))
      intro x hx
      cases List.mem_singleton.mp hx
      exact ⟨p, [], rfl, (tp_new hp2).sq (SqT.of upd_same), vd_nil⟩
    | emp e s =>
      cases e
      exact ⟨_, rfl, _, _, _, _, rfl, rfl, s, rfl, rfl, eq_no (by decide +kernel) ⟨rfl, rfl, rfl⟩⟩
    | join e s s2 hw =>
      cases e
      exact ⟨_, rfl, _, _, _, _, rfl, rfl, s, rfl, rfl, eq_no (by decide +kernel) ⟨rfl, rfl, rfl⟩⟩
    | times e s hx =>
      cases e
      exact ⟨_, rfl, _, _, _, _, rfl, rfl, s, rfl, rfl, eq_no (by decide +kernel) ⟨rfl, rfl, rfl⟩⟩
    | right e s hx =>
      cases e
      exact ⟨_, rfl, _, _, _, _, rfl, rfl, s, rfl, rfl, eq_no (by decide +kernel) ⟨rfl, rfl, rfl⟩⟩
    | left e s hx =>
      cases e
      exact ⟨_, rfl, _, _, _, _, rfl, rfl, s, rfl, rfl, eq_no (by decide +kernel) ⟨rfl, rfl, rfl⟩⟩
  rintro σ' H' ⟨rfl, rfl, hL⟩
  refine ⟨fun σ' H1 => σ' = [some v, some (.ref b), some (.int 2), none, none, none, none, none, none, none, none] ∧ H1 = H' ∧ t ≠ .emp, ?_, ?_⟩
  · have at_ := hv.at
    cases at_ with
    | nam e s =>
      unfold W.Ok at ho
      exact ho.elim
    | ltr e s => cases hL
    | emp e s =>
      cases e
      refine ⟨_, rfl, _, _, _, _, rfl, rfl, s, rfl, rfl, eq_yes rfl ?_⟩
      exact ⟨Nat.zero_le _, fun p hp => q p [] _ upd_same hp (Nat.zero_le _) ads_nil (same_new hp)⟩
    | join e s s2 hw =>
      cases e
      exact ⟨_, rfl, _, _, _, _, rfl, rfl, s, rfl, rfl, eq_no (by decide +kernel) ⟨rfl, rfl, fun h => nomatch h⟩⟩
    | times e s hx =>
      cases e
      exact ⟨_, rfl, _, _, _, _, rfl, rfl, s, rfl, rfl, eq_no (by decide +kernel) ⟨rfl, rfl, fun h => nomatch h⟩⟩
    | right e s hx =>
      cases e
      exact ⟨_, rfl, _, _, _, _, rfl, rfl, s, rfl, rfl, eq_no (by decide +kernel) ⟨rfl, rfl, fun h => nomatch h⟩⟩
    | left e s hx =>
      cases e
      exact ⟨_, rfl, _, _, _, _, rfl, rfl, s, rfl, rfl, eq_no (by decide +kernel) ⟨rfl, rfl, fun h => nomatch h⟩⟩
  rintro σ' H1 ⟨rfl, rfl, hE⟩
  refine ⟨Nat.zero_le _, fun pf hpf => ?_⟩
  have S0 : Same H1 (upd H1 pf (.lst [])) := same_new hpf
  generalize hH0 : upd H1 pf (.lst []) = H0 at S0
  have hF0 : H0 pf = some (.lst []) := by rw [← hH0]; exact upd_same
  refine ⟨fun σ' H2 => σ' = [some v, some (.ref b), some (.int 2), some (.ref pf), none, none, none, none, none, none, none] ∧ H2 = H0 ∧ ∀ ws, t ≠ .join ws, ?_, ?_⟩
  · have at_ := (WV.tp (tp_same S0) _ hv).at
    cases at_ with
    | nam e s =>
      unfold W.Ok at ho
      exact ho.elim
    | ltr e s => cases hL
    | emp e s => exact absurd rfl hE
    | times e s hx =>
      cases e
      exact ⟨_, rfl, _, _, _, _, rfl, rfl, s, rfl, rfl, eq_no (by decide +kernel) ⟨rfl, rfl, fun ws h => nomatch h⟩⟩
    | right e s hx =>
      cases e
      exact ⟨_, rfl, _, _, _, _, rfl, rfl, s, rfl, rfl, eq_no (by decide +kernel) ⟨rfl, rfl, fun ws h => nomatch h⟩⟩
    | left e s hx =>
      cases e
      exact ⟨_, rfl, _, _, _, _, rfl, rfl, s, rfl, rfl, eq_no (by decide +kernel) ⟨rfl, rfl, fun ws h => nomatch h⟩⟩
    | @join a b' xs ws e s s2 hw =>
      cases e
      have hl := hw.length
      have ho' := ho
      unfold W.Ok at ho'
      rw [W.dep] at hd
      refine ⟨_, rfl, _, _, _, _, rfl, rfl, s, rfl, rfl, eq_yes rfl ?_⟩
      refine ⟨_, rfl, _, _, _, _, rfl, rfl, s, rfl, b', xs, rfl, .inr s2, _, rfl, by omega, by omega, for_range (n := xs.length) (fun i σ' H' => ∃ pg acc y4 y5, σ' = [some (.ref a), some (.ref b), some (.int 2), some (.ref pg), y4, y5, none, none, none, none, none] ∧
        H' pg = some (.lst acc) ∧ H1 pg = none ∧ acc.length ≤ i * 10 ^ W.deps ws ∧ Ads K H' acc (.join ws) ∧ Same H0 H') ?_ ?_ ?_⟩
      · exact ⟨pf, [], none, none, rfl, hF0, hpf, Nat.zero_le _, ads_nil, Same.refl H0⟩
      · rintro i σ' H2 hi ⟨pg, acc, y4, y5, rfl, hA, hpg, hal, hads, S2⟩
        have hgx : xs[i]? = some xs[i] := List.getElem?_eq_getElem hi
        obtain ⟨u, eu, hu⟩ := hw.get hgx
        have mu := List.mem_of_getElem? eu
        have du := W.deps_mem mu
        have S02 : Same H1 H2 := S0.trans S2
        have d0 : u.dep ≤ 6 := by omega
        -- what is near
        refine ⟨_, rfl, b, rfl, ⟨[], S02.seq hb⟩, fun Dd hD => ?_⟩
        have S3 : Same H2 (upd H2 Dd (.lst [])) := same_new hD
        refine lc_list (xs := []) (fun _ H3 => H3 = upd H2 Dd (.lst [])) rfl (fun i H3 _ e => by rw [e]; exact S3.seq (S02.seq hb)) (fun i x H3 hx _ => by cases hx) (fun H3 e => ?_)
        subst e
        have t3 := tp_same (S2.trans S3)
        refine ⟨_, rfl, _, rfl, _, _, _, _, rfl, rfl, t3.sq s, rfl, _, rfl, _, _, _, _, rfl, rfl, t3.sq s2, at_of (j := i) (by omega) hgx, _, rfl, _, rfl, ?_⟩
        refine ⟨_, u, Dd, rfl, WV.tp t3 _ hu, W.oks_mem mu ho'.2, by omega, by omega, SqL.of upd_same, fun p zs H4 hp hpn hzl hzs S4 => ?_⟩
        refine ⟨p, rfl, ⟨zs, SqL.of hp⟩, fun D2 hD2 => ?_⟩
        have hz6 : zs.length ≤ 10 ^ 6 := Nat.le_trans hzl (Nat.pow_le_pow_right (by decide) d0)
        refine spots_lc (m := 0 + (i : Int)) (t := .join ws) (u := u) (fun _ => rfl) (fun _ => rfl) (by rw [Int.zero_add]; exact stp_join eu) (SqL.of hp) hzs (W.oks_mem mu ho'.2) (by omega) hD2 (Nat.lt_of_le_of_lt hz6 (by decide)) (fun acc2 H5 hA2 hal2 hads2 S5 => ?_)
        have SS : Same H2 H5 := S3.trans (S4.trans S5)
        have hA5 := SS _ _ hA
        have hp10 : 10 ^ u.dep ≤ 10 ^ W.deps ws := Nat.pow_le_pow_right (by decide) du
        have hp6 : 10 ^ W.deps ws ≤ 10 ^ 5 := Nat.pow_le_pow_right (by decide) (by omega)
        have hi3 : i * 10 ^ W.deps ws ≤ 3 * 10 ^ 5 := Nat.mul_le_mul (by omega) hp6
        have hx6 : (10 : Nat) ^ 6 = 1000000 := by decide
        have hx5 : (10 : Nat) ^ 5 = 100000 := by decide
        refine ⟨pg, D2, acc, acc2, rfl, rfl, hA5, hA2, ?_, fun p6 hp6' => ?_⟩
        · rw [hal2]
          exact Nat.le_trans (show acc.length + zs.length ≤ 2000000 by omega) (by decide)
        have S6 : Same H5 (upd H5 p6 (.lst (acc ++ acc2))) := same_new hp6'
        refine ⟨p6, acc ++ acc2, _, _, rfl, upd_same, none_same (S0.trans (S2.trans SS)) hp6', ?_, Ads.app (Ads.tp (tp_same (SS.trans S6)) hads) (Ads.tp (tp_same S6) hads2), S2.trans (SS.trans S6)⟩
        rw [List.length_append, hal2, Nat.succ_mul]
        omega
      · rintro σ' H2 ⟨pg, acc, y4, y5, rfl, hA, hpg, hal, hads, S2⟩
        refine ⟨_, rfl, q pg acc H2 hA hpg ?_ hads (S0.trans S2)⟩
        rw [W.dep, Nat.pow_succ]
        refine Nat.le_trans hal ?_
        rw [Nat.mul_comm]
        exact Nat.mul_le_mul_left _ (by omega)
  rintro σ' H2 ⟨rfl, rfl, hj⟩
  -- the ends
  refine ⟨fun σ' H3 => ∃ (pe : Addr) (ends : List Int), σ' = [some v, some (.ref b), some (.int 2), some (.ref pf), none, none, some (.ref pe), none, none, none, none] ∧ SqL K H3 pe (ends.map V.int) ∧ ends.length ≤ 2 ∧ (∀ e ∈ ends, e = 0 ∨ ∃ x n, t = .times x n) ∧ Same H2 H3, ?_, ?_⟩
  · refine ⟨(by show 1 ≤ sizeLine; decide), fun p1 hp1 => ?_⟩
    have S1 : Same H2 (upd H2 p1 (.lst [.int 0])) := same_new hp1
    refine ⟨_, rfl, b, rfl, ⟨[], S1.seq (S0.seq hb)⟩, fun Dd hD => ?_⟩
    have S3 := S1.trans (same_new (o := .lst []) hD)
    refine lc_list (xs := []) (fun _ H3 => H3 = upd (upd H2 p1 (.lst [.int 0])) Dd (.lst [])) rfl (fun i H3 _ e => by rw [e]; exact S3.seq (S0.seq hb)) (fun i x H3 hx _ => by cases hx) (fun H3 e => ?_)
    subst e
    refine ⟨p1, Dd, _, _, rfl, rfl, by rw [upd_ne (ne_of_none upd_same hD)]; exact upd_same, upd_same, by show 1 ≤ sizeLine; decide, fun p2 hp2 => ?_⟩
    have S4 := S3.trans (same_new (o := .lst [.int 0]) hp2)
    have at_ := (WV.tp (tp_same (S0.trans S4)) _ hv).at
    cases at_ with
    | nam e s =>
      unfold W.Ok at ho
      exact ho.elim
    | ltr e s => cases hL
    | emp e s => exact absurd rfl hE
    | join e s s2 hw => exact absurd rfl (hj _)
    | @times a x u n' e s hx =>
      cases e
      refine ⟨_, rfl, _, _, _, _, rfl, rfl, s, rfl, rfl, eq_yes rfl ?_⟩
      refine ⟨_, rfl, _, _, _, _, rfl, rfl, s, rfl, _, _, rfl, rfl, (by show 1 ≤ sizeLine; decide), fun p3 hp3 => ?_⟩
      refine ⟨p2, p3, _, _, rfl, rfl, by rw [upd_ne (ne_of_none upd_same hp3)]; exact upd_same, upd_same, by show 2 ≤ sizeLine; decide, fun p4 hp4 => ?_⟩
      exact ⟨p4, [0, n' - 1], rfl, SqL.of upd_same, (by show 2 ≤ 2; decide), fun e _ => .inr ⟨_, _, rfl⟩, (S4.trans (same_new hp3)).trans (same_new hp4)⟩
    | right e s hx =>
      cases e
      refine ⟨_, rfl, _, _, _, _, rfl, rfl, s, rfl, rfl, eq_no (by decide +kernel) ?_⟩
      refine ⟨Nat.zero_le _, fun p3 hp3 => ?_⟩
      refine ⟨p2, p3, _, _, rfl, rfl, by rw [upd_ne (ne_of_none upd_same hp3)]; exact upd_same, upd_same, by show 1 ≤ sizeLine; decide, fun p4 hp4 => ?_⟩
      exact ⟨p4, [0], rfl, SqL.of upd_same, by decide, fun e h => .inl (List.mem_singleton.mp h), (S4.trans (same_new hp3)).trans (same_new hp4)⟩
    | left e s hx =>
      cases e
      refine ⟨_, rfl, _, _, _, _, rfl, rfl, s, rfl, rfl, eq_no (by decide +kernel) ?_⟩
      refine ⟨Nat.zero_le _, fun p3 hp3 => ?_⟩
      refine ⟨p2, p3, _, _, rfl, rfl, by rw [upd_ne (ne_of_none upd_same hp3)]; exact upd_same, upd_same, by show 1 ≤ sizeLine; decide, fun p4 hp4 => ?_⟩
      exact ⟨p4, [0], rfl, SqL.of upd_same, by decide, fun e h => .inl (List.mem_singleton.mp h), (S4.trans (same_new hp3)).trans (same_new hp4)⟩
  rintro σ' H3 ⟨pe, ends, rfl, hpe, hel, hends, S3⟩
  -- the numbers
  refine ⟨Nat.zero_le _, fun pn hpn => ?_⟩
  have S4 : Same H3 (upd H3 pn (.lst [])) := same_new hpn
  have S03 : Same H1 H3 := S0.trans S3
  -- its inside
  obtain ⟨x, u, k, zs, a, ev, s, hx, ou, du, hstp⟩ : ∃ x u k zs a, v = .ref a ∧ SqT K H1 a (.str k :: x :: zs) ∧ WV K H1 x u ∧ u.Ok abc ∧ u.dep + 1 ≤ t.dep ∧ ∀ m u', t.stp m = some u' → u' = u := by
    have at_ := hv.at
    cases at_ with
    | nam e s =>
      unfold W.Ok at ho
      exact ho.elim
    | ltr e s => cases hL
    | emp e s => exact absurd rfl hE
    | join e s s2 hw => exact absurd rfl (hj _)
    | times e s hx =>
      unfold W.Ok at ho
      refine ⟨_, _, _, _, _, e, s, hx, ho.2.2, Nat.le_refl _, fun m u' h => ?_⟩
      rw [stpT] at h
      split at h
      · cases h
        rfl
      · cases h
    | right e s hx =>
      unfold W.Ok at ho
      refine ⟨_, _, _, _, _, e, s, hx, ho, Nat.le_refl _, fun m u' h => ?_⟩
      rw [stpR] at h
      split at h
      · cases h
        rfl
      · cases h
    | left e s hx =>
      unfold W.Ok at ho
      refine ⟨_, _, _, _, _, e, s, hx, ho, Nat.le_refl _, fun m u' h => ?_⟩
      rw [stpL] at h
      split at h
      · cases h
        rfl
      · cases h
  -- the numbers near the ends
  refine ⟨_, rfl, pe, rfl, ⟨_, S4.seq hpe⟩, for_list (xs := ends.map V.int) (fun i σ' H' => ∃ (nums : List Int) (y8 y9 : Option V), σ' = [some v, some (.ref b), some (.int 2), some (.ref pf), none, none, some (.ref pe), some (.ref pn), y8, y9, none] ∧
    H' pn = some (.lst (nums.map V.int)) ∧ nums.length ≤ 5 * i ∧ (∀ m ∈ nums, ∃ u', t.stp m = some u') ∧ Same H3 H') ?_ ?_ ?_ ?_⟩
  · exact ⟨[], none, none, rfl, upd_same, Nat.le_refl _, fun m h => (List.not_mem_nil h).elim, S4⟩
  · rintro i σ' H' _ ⟨nums, y8, y9, rfl, _, _, _, S5⟩
    exact S5.seq hpe
  · rintro i y σ' H' hy ⟨nums, y8, y9, rfl, hA, hnl, hval, S5⟩
    rw [List.getElem?_map] at hy
    obtain ⟨e, ee, rfl⟩ := Option.map_eq_some_iff.mp hy
    have hcnt : ((e + 2 + 1) - (e - 2)).toNat = 5 := by omega
    have hil : i < 2 := Nat.lt_of_lt_of_le (List.getElem?_eq_some_iff.mp ee).1 hel
    refine ⟨_, rfl, _, rfl, _, _, rfl, rfl, _, rfl, _, rfl, _, _, rfl, rfl, _, _, rfl, rfl, _, _, rfl, for_range (n := ((e + 2 + 1) - (e - 2)).toNat) (fun j σ' H' => ∃ (nums : List Int) (y9 : Option V), σ' = [some v, some (.ref b), some (.int 2), some (.ref pf), none, none, some (.ref pe), some (.ref pn), some (.int e), y9, none] ∧
      H' pn = some (.lst (nums.map V.int)) ∧ nums.length ≤ 5 * i + j ∧ (∀ m ∈ nums, ∃ u', t.stp m = some u') ∧ Same H3 H') ?_ ?_ ?_⟩
    · exact ⟨nums, y9, rfl, hA, hnl, hval, S5⟩
    · rintro j σ' H6 hj5 ⟨nums, y9, rfl, hA, hnl, hval, S6⟩
      rw [hcnt] at hj5
      generalize hmm : e - 2 + (j : Int) = mm
      have add : (∃ u', t.stp mm = some u') → ∀ p, H6 p = some (.lst (nums.map V.int)) → p = pn → ∃ (nums' : List Int) (y9 : Option V), ([some v, some (.ref b), some (.int 2), some (.ref pf), none, none, some (.ref pe), some (.ref pn), some (.int e), some (.int mm), none] : L2.St) = [some v, some (.ref b), some (.int 2), some (.ref pf), none, none, some (.ref pe), some (.ref pn), some (.int e), y9, none] ∧
          (upd H6 pn (.lst (nums.map V.int ++ [.int mm]))) pn = some (.lst (nums'.map V.int)) ∧ nums'.length ≤ 5 * i + (j + 1) ∧ (∀ m ∈ nums', ∃ u', t.stp m = some u') ∧ Same H3 (upd H6 pn (.lst (nums.map V.int ++ [.int mm]))) := by
        intro hu' p _ _
        refine ⟨nums ++ [mm], _, rfl, by rw [upd_same, List.map_append]; rfl, by rw [List.length_append]; show nums.length + 1 ≤ _; omega, fun m hm => ?_, fun c o hc => ?_⟩
        · rcases List.mem_append.mp hm with h | h
          · exact hval m h
          · cases List.mem_singleton.mp h
            exact hu'
        · rw [upd_ne (ne_of_none hc hpn)]
          exact S6 _ _ hc
      have hsz : (nums.map V.int).length < sizeLine := by
        rw [List.length_map]
        exact Nat.lt_of_le_of_lt (show nums.length ≤ 1000 by omega) (by decide)
      refine ⟨_, rfl, _, _, rfl, rfl, _, rfl, ite2 (fun c0 => ?_) (fun c0 => ⟨nums, _, rfl, hA, by omega, hval, S6⟩)⟩
      refine ⟨_, rfl, _, rfl, pn, _, rfl, .inl (SqL.of hA), rfl, flat_ints _, ?_⟩
      have c0' : 0 ≤ mm := of_decide_eq_true c0
      rw [if_pos rfl, inV_int]
      by_cases hm : mm ∈ nums
      · rw [decide_eq_true hm]
        exact ⟨false, rfl, ⟨nums, _, rfl, hA, by omega, hval, S6⟩⟩
      rw [decide_eq_false hm]
      refine ⟨true, rfl, ?_⟩
      have at_ := (WV.tp (tp_same (S03.trans S6)) _ hv).at
      cases at_ with
      | nam e s =>
        unfold W.Ok at ho
        exact ho.elim
      | ltr e s => cases hL
      | emp e s => exact absurd rfl hE
      | join e s s2 hw => exact absurd rfl (hj _)
      | @times a' x' u' n' e' s' hx' =>
        cases e'
        refine ⟨_, rfl, _, _, _, _, rfl, rfl, s', rfl, rfl, ne_no rfl ?_⟩
        refine ⟨_, rfl, _, rfl, _, _, _, _, rfl, rfl, s', rfl, _, _, rfl, rfl, _, rfl, ite2 (fun c1 => ?_) (fun c1 => ⟨nums, _, rfl, hA, by omega, hval, S6⟩)⟩
        have c1' : mm < n' := of_decide_eq_true c1
        refine ⟨_, rfl, .inl ⟨rfl, _, SqL.of hA⟩, _, rfl, pn, _, _, rfl, rfl, hA, hsz, ?_⟩
        exact add ⟨_, stp_times c0' c1'⟩ pn hA rfl
      | @right a' x' u' e' s' hx' =>
        cases e'
        refine ⟨_, rfl, _, _, _, _, rfl, rfl, s', rfl, rfl, ne_yes (by decide +kernel) ?_⟩
        refine ⟨_, rfl, .inl ⟨rfl, _, SqL.of hA⟩, _, rfl, pn, _, _, rfl, rfl, hA, hsz, ?_⟩
        have he0 : e = 0 := (hends e (List.mem_of_getElem? ee)).resolve_right (fun ⟨_, _, h⟩ => nomatch h)
        exact add ⟨_, stp_right c0' (by show mm ≤ 1000000000000000000000000000000; omega)⟩ pn hA rfl
      | @left a' x' u' e' s' hx' =>
        cases e'
        refine ⟨_, rfl, _, _, _, _, rfl, rfl, s', rfl, rfl, ne_yes (by decide +kernel) ?_⟩
        refine ⟨_, rfl, .inl ⟨rfl, _, SqL.of hA⟩, _, rfl, pn, _, _, rfl, rfl, hA, hsz, ?_⟩
        have he0 : e = 0 := (hends e (List.mem_of_getElem? ee)).resolve_right (fun ⟨_, _, h⟩ => nomatch h)
        exact add ⟨_, stp_left c0' (by show mm ≤ 1000000000000000000000000000000; omega)⟩ pn hA rfl
    · rintro σ' H6 ⟨nums, y9, rfl, hA, hnl, hval, S6⟩
      rw [hcnt] at hnl
      exact ⟨nums, _, _, rfl, hA, by omega, hval, S6⟩
  · rintro σ' H5 ⟨nums, y8, y9, rfl, hA, hnl, hval, S5⟩
    rw [List.length_map] at hnl
    refine ⟨_, rfl, pn, nums, rfl, SqL.of hA, fun ns' ps hperm _ hps => ?_⟩
    have S6 : Same H5 (upd H5 ps (.lst (ns'.map V.int))) := same_new hps
    have hl' : ns'.length = nums.length := hperm.length_eq
    generalize hH6 : upd H5 ps (.lst (ns'.map V.int)) = H6 at S6
    have hps6 : H6 ps = some (.lst (ns'.map V.int)) := by rw [← hH6]; exact upd_same
    have S06 : Same H1 H6 := S03.trans (S5.trans S6)
    refine ⟨ps, rfl, ⟨_, SqL.of hps6⟩, for_list (xs := ns'.map V.int) (fun i σ' H' => ∃ (pg : Addr) (acc : List V) (y5 y9 : Option V), σ' = [some v, some (.ref b), some (.int 2), some (.ref pg), none, y5, some (.ref pe), some (.ref pn), y8, y9, none] ∧
      H' pg = some (.lst acc) ∧ H1 pg = none ∧ acc.length ≤ i * 10 ^ u.dep ∧ Ads K H' acc t ∧ Same H6 H') ?_ ?_ ?_ ?_⟩
    · exact ⟨pf, [], none, y9, rfl, (S3.trans (S5.trans S6)) _ _ hF0, hpf, Nat.zero_le _, ads_nil, Same.refl H6⟩
    · rintro i σ' H' _ ⟨pg, acc, y5, y9, rfl, _, _, _, _, S7⟩
      exact SqL.of (S7 _ _ hps6)
    · rintro i y σ' H7 hy ⟨pg, acc, y5, y9, rfl, hA7, hpg, hal, hads, S7⟩
      rw [List.getElem?_map] at hy
      obtain ⟨m, em, rfl⟩ := Option.map_eq_some_iff.mp hy
      have hi : i < ns'.length := (List.getElem?_eq_some_iff.mp em).1
      have hst : t.stp m = some u := by
        obtain ⟨u', hu'⟩ := hval m (hperm.mem_iff.mp (List.mem_of_getElem? em))
        rw [hu', hstp m u' hu']
      have S07 := S06.trans S7
      refine ⟨_, rfl, b, rfl, ⟨[], S07.seq hb⟩, fun Dd hD => ?_⟩
      have S8 : Same H7 (upd H7 Dd (.lst [])) := same_new hD
      refine lc_list (xs := []) (fun _ H3 => H3 = upd H7 Dd (.lst [])) rfl (fun i H3 _ e => by rw [e]; exact S8.seq (S07.seq hb)) (fun i x H3 hx _ => by cases hx) (fun H8 e => ?_)
      subst e
      subst ev
      have t8 := tp_same (S07.trans S8)
      refine ⟨_, rfl, _, rfl, _, _, _, _, rfl, rfl, t8.sq s, at_of (j := 1) (by omega) rfl, _, rfl, _, rfl, ?_⟩
      refine ⟨_, u, Dd, rfl, WV.tp t8 _ hx, ou, by omega, by omega, SqL.of upd_same, fun p zs H9 hp hpn' hzl hzs S9 => ?_⟩
      refine ⟨p, rfl, ⟨zs, SqL.of hp⟩, fun D2 hD2 => ?_⟩
      have hz5 : 10 ^ u.dep ≤ 10 ^ 5 := Nat.pow_le_pow_right (by decide) (by omega)
      have hx5 : (10 : Nat) ^ 5 = 100000 := by decide
      refine spots_lc (m := m) (t := t) (u := u) (fun _ => rfl) (fun _ => rfl) hst (SqL.of hp) hzs ou (by omega) hD2 (by omega) (fun acc2 H10 hA2 hal2 hads2 S10 => ?_)
      have SS : Same H7 H10 := S8.trans (S9.trans S10)
      have hA10 := SS _ _ hA7
      have hi10 : i * 10 ^ u.dep ≤ 10 * 10 ^ 5 := Nat.mul_le_mul (by omega) hz5
      refine ⟨pg, D2, acc, acc2, rfl, rfl, hA10, hA2, ?_, fun p11 hp11 => ?_⟩
      · rw [hal2]
        exact Nat.le_trans (show acc.length + zs.length ≤ 2000000 by omega) (by decide)
      have S11 : Same H10 (upd H10 p11 (.lst (acc ++ acc2))) := same_new hp11
      refine ⟨p11, acc ++ acc2, _, _, rfl, upd_same, none_same (S07.trans SS) hp11, ?_, Ads.app (Ads.tp (tp_same (SS.trans S11)) hads) (Ads.tp (tp_same S11) hads2), S7.trans (SS.trans S11)⟩
      rw [List.length_append, hal2, Nat.succ_mul]
      omega
    · rintro σ' H7 ⟨pg, acc, y5, y9, rfl, hA7, hpg, hal, hads, S7⟩
      refine ⟨_, rfl, q pg acc H7 hA7 hpg ?_ hads (S06.trans S7)⟩
      rw [List.length_map] at hal
      have h1 : ns'.length * 10 ^ u.dep ≤ 10 * 10 ^ u.dep := Nat.mul_le_mul_right _ (by omega)
      have h2 : 10 * 10 ^ u.dep = 10 ^ (u.dep + 1) := by rw [Nat.pow_succ, Nat.mul_comm]
      have h3 : 10 ^ (u.dep + 1) ≤ 10 ^ t.dep := Nat.pow_le_pow_right (by decide) du
      omega
theorem ok_spots (D : Df K mg "_law_spots" s__law_spots ["_law_tree_here", "_law_near", "_law_reach"]) (bi : Bi mg) : ∀ n : Nat, Cal P w K mg base n "_law_spots" ["_law_tree_here", "_law_near", "_law_reach"] (spSpots K n)
  | 0 => D.no fun vs H Q E h => by
    obtain ⟨v, t, b, _, _, _, h, _⟩ := h
    have := t.dep_pos
    omega
  | n + 1 => ok_spots1 D bi (ok_spots D bi n)
/-! ### _law_ahead -/
def spAhead (K : PySem.W.Frag) : Sp := fun vs H Q _ => ∃ v t a ns b ms, vs = [v, .ref a, .ref b] ∧ WV K H v t ∧ t.Ok abc ∧ SqT K H a (ns.map V.int) ∧ SqT K H b (ms.map V.int) ∧ Vd t ns ∧ Vd t ms ∧ ∀ H', Same H H' → Q (.bl (decide (cmpA t ns ms = -1))) H'
theorem sc__law_ahead : FnScope ["_law_tree_here", "_law_one", "_law_other", "_law_here", "_law_first_here", "_law_second"] ["_law_tree_here", "_law_one", "_law_other"] (defScope s__law_ahead) := ⟨rfl, rfl, rfl, by decide +kernel, rfl, by decide +kernel, by decide +kernel⟩
theorem ok_ahead (D : Df K mg "_law_ahead" s__law_ahead ["_law_tree_here", "_law_one", "_law_other"]) (bi : Bi mg) : Cal P w K mg base 1 "_law_ahead" ["_law_tree_here", "_law_one", "_law_other"] (spAhead K) := by
  refine D.ok sc__law_ahead (fun vs H Q E h => ?_) (fun f cdv A outer s H vs Q E hr h => ?_)
  · obtain ⟨v, t, a, ns, b, ms, rfl, _⟩ := h
    rfl
  obtain ⟨v, t, a, ns, b, ms, rfl, hv, ho, ha, hb, v1, v2, q⟩ := h
  refine ⟨_, (pss_cons (ps_set (i := 3) sc__law_ahead.nd rfl (.inl rfl) (pv 0))
      (pss_cons (ps_for PassesOwn.never rfl (RZ.pi_zipA (by rfl) bi.zip (pa_cons (pv 1) (pa_cons (pv 2) pa_nil))) (pg_tup rfl (pgs_cons (pg_name (i := 4) sc__law_ahead.nd rfl (.inl rfl)) (pgs_cons (pg_name (i := 5) sc__law_ahead.nd rfl (.inl rfl)) pgs_nil))) (pss_cons (ps_if (pt_cmpR op_ne (pv 4) (pv 5) (nomark _)) (pss_one (ps_ret (pe_cmpR op_eq (pe_cmpR op_lt (pv 4) (pv 5) (nomark _)) (pe_cmpR op_ne (pe_ix ix_tup (pv 3) pe_int (fun _ _ => rfl)) pe_str (nomark _)) (nomark _)))) pss_nil)
      (pss_one (ps_set (i := 3) sc__law_ahead.nd rfl (.inl rfl) (pe_ifExp (pt_cmpR op_eq (pe_ix ix_tup (pv 3) pe_int (fun _ _ => rfl)) pe_str (nomark _)) (pe_ix ix_tup (pe_ix ix_tup (pv 3) pe_int (fun _ _ => rfl)) (pv 4) (fun _ _ => rfl)) (pe_ix ix_tup (pv 3) pe_int (fun _ _ => rfl)))))))
      (pss_one (ps_ret pe_bl)))), ?_⟩
  have hl1 : (ns.map V.int).length = ns.length := List.length_map _
  have hl2 : (ms.map V.int).length = ms.length := List.length_map _
  refine ⟨_, rfl, _, rfl, _, rfl, a, b, ns.map V.int, ms.map V.int, rfl, .inr ⟨ha, hb, for_zipTm (n := min (ns.map V.int).length (ms.map V.int).length) rfl (fun i σ' H' => ∃ x u y4 y5, σ' = [some v, some (.ref a), some (.ref b), some x, y4, y5] ∧ ns.take i = ms.take i ∧ t.go (ns.take i) = some u ∧ WV K H' x u ∧ Same H H') ?_ ?_ ?_ ?_⟩⟩
  · exact ⟨v, t, none, none, rfl, by rw [List.take_zero, List.take_zero], go_nil _, hv, Same.refl H⟩
  · rintro i σ' H' ⟨x, u, y4, y5, rfl, e, eu, hx, S1⟩
    exact ⟨(tp_same S1).sq ha, (tp_same S1).sq hb⟩
  · rintro i y y' T σ' H' hy hy' ⟨x, u, y4, y5, rfl, e, eu, hx, S1⟩ hT
    rw [List.getElem?_map] at hy hy'
    obtain ⟨i1, e1, rfl⟩ := Option.map_eq_some_iff.mp hy
    obtain ⟨j1, e2, rfl⟩ := Option.map_eq_some_iff.mp hy'
    have S2 : Same H (upd H' T (.tup [.int i1, .int j1])) := S1.trans (same_new hT)
    have hx2 := WV.tp (tp_new (o := .tup [.int i1, .int j1]) hT) _ hx
    have n1 := (List.getElem?_eq_some_iff.mp e1).1
    have n2 := (List.getElem?_eq_some_iff.mp e2).1
    have dr1 : ns.drop i = i1 :: ns.drop (i + 1) := by rw [List.drop_eq_getElem_cons n1, (List.getElem?_eq_some_iff.mp e1).2]
    have dr2 : ms.drop i = j1 :: ms.drop (i + 1) := by rw [List.drop_eq_getElem_cons n2, (List.getElem?_eq_some_iff.mp e2).2]
    have hcmp := cmp_drop e eu
    rw [dr1, dr2, cmpA] at hcmp
    refine ⟨T, [.int i1, .int j1], rfl, SqT.of upd_same, rfl, _, _, rfl, _, _, rfl, rfl, ?_⟩
    refine ⟨_, rfl, _, rfl, rfl, _, rfl, ite2 (fun hc => ?_) (fun hc => ?_)⟩
    · have hne : i1 ≠ j1 := fun h => by
        rw [h, decide_eq_true rfl] at hc
        cases hc
      rw [if_neg hne] at hcmp
      have hq := q _ S2
      rw [hcmp] at hq
      have at_ := hx2.at
      refine ⟨_, rfl, _, rfl, _, _, rfl, rfl, ?_⟩
      have keyN : u.isLeft = false → decide ((if u.isLeft = true then if j1 < i1 then (-1 : Int) else 1 else if i1 < j1 then -1 else 1) = -1) = decide (V.bl (decide (i1 < j1)) = V.bl true) := fun hL => by
        rw [hL, if_neg (by decide)]
        by_cases h : i1 < j1
        · rw [if_pos h, decide_eq_true h]; rfl
        · rw [if_neg h, decide_eq_false h]; rfl
      have keyL : u.isLeft = true → decide ((if u.isLeft = true then if j1 < i1 then (-1 : Int) else 1 else if i1 < j1 then -1 else 1) = -1) = decide (V.bl (decide (i1 < j1)) = V.bl false) := fun hL => by
        rw [hL, if_pos rfl]
        by_cases h : i1 < j1
        · rw [if_neg (by omega), decide_eq_true h]; rfl
        · rw [if_pos (by omega), decide_eq_false h]; rfl
      cases at_ with
      | nam e s => cases e; rw [keyN rfl] at hq; exact ⟨_, rfl, _, _, _, _, rfl, rfl, s, rfl, rfl, rfl, hq⟩
      | ltr e s => cases e; rw [keyN rfl] at hq; exact ⟨_, rfl, _, _, _, _, rfl, rfl, s, rfl, rfl, rfl, hq⟩
      | emp e s => cases e; rw [keyN rfl] at hq; exact ⟨_, rfl, _, _, _, _, rfl, rfl, s, rfl, rfl, rfl, hq⟩
      | join e s s2 hw => cases e; rw [keyN rfl] at hq; exact ⟨_, rfl, _, _, _, _, rfl, rfl, s, rfl, rfl, rfl, hq⟩
      | times e s hx => cases e; rw [keyN rfl] at hq; exact ⟨_, rfl, _, _, _, _, rfl, rfl, s, rfl, rfl, rfl, hq⟩
      | right e s hx => cases e; rw [keyN rfl] at hq; exact ⟨_, rfl, _, _, _, _, rfl, rfl, s, rfl, rfl, rfl, hq⟩
      | left e s hx => cases e; rw [keyL rfl] at hq; exact ⟨_, rfl, _, _, _, _, rfl, rfl, s, rfl, rfl, rfl, hq⟩
    · have hij : i1 = j1 := by
        refine Classical.byContradiction fun h => hc ?_
        have : decide (V.int i1 = V.int j1) = false := decide_eq_false fun e => h (V.int.inj e)
        rw [this]
        rfl
      have et : ns.take (i + 1) = ns.take i ++ [i1] := by rw [List.take_add_one, e1]; rfl
      obtain ⟨u2, es⟩ := vd_take v1 (i + 1)
      have es2 : u.stp i1 = some u2 := by
        rw [et, go_app_some eu] at es
        cases e2 : u.stp i1 with
        | none => rw [go_none e2] at es; cases es
        | some z => rw [go_cons e2, go_nil] at es; exact es
      refine walk_step (i := 3) (j := 4) hx2 es2 rfl rfl (fun y hy => ⟨y, u2, _, _, rfl, ?_, es, hy, S2⟩)
      rw [List.take_add_one, List.take_add_one, e1, e2, e, hij]
  · rintro σ' H' ⟨x, u, y4, y5, rfl, e, eu, hx, S1⟩
    have hq := q _ S1
    have : cmpA t ns ms = 0 := by
      rw [cmp_drop e eu]
      by_cases hc2 : ns.length ≤ ms.length
      · rw [List.drop_eq_nil_of_le (as := ns) (by omega), cmp_end]
      · rw [List.drop_eq_nil_of_le (as := ms) (by omega), cmp_end2]
    rw [this] at hq
    exact hq
/-! ### _count -/
def spCnt (K : PySem.W.Frag) (n : Nat) : Sp := fun vs H Q _ => ∃ v t u L, vs = [v, .ref u] ∧ WV K H v t ∧ t.Ok abcABC ∧ t.dep ≤ n ∧ n ≤ 100 ∧ SqT K H u (L.map V.str) ∧ ∀ H', Same H H' → Q (toV (t.cnt L)) H'
theorem sc__count : FnScope ["word", "letters", "kind", "counts", "count", "part"] ["word", "letters"] (defScope s__count) := ⟨rfl, rfl, rfl, by decide +kernel, rfl, by decide +kernel, by decide +kernel⟩
theorem ok_cnt1 {n : Nat} (D : Df K mg "_count" s__count ["word", "letters"]) (bi : Bi mg) (c_count : Cal P w K mg base n "_count" ["word", "letters"] (spCnt K n)) : Cal P w K mg base (n + 1) "_count" ["word", "letters"] (spCnt K (n + 1)) := by
  refine D.ok sc__count (fun vs H Q E h => ?_) (fun f cdv A outer s H vs Q E hr h => ?_)
  · obtain ⟨v, t, u, L, rfl, _⟩ := h
    rfl
  obtain ⟨v, t, u, L, rfl, hv, ho, hd, hn, hu, q⟩ := h
  refine ⟨_, (pss_cons (ps_set (i := 2) sc__count.nd rfl (.inl rfl) (pe_ix ix_tup (pv 0) pe_int (fun _ _ => rfl)))
      (pss_cons (ps_if (pt_cmpR op_eq (pv 2) pe_str (nomark _)) (pss_one (ps_ret (pe_ifExp (pt_cmpR op_in_seq (pe_ix ix_tup (pv 0) pe_int (fun _ _ => rfl)) (pv 1) (by rfl)) pe_int pe_int))) pss_nil)
      (pss_cons (ps_if (pt_cmpR op_eq (pv 2) pe_str (nomark _)) (pss_cons (ps_setLc (i := 3) (own := [("part", 5)]) (g := gName 5) (tt := tYes) rfl sc__count.nd rfl rfl (sw_true rfl rfl rfl (by decide +kernel)) (pi_tup (pe_ix ix_tup (pv 0) pe_int (fun _ _ => rfl))) (blkOk_by (N := ["word", "letters", "kind", "counts", "count", "part"]) (sc := defScope s__count) (by decide +kernel)) (fun _ _ _ _ _ => (pg_name (i := 5) sc__count.nd rfl (.inl rfl))) (fun _ _ _ _ _ => pts_nil) (fun _ _ _ _ _ => (pe_own c_count hr (by omega) (by rfl) (pa_cons (pv 5) (pa_cons (pv 1) pa_nil)))))
      (pss_one (ps_ret (pe_ifExp (pt_cmpR op_in_seq pe_non (pv 3) (by rfl)) pe_non (pe_callB (cr_sum rfl) (by rfl) bi.sum (by decide +kernel) (pa_cons (pv 3) pa_nil)))))) pss_nil)
      (pss_cons (ps_if (PW.pt (pw_and (pt_cmpR op_eq (pv 2) pe_str (nomark _)) (pw_and1 (pt_cmpR op_gt (pe_ix ix_tup (pv 0) pe_int (fun _ _ => rfl)) pe_int (nomark _))))) (pss_cons (ps_set (i := 4) sc__count.nd rfl (.inl rfl) (pe_own c_count hr (by omega) (by rfl) (pa_cons (pe_ix ix_tup (pv 0) pe_int (fun _ _ => rfl)) (pa_cons (pv 1) pa_nil))))
      (pss_one (ps_ret (pe_ifExp (pt_cmpR op_isN (pv 4) pe_non (nomark _)) pe_non (pe_op op_mulW (pv 4) (pe_ix ix_tup (pv 0) pe_int (fun _ _ => rfl))))))) pss_nil)
      (pss_cons (ps_if (pt_cmpR op_in_seq (pv 2) (pe_tup (pa_cons pe_str (pa_cons pe_str pa_nil))) (by rfl)) (pss_one (ps_ret (pe_ifExp (pt_cmpR op_eq (pe_own c_count hr (by omega) (by rfl) (pa_cons (pe_ix ix_tup (pv 0) pe_int (fun _ _ => rfl)) (pa_cons (pv 1) pa_nil))) pe_int (nomark _)) pe_int pe_non))) pss_nil)
      (pss_one (ps_ret pe_int))))))), ?_⟩
  have q0 := q H (Same.refl H)
  have at_ := hv.at
  cases at_ with
  | emp e s =>
    cases e
    refine ⟨_, rfl, _, _, _, _, rfl, rfl, s, rfl, ?_⟩
    refine ⟨_, rfl, rfl, eq_no (by decide +kernel) ?_⟩
    refine ⟨_, rfl, rfl, eq_no (by decide +kernel) ?_⟩
    refine ⟨_, rfl, rfl, eq_no (by decide +kernel) ?_⟩
    refine ⟨_, rfl, (by show 2 ≤ sizeLine; decide), fun p hp => ?_⟩
    refine ⟨p, _, rfl, .inr (SqT.of upd_same), rfl, rfl, in_no ["right", "left"] (by decide +kernel) ?_⟩
    have e : W.cnt L .emp = some 0 := by unfold W.cnt; rfl
    rw [e] at q
    exact q _ (same_new hp)
  | nam e s =>
    unfold W.Ok at ho
    exact ho.elim
  | @ltr a c e s =>
    cases e
    refine ⟨_, rfl, _, _, _, _, rfl, rfl, s, rfl, ?_⟩
    refine ⟨_, rfl, rfl, eq_yes rfl ?_⟩
    refine ⟨_, rfl, _, _, _, _, rfl, rfl, s, rfl, _, rfl, u, _, rfl, .inr hu, rfl, flat_strs L, ?_⟩
    have e : W.cnt L (.ltr c) = some (if c ∈ L then 1 else 0) := by unfold W.cnt; rfl
    rw [e] at q0
    by_cases hc : c ∈ L
    · refine in_yes L hc ?_
      rw [if_pos hc] at q0
      exact q0
    · refine in_no L hc ?_
      rw [if_neg hc] at q0
      exact q0
  | @join a b xs ws e s s2 hw =>
    cases e
    unfold W.Ok at ho
    unfold W.dep at hd
    have hl := hw.length
    refine ⟨_, rfl, _, _, _, _, rfl, rfl, s, rfl, ?_⟩
    refine ⟨_, rfl, rfl, eq_no (by decide +kernel) ?_⟩
    refine ⟨_, rfl, rfl, eq_yes rfl ?_⟩
    refine ⟨_, rfl, _, _, _, _, rfl, rfl, s, rfl, b, rfl, ⟨xs, s2⟩, fun Dd hD => ?_⟩
    refine lct (xs := xs) (fun i H2 => H2 Dd = some (.lst (((ws.take i).map (W.cnt L)).map toV)) ∧ Same H H2) ?_ ?_ ?_ ?_
    · exact ⟨upd_same, same_new hD⟩
    · rintro i H2 _ ⟨_, k2⟩
      exact (tp_same k2).sq s2
    · rintro i x H2 hx ⟨hA, k2⟩
      obtain ⟨t1, e1, h1⟩ := hw.get hx
      have m1 : t1 ∈ ws := List.mem_of_getElem? e1
      have d1 := W.deps_mem m1
      refine ⟨_, rfl, _, rfl, _, t1, u, L, rfl, WV.tp (tp_same k2) _ h1, W.oks_mem m1 ho.2, by omega, by omega, (tp_same k2).sq hu, fun H4 k4 => ?_⟩
      refine ⟨_, k4 _ _ hA, ?_, ?_, ?_⟩
      · rw [List.length_map, List.length_map, List.length_take]
        exact Nat.lt_of_le_of_lt (show _ ≤ 1000 by omega) (by decide)
      · rw [upd_same, List.take_add_one, e1]
        show _ = some (HO.lst (((ws.take i ++ [t1]).map (W.cnt L)).map toV))
        rw [List.map_append, List.map_append]
        rfl
      · intro b' o hb
        rw [upd_ne (ne_of_none hb hD)]
        exact k4 _ _ (k2 _ _ hb)
    · rintro H2 ⟨hA, k2⟩
      rw [hl, List.take_length] at hA
      refine ⟨_, rfl, Dd, _, rfl, .inl (SqL.of hA), rfl, flat_toV _, ?_⟩
      rw [if_neg (by decide), inV_non]
      have e : W.cnt L (.join ws) = W.cnts L ws := by unfold W.cnt; rfl
      rw [e] at q
      by_cases hm : none ∈ ws.map (W.cnt L)
      · rw [decide_eq_true hm]
        refine ⟨true, rfl, ?_⟩
        have q1 := q H2 k2
        rw [W.cnts_none hm] at q1
        exact q1
      · rw [decide_eq_false hm]
        refine ⟨false, rfl, ?_⟩
        have q1 := q H2 k2
        rw [W.cnts_some hm] at q1
        rw [toV_ints hm] at hA
        refine ⟨_, rfl, Dd, _, rfl, SqL.of hA, ?_⟩
        rw [List.map_map]
        exact q1
  | @times a x t n' e s hx =>
    cases e
    unfold W.Ok at ho
    unfold W.dep at hd
    refine ⟨_, rfl, _, _, _, _, rfl, rfl, s, rfl, ?_⟩
    refine ⟨_, rfl, rfl, eq_no (by decide +kernel) ?_⟩
    refine ⟨_, rfl, rfl, eq_no (by decide +kernel) ?_⟩
    refine ⟨_, rfl, rfl, eq_yes rfl ?_⟩
    refine ⟨_, rfl, _, _, _, _, rfl, rfl, s, rfl, _, _, rfl, rfl, _, rfl, ?_⟩
    have e : W.cnt L (.times t n') = if 0 < n' then (t.cnt L).map (· * n') else some 0 := cnt_times
    refine ite2 (fun hc => ?_) (fun hc => ?_)
    · have hc' : n' > 0 := of_decide_eq_true hc
      rw [e, if_pos hc'] at q
      refine ⟨_, rfl, _, _, _, _, rfl, rfl, s, rfl, _, rfl, _, t, u, L, rfl, hx, ho.2.2, by omega, by omega, hu, fun H2 k2 => ?_⟩
      refine ⟨_, rfl, rfl, ?_⟩
      cases g : t.cnt L with
      | none =>
        rw [g] at q
        exact ⟨true, rfl, q H2 k2⟩
      | some m =>
        rw [g] at q
        refine ⟨false, rfl, ?_⟩
        have hb := W.cnt_abs ho.2.2 g
        have hn' : n'.natAbs < 2 ^ 100 := by
          have : (n'.natAbs : Int) ≤ 1000000000000000000000000000000 := by omega
          have : n'.natAbs ≤ 1000000000000000000000000000000 := by omega
          exact Nat.lt_of_le_of_lt this (by decide)
        refine ⟨_, rfl, _, rfl, _, _, _, _, rfl, rfl, (tp_same k2).sq s, rfl, _, _, rfl, rfl, wide_mul hb hn' (by have := t.dep_pos; omega) (by decide) (by omega), ?_⟩
        exact q H2 k2
    · have hc' : ¬ n' > 0 := of_decide_eq_false (Bool.eq_false_iff.mpr hc)
      rw [e, if_neg hc'] at q
      refine ⟨_, rfl, (by show 2 ≤ sizeLine; decide), fun p hp => ?_⟩
      refine ⟨p, _, rfl, .inr (SqT.of upd_same), rfl, rfl, in_no ["right", "left"] (by decide +kernel) ?_⟩
      exact q _ (same_new hp)
  | @right a x t e s hx =>
    cases e
    unfold W.Ok at ho
    unfold W.dep at hd
    refine ⟨_, rfl, _, _, _, _, rfl, rfl, s, rfl, ?_⟩
    refine ⟨_, rfl, rfl, eq_no (by decide +kernel) ?_⟩
    refine ⟨_, rfl, rfl, eq_no (by decide +kernel) ?_⟩
    refine ⟨_, rfl, rfl, eq_no (by decide +kernel) ?_⟩
    refine ⟨_, rfl, (by show 2 ≤ sizeLine; decide), fun p hp => ?_⟩
    refine ⟨p, _, rfl, .inr (SqT.of upd_same), rfl, rfl, in_yes ["right", "left"] (by decide +kernel) ?_⟩
    have k1 : Same H (upd H p (.tup [.str "right", .str "left"])) := same_new hp
    have e : W.cnt L (.right t) = if t.cnt L = some 0 then some 0 else none := cnt_right
    rw [e] at q
    refine ⟨_, rfl, _, _, _, _, rfl, rfl, (tp_same k1).sq s, rfl, _, rfl, _, t, u, L, rfl, WV.tp (tp_same k1) _ hx, ho, by omega, by omega, (tp_same k1).sq hu, fun H2 k2 => ?_⟩
    cases g : t.cnt L with
    | none =>
      rw [g, if_neg (by intro h; cases h)] at q
      exact ⟨rfl, false, rfl, q H2 (k1.trans k2)⟩
    | some m =>
      rw [g] at q
      refine ⟨rfl, _, rfl, ite2 (fun hc => ?_) (fun hc => ?_)⟩
      · have hc' : V.int m = V.int 0 := of_decide_eq_true hc
        cases hc'
        rw [if_pos rfl] at q
        exact q H2 (k1.trans k2)
      · have hc' : m ≠ 0 := fun e => hc (by rw [e]; exact decide_eq_true rfl)
        rw [if_neg (by intro h; cases h; exact hc' rfl)] at q
        exact q H2 (k1.trans k2)
  | @left a x t e s hx =>
    cases e
    unfold W.Ok at ho
    unfold W.dep at hd
    refine ⟨_, rfl, _, _, _, _, rfl, rfl, s, rfl, ?_⟩
    refine ⟨_, rfl, rfl, eq_no (by decide +kernel) ?_⟩
    refine ⟨_, rfl, rfl, eq_no (by decide +kernel) ?_⟩
    refine ⟨_, rfl, rfl, eq_no (by decide +kernel) ?_⟩
    refine ⟨_, rfl, (by show 2 ≤ sizeLine; decide), fun p hp => ?_⟩
    refine ⟨p, _, rfl, .inr (SqT.of upd_same), rfl, rfl, in_yes ["right", "left"] (by decide +kernel) ?_⟩
    have k1 : Same H (upd H p (.tup [.str "right", .str "left"])) := same_new hp
    have e : W.cnt L (.left t) = if t.cnt L = some 0 then some 0 else none := cnt_left
    rw [e] at q
    refine ⟨_, rfl, _, _, _, _, rfl, rfl, (tp_same k1).sq s, rfl, _, rfl, _, t, u, L, rfl, WV.tp (tp_same k1) _ hx, ho, by omega, by omega, (tp_same k1).sq hu, fun H2 k2 => ?_⟩
    cases g : t.cnt L with
    | none =>
      rw [g, if_neg (by intro h; cases h)] at q
      exact ⟨rfl, false, rfl, q H2 (k1.trans k2)⟩
    | some m =>
      rw [g] at q
      refine ⟨rfl, _, rfl, ite2 (fun hc => ?_) (fun hc => ?_)⟩
      · have hc' : V.int m = V.int 0 := of_decide_eq_true hc
        cases hc'
        rw [if_pos rfl] at q
        exact q H2 (k1.trans k2)
      · have hc' : m ≠ 0 := fun e => hc (by rw [e]; exact decide_eq_true rfl)
        rw [if_neg (by intro h; cases h; exact hc' rfl)] at q
        exact q H2 (k1.trans k2)
theorem ok_cnt (D : Df K mg "_count" s__count ["word", "letters"]) (bi : Bi mg) : ∀ n : Nat, Cal P w K mg base n "_count" ["word", "letters"] (spCnt K n)
  | 0 => D.no fun vs H Q E h => by
    obtain ⟨v, t, u, L, _, _, _, h, _⟩ := h
    have := t.dep_pos
    omega
  | n + 1 => ok_cnt1 D bi (ok_cnt D bi n)
def spLen (K : PySem.W.Frag) : Sp := fun vs H Q _ => ∃ v t, vs = [v] ∧ WV K H v t ∧ t.Ok abcABC ∧ t.dep ≤ 12 ∧ ∀ H', Same H H' → Q (toV (t.cnt abcABC)) H'
theorem sc_length : FnScope ["word"] ["word"] (defScope s_length) := ⟨rfl, rfl, rfl, by decide +kernel, rfl, by decide +kernel, by decide +kernel⟩
theorem ok_len {tk : Tok} {am : Addr} (D : Df K mg "length" s_length ["word"]) (c_count : Cal P w K mg base 12 "_count" ["word", "letters"] (spCnt K 12)) (mLETTERS : mg "LETTERS" = some (.str "abc" tk)) (mMARKED : mg "MARKED" = some (.ref am)) (hM : ∀ H, SqT K H am [.str "A", .str "B", .str "C"]) :
    Cal P w K mg base 13 "length" ["word"] (spLen K) := by
  refine D.ok sc_length (fun vs H Q E h => ?_) (fun f cdv A outer s H vs Q E hr h => ?_)
  · obtain ⟨v, t, rfl, _⟩ := h
    rfl
  obtain ⟨v, t, rfl, hv, ho, hd, q⟩ := h
  refine ⟨_, (pss_one (ps_ret (pe_own c_count hr (by omega) (by rfl) (pa_cons (pv 0) (pa_cons (pe_tup (pa_starS rfl (pe_glob (v := .str "abc") (by rfl) mLETTERS ⟨_, rfl⟩) (StX.pa_star (pe_glob (v := .ref am) (by rfl) mMARKED rfl) pa_nil))) pa_nil))))), ?_⟩
  refine ⟨_, rfl, "abc", rfl, (by decide +kernel), am, _, rfl, .inl (hM _), (by show 6 ≤ sizeLine; decide), fun p hp => ?_⟩
  have e : (signs "abc" ++ [V.str "A", .str "B", .str "C"]) = abcABC.map V.str := by decide +kernel
  exact ⟨v, t, p, abcABC, rfl, WV.tp (tp_new hp) _ hv, ho, hd, by decide, SqT.of (by rw [← e]; exact upd_same), fun H' k => q H' ((same_new hp).trans k)⟩
/-! ### is_empty -/
def spEmp (K : PySem.W.Frag) : Sp := fun vs H Q _ => ∃ v t, vs = [v] ∧ WV K H v t ∧ t.Ok abcABC ∧ t.dep ≤ 12 ∧ ∀ H', Same H H' → Q (.bl (decide (t.cnt abcABC = some 0))) H'
theorem sc_is_empty : FnScope ["word"] ["word"] (defScope s_is_empty) := ⟨rfl, rfl, rfl, by decide +kernel, rfl, by decide +kernel, by decide +kernel⟩
theorem ok_isemp (D : Df K mg "is_empty" s_is_empty ["word"]) (clength : Cal P w K mg base 13 "length" ["word"] (spLen K)) : Cal P w K mg base 14 "is_empty" ["word"] (spEmp K) := by
  refine D.ok sc_is_empty (fun vs H Q E h => ?_) (fun f cdv A outer s H vs Q E hr h => ?_)
  · obtain ⟨v, t, rfl, _⟩ := h
    rfl
  obtain ⟨v, t, rfl, hv, ho, hd, q⟩ := h
  refine ⟨_, (pss_one (ps_ret (pe_cmpR op_eq (pe_own clength hr (by omega) (by rfl) (pa_cons (pv 0) pa_nil)) pe_int (nomark _)))), ?_⟩
  refine ⟨_, rfl, v, t, rfl, hv, ho, hd, fun H2 k2 => ?_⟩
  have q2 := q H2 k2
  cases e : t.cnt abcABC with
  | none =>
    rw [e, decide_eq_false (by intro h; cases h)] at q2
    exact ⟨rfl, q2⟩
  | some m =>
    rw [e] at q2
    refine ⟨rfl, ?_⟩
    by_cases h : m = 0
    · subst h
      rw [decide_eq_true rfl] at q2
      exact q2
    · rw [decide_eq_false (by intro z; cases z; exact h rfl)] at q2
      show Q (.bl (decide (V.int m = V.int 0))) H2
      rw [decide_eq_false (by intro z; cases z; exact h rfl)]
      exact q2

end
end SW

set_option Elab.async false
set_option linter.all false
set_option maxRecDepth 100000
set_option maxHeartbeats 4000000
namespace SW
open PySem PySem.Spec PyProof.Rows L2
section
variable {P : Program} {w : World} {K : PySem.W.Frag} {mg : Str → Option Value} {base : Heap}
/-- None or an address -/
def Oa (K : PySem.W.Frag) (H : Hp) (x : V) : Option (List Int) → Prop
  | none => x = .non
  | some ns => ∃ a, x = .ref a ∧ SqT K H a (ns.map V.int)
theorem Oa.tp {K : PySem.W.Frag} {H H' : Hp} {x : V} (k : Tp H H') : ∀ {o : Option (List Int)}, Oa K H x o → Oa K H' x o
  | none, h => h
  | some ns, ⟨a, e, s⟩ => ⟨a, e, k.sq s⟩
def spLonger (K : PySem.W.Frag) : Sp := fun vs H Q _ => ∃ i x o, vs = [.int i, x] ∧ Oa K H x o ∧ (∀ f, o = some f → f.length ≤ 100) ∧ ∀ v H', Oa K H' v (o.map (i :: ·)) → Same H H' → Q v H'
theorem sc__longer : FnScope ["number", "address"] ["number", "address"] (defScope s__longer) := ⟨rfl, rfl, rfl, by decide +kernel, rfl, by decide +kernel, by decide +kernel⟩
theorem ok_longer (D : Df K mg "_longer" s__longer ["number", "address"]) : Cal P w K mg base 1 "_longer" ["number", "address"] (spLonger K) := by
  refine D.ok sc__longer (fun vs H Q E h => ?_) (fun f cdv A outer s H vs Q E hr h => ?_)
  · obtain ⟨i, x, o, rfl, _⟩ := h
    rfl
  obtain ⟨i, x, o, rfl, hx, hl, q⟩ := h
  refine ⟨_, (pss_one (ps_ret (pe_ifExp (pt_cmpR op_isN (pv 1) pe_non (nomark _)) pe_non (pe_tup (pa_cons (pv 0) (StX.pa_star (pv 1) pa_nil)))))), ?_⟩
  cases o with
  | none =>
    cases hx
    exact ⟨_, rfl, rfl, true, congrArg V.bl (decide_eq_true rfl), q _ H rfl (Same.refl H)⟩
  | some ns =>
    obtain ⟨a, rfl, s⟩ := hx
    have hl' := hl ns rfl
    refine ⟨_, rfl, rfl, false, congrArg V.bl (decide_eq_false (fun h => nomatch h)), ?_⟩
    refine ⟨_, rfl, _, rfl, a, _, rfl, .inl s, ?_, fun p hp => ?_⟩
    · have h2 : (V.int i :: (List.map V.int ns ++ [])).length ≤ 1000 := by
        rw [List.append_nil, List.length_cons, List.length_map]
        omega
      exact Nat.le_trans h2 (show 1000 ≤ sizeLine by decide)
    · exact q _ _ ⟨p, rfl, SqT.of (by rw [List.append_nil]; exact upd_same)⟩ (same_new hp)
def spFirst (K : PySem.W.Frag) (n : Nat) : Sp := fun vs H Q _ => ∃ v t, vs = [v] ∧ WV K H v t ∧ t.Ok abc ∧ t.dep ≤ n ∧ n ≤ 12 ∧ ∀ x H', Oa K H' x t.fst → Same H H' → Q x H'
theorem sc_first_place : FnScope ["word", "kind", "at", "part"] ["word"] (defScope s_first_place) := ⟨rfl, rfl, rfl, by decide +kernel, rfl, by decide +kernel, by decide +kernel⟩
theorem ok_first1 {n : Nat} (D : Df K mg "first_place" s_first_place ["word"]) (bi : Bi mg) (hen : mg "enumerate" = none) (cis_empty : Cal P w K mg base 14 "is_empty" ["word"] (spEmp K)) (c_longer : Cal P w K mg base 1 "_longer" ["number", "address"] (spLonger K)) (cfirst_place : Cal P w K mg base (n + 15) "first_place" ["word"] (spFirst K n)) : Cal P w K mg base (n + 15 + 1) "first_place" ["word"] (spFirst K (n + 1)) := by
  refine D.ok sc_first_place (fun vs H Q E h => ?_) (fun f cdv A outer s H vs Q E hr h => ?_)
  · obtain ⟨v, t, rfl, _⟩ := h
    rfl
  obtain ⟨v, t, rfl, hv, ho, hd, hn, q⟩ := h
  refine ⟨_, (pss_cons (ps_set (i := 1) sc_first_place.nd rfl (.inl rfl) (pe_ix ix_tup (pv 0) pe_int (fun _ _ => rfl)))
      (pss_cons (ps_if (pt_cmpR op_eq (pv 1) pe_str (nomark _)) (pss_one (ps_ret (pe_tup pa_nil))) pss_nil)
      (C8.pss_cut (ps_if (pt_cmpR op_eq (pv 1) pe_str (nomark _)) (pss_one (ps_for PassesOwn.never rfl (pi_enumT (by rfl) hen (pa_cons (pe_ix ix_tup (pv 0) pe_int (fun _ _ => rfl)) pa_nil)) (pg_tup rfl (pgs_cons (pg_name (i := 2) sc_first_place.nd rfl (.inl rfl)) (pgs_cons (pg_name (i := 3) sc_first_place.nd rfl (.inl rfl)) pgs_nil))) (pss_one (ps_if (pt_not (pt_val (pe_own cis_empty hr (by omega) (by rfl) (pa_cons (pv 3) pa_nil)))) (pss_one (ps_ret (pe_own c_longer hr (by omega) (by rfl) (pa_cons (pv 2) (pa_cons (pe_own cfirst_place hr (by omega) (by rfl) (pa_cons (pv 3) pa_nil)) pa_nil))))) pss_nil)))) pss_nil)
      (pss_cons (ps_if (PW.pt (pw_or (pt_cmpR op_eq (pv 1) pe_str (nomark _)) (pw_or1 (PW.pt (pw_and (pt_cmpR op_eq (pv 1) pe_str (nomark _)) (pw_and1 (pt_cmpR op_gt (pe_ix ix_tup (pv 0) pe_int (fun _ _ => rfl)) pe_int (nomark _)))))))) (pss_one (ps_ret (pe_own c_longer hr (by omega) (by rfl) (pa_cons pe_int (pa_cons (pe_own cfirst_place hr (by omega) (by rfl) (pa_cons (pe_ix ix_tup (pv 0) pe_int (fun _ _ => rfl)) pa_nil)) pa_nil))))) pss_nil)
      (pss_one (ps_ret pe_non)))))), ?_⟩
  have hlen : ∀ {u : W}, u.Ok abc → u.dep ≤ 12 → ∀ f, u.fst = some f → f.length ≤ 100 := fun ou du f hf => by
    obtain ⟨c, hg⟩ := fst_vd f hf
    have := (go_ok _ ou hg).2
    omega
  have at_ := hv.at
  cases at_ with
  | nam e s => unfold W.Ok at ho; exact ho.elim
  | ltr e s =>
    cases e
    exact ⟨_, rfl, _, _, _, _, rfl, rfl, s, rfl, _, rfl, rfl, eq_yes rfl ⟨Nat.zero_le _, fun p hp => q _ _ (by rw [W.fst]; exact ⟨p, rfl, SqT.of upd_same⟩) (same_new hp)⟩⟩
  | @emp a e s =>
    cases e
    refine ⟨_, rfl, _, _, _, _, rfl, rfl, s, rfl, _, rfl, rfl, eq_no (by decide +kernel) ?_⟩
    refine ⟨fun σ' H' => σ' = [some (.ref a), some (.str "empty"), none, none] ∧ H' = H, ⟨_, rfl, rfl, eq_no (by decide +kernel) ⟨rfl, rfl⟩⟩, ?_⟩
    rintro σ' H' ⟨rfl, rfl⟩
    refine ⟨_, rfl, rfl, eq_no (by decide +kernel) ⟨_, rfl, rfl, eq_no (by decide +kernel) ?_⟩⟩
    exact q _ H' (by rw [W.fst] <;> first | rfl | (intros; contradiction)) (Same.refl H')
  | @left a x u e s hx =>
    cases e
    refine ⟨_, rfl, _, _, _, _, rfl, rfl, s, rfl, _, rfl, rfl, eq_no (by decide +kernel) ?_⟩
    refine ⟨fun σ' H' => σ' = [some (.ref a), some (.str "left"), none, none] ∧ H' = H, ⟨_, rfl, rfl, eq_no (by decide +kernel) ⟨rfl, rfl⟩⟩, ?_⟩
    rintro σ' H' ⟨rfl, rfl⟩
    refine ⟨_, rfl, rfl, eq_no (by decide +kernel) ⟨_, rfl, rfl, eq_no (by decide +kernel) ?_⟩⟩
    exact q _ H' (by rw [W.fst] <;> first | rfl | (intros; contradiction)) (Same.refl H')
  | @right a x u e s hx =>
    cases e
    unfold W.Ok at ho
    rw [W.dep] at hd
    refine ⟨_, rfl, _, _, _, _, rfl, rfl, s, rfl, _, rfl, rfl, eq_no (by decide +kernel) ?_⟩
    refine ⟨fun σ' H' => σ' = [some (.ref a), some (.str "right"), none, none] ∧ H' = H, ⟨_, rfl, rfl, eq_no (by decide +kernel) ⟨rfl, rfl⟩⟩, ?_⟩
    rintro σ' H' ⟨rfl, rfl⟩
    refine ⟨_, rfl, rfl, eq_yes rfl ?_⟩
    refine ⟨_, rfl, _, _, _, _, rfl, rfl, s, rfl, x, u, rfl, hx, ho, by omega, by omega, fun y H2 hy k2 => ?_⟩
    exact ⟨0, y, u.fst, rfl, hy, hlen ho (by omega), fun z H3 hz k3 => q z H3 (by rw [W.fst]; exact hz) (k2.trans k3)⟩
  | @times a x u n' e s hx =>
    cases e
    unfold W.Ok at ho
    rw [W.dep] at hd
    refine ⟨_, rfl, _, _, _, _, rfl, rfl, s, rfl, _, rfl, rfl, eq_no (by decide +kernel) ?_⟩
    refine ⟨fun σ' H' => σ' = [some (.ref a), some (.str "times"), none, none] ∧ H' = H, ⟨_, rfl, rfl, eq_no (by decide +kernel) ⟨rfl, rfl⟩⟩, ?_⟩
    rintro σ' H' ⟨rfl, rfl⟩
    refine ⟨_, rfl, rfl, eq_no (by decide +kernel) ⟨_, rfl, rfl, eq_yes rfl ?_⟩⟩
    refine ⟨_, rfl, _, _, _, _, rfl, rfl, s, rfl, _, _, rfl, rfl, _, rfl, ite2 (fun hc => ?_) (fun hc => ?_)⟩
    · have hc' : 0 < n' := of_decide_eq_true hc
      refine ⟨_, rfl, _, _, _, _, rfl, rfl, s, rfl, x, u, rfl, hx, ho.2.2, by omega, by omega, fun y H2 hy k2 => ?_⟩
      exact ⟨0, y, u.fst, rfl, hy, hlen ho.2.2 (by omega), fun z H3 hz k3 => q z H3 (by rw [W.fst, if_pos hc']; exact hz) (k2.trans k3)⟩
    · have hc' : ¬ 0 < n' := fun h => hc (decide_eq_true h)
      exact q _ H' (by rw [W.fst, if_neg hc']; rfl) (Same.refl H')
  | @join a b xs ws e s s2 hw =>
    cases e
    unfold W.Ok at ho
    rw [W.dep] at hd
    have hlw := hw.length
    refine ⟨_, rfl, _, _, _, _, rfl, rfl, s, rfl, _, rfl, rfl, eq_no (by decide +kernel) ?_⟩
    refine ⟨fun σ' H' => ∃ y2 y3, σ' = [some (.ref a), some (.str "join"), y2, y3] ∧ Same H H' ∧ W.fsts ws 0 = none, ?_, ?_⟩
    · refine ⟨_, rfl, rfl, eq_yes rfl ⟨_, rfl, _, _, _, _, rfl, rfl, s, rfl, b, xs, rfl, s2, for_enumT (ys := xs) (fun i σ' H' => ∃ y2 y3, σ' = [some (.ref a), some (.str "join"), y2, y3] ∧ Same H H' ∧ W.fsts ws 0 = W.fsts (ws.drop i) i) ?_ ?_ ?_ ?_⟩⟩
      · exact ⟨_, _, rfl, Same.refl H, rfl⟩
      · rintro i σ' H' ⟨y2, y3, rfl, S1, _⟩
        exact (tp_same S1).sq s2
      · rintro i y T σ' H' hy ⟨y2, y3, rfl, S1, hin⟩ hT
        have S2 := S1.trans (same_new (o := .tup [.int (i : Nat), y]) hT)
        obtain ⟨u, eu, hu⟩ := hw.get hy
        have hi : i < ws.length := (List.getElem?_eq_some_iff.mp eu).1
        have mu := List.mem_of_getElem? eu
        have du := W.deps_mem mu
        have ou := W.oks_mem mu ho.2
        have dr : ws.drop i = u :: ws.drop (i + 1) := by rw [List.drop_eq_getElem_cons hi, (List.getElem?_eq_some_iff.mp eu).2]
        rw [dr, W.fsts] at hin
        have hu2 := WV.tp (tp_same S2) _ hu
        refine ⟨T, [.int (i : Nat), y], rfl, SqT.of upd_same, rfl, _, _, rfl, _, _, rfl, rfl, ?_⟩
        refine ⟨_, rfl, y, u, rfl, hu2, W.Ok.mono abc_sub _ ou, by omega, fun H3 k3 => ?_⟩
        by_cases hc : u.cnt abcABC = some 0
        · rw [if_pos hc] at hin
          exact ⟨true, congrArg V.bl (decide_eq_true hc), _, _, rfl, S2.trans k3, hin⟩
        · rw [if_neg hc] at hin
          refine ⟨false, congrArg V.bl (decide_eq_false hc), ?_⟩
          refine ⟨_, rfl, _, rfl, y, u, rfl, WV.tp (tp_same k3) _ hu2, ou, by omega, by omega, fun x H4 hx k4 => ?_⟩
          exact ⟨_, x, u.fst, rfl, hx, hlen ou (by omega), fun z H5 hz k5 => q z H5 (by rw [W.fst, hin]; exact hz) (S2.trans (k3.trans (k4.trans k5)))⟩
      · rintro σ' H' ⟨y2, y3, rfl, S1, hin⟩
        refine ⟨_, _, rfl, S1, ?_⟩
        rw [hin, hlw, List.drop_length, W.fsts]
    rintro σ' H' ⟨y2, y3, rfl, S1, hn0⟩
    refine ⟨_, rfl, rfl, eq_no (by decide +kernel) ⟨_, rfl, rfl, eq_no (by decide +kernel) ?_⟩⟩
    exact q _ H' (by rw [W.fst, hn0]; rfl) S1
theorem ok_first (D : Df K mg "first_place" s_first_place ["word"]) (bi : Bi mg) (hen : mg "enumerate" = none) (cis_empty : Cal P w K mg base 14 "is_empty" ["word"] (spEmp K)) (c_longer : Cal P w K mg base 1 "_longer" ["number", "address"] (spLonger K)) : ∀ n : Nat, Cal P w K mg base (n + 15) "first_place" ["word"] (spFirst K n)
  | 0 => D.no fun vs H Q E h => by
    obtain ⟨v, t, _, _, _, h, _⟩ := h
    have := t.dep_pos
    omega
  | n + 1 => ok_first1 D bi hen cis_empty c_longer (ok_first D bi hen cis_empty c_longer n)
theorem lsts_none : ∀ (ws : List W) (k : Nat), (∀ w ∈ ws, w.cnt abcABC = some 0) → W.lsts ws k = none
  | [], k, _ => by rw [W.lsts]
  | w :: r, k, h => by
    rw [W.lsts, if_pos (W.cnts_zero_of fun x hx => h x (List.mem_cons_of_mem _ hx)), if_pos (h w (List.mem_cons_self ..))]
theorem lsts_at : ∀ (ws : List W) (k j : Nat) {w : W}, W.Oks abc ws → ws[j]? = some w → w.cnt abcABC ≠ some 0 → (∀ i, j < i → ∀ x, ws[i]? = some x → x.cnt abcABC = some 0) → W.lsts ws k = w.lst.map (((k + j : Nat) : Int) :: ·)
  | [], k, j, w, _, e, _, _ => by cases e
  | u :: r, k, 0, w, o, e, hc, h => by
    cases e
    have hr : W.cnts abcABC r = some 0 := W.cnts_zero_of fun x hx => by
      obtain ⟨i, hi⟩ := List.mem_iff_getElem?.mp hx
      exact h (i + 1) (by omega) x hi
    rw [W.lsts, if_pos hr, if_neg hc]
    rfl
  | u :: r, k, j + 1, w, o, e, hc, h => by
    unfold W.Oks at o
    have hr : ¬ W.cnts abcABC r = some 0 := fun hz => hc (W.cnts_zero o.2 hz (List.mem_of_getElem? (show r[j]? = some w from e)))
    rw [W.lsts, if_neg hr, lsts_at r (k + 1) j o.2 e hc (fun i hi x hx => h (i + 1) (by omega) x hx), show k + 1 + j = k + (j + 1) by omega]
theorem for_revL {K : PySem.W.Frag} {a : Addr} {xs : List V} {n : Nat} {g : TG} {tb : TS} {D : Ends} {σ : L2.St} {H : Hp} (hn : n = xs.length) (Pv : Nat → L2.St → Hp → Prop) (h0 : Pv 0 σ H) (hq : ∀ i σ H, Pv i σ H → SqL K H a xs)
    (hs : ∀ (i : Nat) (y : V) (σ : L2.St) (H : Hp), i < n → xs[n - 1 - i]? = some y → Pv i σ H → g y σ H fun σ2 H2 => tb { D with nx := Pv (i + 1), ct := Pv (i + 1), bk := D.nx } σ2 H2) (hd : ∀ σ H, Pv n σ H → D.nx σ H) :
    ∃ W : Nat → Nat → L2.St → Hp → Prop, (∃ m, W 0 m σ H) ∧ ∀ i m σ H, W i m σ H →
      ((Itv K a n).stop i H ∧ D.nx σ H) ∨ ((Itv K a n).go i H ∧ ∃ N : L2.St → Hp → Prop, (∀ σ' H', N σ' H' → ∃ m', m' < m ∧ W (i + 1) m' σ' H') ∧ ∀ v H', (Itv K a n).yld i H v H' → g v σ H' fun σ2 H2 => tb { D with nx := N, ct := N, bk := D.nx } σ2 H2) := by
  refine ⟨fun i m σ H => m = n - i ∧ i ≤ n ∧ Pv i σ H, ⟨n, rfl, Nat.zero_le _, h0⟩, ?_⟩
  rintro i m σ H ⟨rfl, hi, p⟩
  have qy := hq i σ H p
  by_cases hlt : i < n
  · have h2 : xs[n - 1 - i]? = some xs[n - 1 - i] := List.getElem?_eq_getElem (by omega)
    refine .inr ⟨⟨hlt, xs, _, qy, h2⟩, Pv (i + 1), fun σ' H' p' => ⟨n - (i + 1), by omega, rfl, hlt, p'⟩, fun v H' y => ?_⟩
    obtain ⟨rfl, f2⟩ := y
    exact hs i v σ H' hlt (f2 xs qy) p
  · have e : i = n := by omega
    subst e
    exact .inl ⟨Nat.le_refl _, hd σ H p⟩
def spLastP (K : PySem.W.Frag) (n : Nat) : Sp := fun vs H Q _ => ∃ v t, vs = [v] ∧ WV K H v t ∧ t.Ok abc ∧ t.dep ≤ n ∧ n ≤ 12 ∧ ∀ x H', Oa K H' x t.lst → Same H H' → Q x H'
theorem sc_last_place : FnScope ["word", "kind", "at", "part"] ["word"] (defScope s_last_place) := ⟨rfl, rfl, rfl, by decide +kernel, rfl, by decide +kernel, by decide +kernel⟩
theorem ok_last1 {n : Nat} (D : Df K mg "last_place" s_last_place ["word"]) (bi : Bi mg) (hen : mg "enumerate" = none) (cis_empty : Cal P w K mg base 14 "is_empty" ["word"] (spEmp K)) (c_longer : Cal P w K mg base 1 "_longer" ["number", "address"] (spLonger K)) (clast_place : Cal P w K mg base (n + 15) "last_place" ["word"] (spLastP K n)) : Cal P w K mg base (n + 15 + 1) "last_place" ["word"] (spLastP K (n + 1)) := by
  refine D.ok sc_last_place (fun vs H Q E h => ?_) (fun f cdv A outer s H vs Q E hr h => ?_)
  · obtain ⟨v, t, rfl, _⟩ := h
    rfl
  obtain ⟨v, t, rfl, hv, ho, hd, hn, q⟩ := h
  refine ⟨_, (pss_cons (ps_set (i := 1) sc_last_place.nd rfl (.inl rfl) (pe_ix ix_tup (pv 0) pe_int (fun _ _ => rfl)))
      (pss_cons (ps_if (pt_cmpR op_eq (pv 1) pe_str (nomark _)) (pss_one (ps_ret (pe_tup pa_nil))) pss_nil)
      (C8.pss_cut (ps_if (pt_cmpR op_eq (pv 1) pe_str (nomark _)) (pss_one (ps_for PassesOwn.never rfl (RT.pi_revA (by rfl) bi.reversed (pe_listEnT rfl (pa_cons (pe_ix ix_tup (pv 0) pe_int (fun _ _ => rfl)) pa_nil) (by rfl) bi.list (by decide +kernel) (by rfl) hen)) (pg_tup rfl (pgs_cons (pg_name (i := 2) sc_last_place.nd rfl (.inl rfl)) (pgs_cons (pg_name (i := 3) sc_last_place.nd rfl (.inl rfl)) pgs_nil))) (pss_one (ps_if (pt_not (pt_val (pe_own cis_empty hr (by omega) (by rfl) (pa_cons (pv 3) pa_nil)))) (pss_one (ps_ret (pe_own c_longer hr (by omega) (by rfl) (pa_cons (pv 2) (pa_cons (pe_own clast_place hr (by omega) (by rfl) (pa_cons (pv 3) pa_nil)) pa_nil))))) pss_nil)))) pss_nil)
      (pss_cons (ps_if (pt_cmpR op_eq (pv 1) pe_str (nomark _)) (pss_one (ps_ret (pe_own c_longer hr (by omega) (by rfl) (pa_cons pe_int (pa_cons (pe_own clast_place hr (by omega) (by rfl) (pa_cons (pe_ix ix_tup (pv 0) pe_int (fun _ _ => rfl)) pa_nil)) pa_nil))))) pss_nil)
      (pss_cons (ps_if (PW.pt (pw_and (pt_cmpR op_eq (pv 1) pe_str (nomark _)) (pw_and1 (pt_cmpR op_gt (pe_ix ix_tup (pv 0) pe_int (fun _ _ => rfl)) pe_int (nomark _))))) (pss_one (ps_ret (pe_own c_longer hr (by omega) (by rfl) (pa_cons (pe_op op_sub (pe_ix ix_tup (pv 0) pe_int (fun _ _ => rfl)) pe_int) (pa_cons (pe_own clast_place hr (by omega) (by rfl) (pa_cons (pe_ix ix_tup (pv 0) pe_int (fun _ _ => rfl)) pa_nil)) pa_nil))))) pss_nil)
      (pss_one (ps_ret pe_non))))))), ?_⟩
  have hlen : ∀ {u : W}, u.Ok abc → u.dep ≤ 12 → ∀ f, u.lst = some f → f.length ≤ 100 := fun ou du f hf => by
    obtain ⟨c, hg⟩ := lst_vd f ou hf
    have := (go_ok _ ou hg).2
    omega
  have at_ := hv.at
  cases at_ with
  | nam e s => unfold W.Ok at ho; exact ho.elim
  | ltr e s =>
    cases e
    exact ⟨_, rfl, _, _, _, _, rfl, rfl, s, rfl, _, rfl, rfl, eq_yes rfl ⟨Nat.zero_le _, fun p hp => q _ _ (by rw [W.lst]; exact ⟨p, rfl, SqT.of upd_same⟩) (same_new hp)⟩⟩
  | @emp a e s =>
    cases e
    refine ⟨_, rfl, _, _, _, _, rfl, rfl, s, rfl, _, rfl, rfl, eq_no (by decide +kernel) ?_⟩
    refine ⟨fun σ' H' => σ' = [some (.ref a), some (.str "empty"), none, none] ∧ H' = H, ⟨_, rfl, rfl, eq_no (by decide +kernel) ⟨rfl, rfl⟩⟩, ?_⟩
    rintro σ' H' ⟨rfl, rfl⟩
    refine ⟨_, rfl, rfl, eq_no (by decide +kernel) ⟨_, rfl, rfl, eq_no (by decide +kernel) ?_⟩⟩
    exact q _ H' (by rw [W.lst] <;> first | rfl | (intros; contradiction)) (Same.refl H')
  | @right a x u e s hx =>
    cases e
    refine ⟨_, rfl, _, _, _, _, rfl, rfl, s, rfl, _, rfl, rfl, eq_no (by decide +kernel) ?_⟩
    refine ⟨fun σ' H' => σ' = [some (.ref a), some (.str "right"), none, none] ∧ H' = H, ⟨_, rfl, rfl, eq_no (by decide +kernel) ⟨rfl, rfl⟩⟩, ?_⟩
    rintro σ' H' ⟨rfl, rfl⟩
    refine ⟨_, rfl, rfl, eq_no (by decide +kernel) ⟨_, rfl, rfl, eq_no (by decide +kernel) ?_⟩⟩
    exact q _ H' (by rw [W.lst] <;> first | rfl | (intros; contradiction)) (Same.refl H')
  | @left a x u e s hx =>
    cases e
    unfold W.Ok at ho
    rw [W.dep] at hd
    refine ⟨_, rfl, _, _, _, _, rfl, rfl, s, rfl, _, rfl, rfl, eq_no (by decide +kernel) ?_⟩
    refine ⟨fun σ' H' => σ' = [some (.ref a), some (.str "left"), none, none] ∧ H' = H, ⟨_, rfl, rfl, eq_no (by decide +kernel) ⟨rfl, rfl⟩⟩, ?_⟩
    rintro σ' H' ⟨rfl, rfl⟩
    refine ⟨_, rfl, rfl, eq_yes rfl ?_⟩
    refine ⟨_, rfl, _, _, _, _, rfl, rfl, s, rfl, x, u, rfl, hx, ho, by omega, by omega, fun y H2 hy k2 => ?_⟩
    exact ⟨0, y, u.lst, rfl, hy, hlen ho (by omega), fun z H3 hz k3 => q z H3 (by rw [W.lst]; exact hz) (k2.trans k3)⟩
  | @times a x u n' e s hx =>
    cases e
    unfold W.Ok at ho
    rw [W.dep] at hd
    refine ⟨_, rfl, _, _, _, _, rfl, rfl, s, rfl, _, rfl, rfl, eq_no (by decide +kernel) ?_⟩
    refine ⟨fun σ' H' => σ' = [some (.ref a), some (.str "times"), none, none] ∧ H' = H, ⟨_, rfl, rfl, eq_no (by decide +kernel) ⟨rfl, rfl⟩⟩, ?_⟩
    rintro σ' H' ⟨rfl, rfl⟩
    refine ⟨_, rfl, rfl, eq_no (by decide +kernel) ⟨_, rfl, rfl, eq_yes rfl ?_⟩⟩
    refine ⟨_, rfl, _, _, _, _, rfl, rfl, s, rfl, _, _, rfl, rfl, _, rfl, ite2 (fun hc => ?_) (fun hc => ?_)⟩
    · have hc' : 0 < n' := of_decide_eq_true hc
      refine ⟨_, rfl, _, _, _, _, rfl, rfl, s, rfl, _, _, rfl, rfl, ?_⟩
      refine ⟨_, rfl, _, _, _, _, rfl, rfl, s, rfl, x, u, rfl, hx, ho.2.2, by omega, by omega, fun y H2 hy k2 => ?_⟩
      exact ⟨_, y, u.lst, rfl, hy, hlen ho.2.2 (by omega), fun z H3 hz k3 => q z H3 (by rw [W.lst, if_pos hc']; exact hz) (k2.trans k3)⟩
    · have hc' : ¬ 0 < n' := fun h => hc (decide_eq_true h)
      exact q _ H' (by rw [W.lst, if_neg hc']; rfl) (Same.refl H')
  | @join a b xs ws e s s2 hw =>
    cases e
    unfold W.Ok at ho
    rw [W.dep] at hd
    have hlw := hw.length
    refine ⟨_, rfl, _, _, _, _, rfl, rfl, s, rfl, _, rfl, rfl, eq_no (by decide +kernel) ?_⟩
    refine ⟨fun σ' H' => ∃ y2 y3, σ' = [some (.ref a), some (.str "join"), y2, y3] ∧ Same H H' ∧ W.lsts ws 0 = none, ?_, ?_⟩
    · refine ⟨_, rfl, rfl, eq_yes rfl ⟨_, rfl, _, _, _, _, rfl, rfl, s, rfl, b, xs, rfl, s2, Nat.le_trans (show xs.length ≤ 1000 by omega) (by decide), fun H1 pl ts S1 _ hpl hts => ?_⟩⟩
      have hpn : (ts.map V.ref).length = xs.length := by rw [List.length_map, Paired.length hts, enP_len]
      have S1' : Same H H1 := S1
      refine ⟨pl, _, rfl, .inl ⟨SqL.of hpl, for_revL (xs := ts.map V.ref) rfl (fun i σ' H' => ∃ y2 y3, σ' = [some (.ref a), some (.str "join"), y2, y3] ∧ Same H1 H' ∧ ∀ j, xs.length - i ≤ j → ∀ w, ws[j]? = some w → w.cnt abcABC = some 0) ?_ ?_ ?_ ?_⟩⟩
      · refine ⟨_, _, rfl, Same.refl H1, fun j hj w hw' => ?_⟩
        have := (List.getElem?_eq_some_iff.mp hw').1
        omega
      · rintro i σ' H' ⟨y2, y3, rfl, S2, _⟩
        exact SqL.of (S2 _ _ hpl)
      · rintro i y σ' H' hi hy ⟨y2, y3, rfl, S2, hin⟩
        rw [hpn] at hy hi
        rw [List.getElem?_map] at hy
        obtain ⟨T, eT, rfl⟩ := Option.map_eq_some_iff.mp hy
        obtain ⟨pk, e2, e3⟩ := LiI.paired_get hts eT
        obtain ⟨y', ey, rfl⟩ := enP_get xs 0 _ e2
        have hT : SqT K H' T [.int ((0 + (xs.length - 1 - i) : Nat) : Int), y'] := (tp_same S2).sq (SqT.of e3)
        obtain ⟨u, eu, hu⟩ := hw.get ey
        have mu := List.mem_of_getElem? eu
        have du := W.deps_mem mu
        have ou := W.oks_mem mu ho.2
        have hu2 := WV.tp (tp_same (S1'.trans S2)) _ hu
        refine ⟨T, [.int ((0 + (xs.length - 1 - i) : Nat) : Int), y'], rfl, hT, rfl, _, _, rfl, _, _, rfl, rfl, ?_⟩
        refine ⟨_, rfl, y', u, rfl, hu2, W.Ok.mono abc_sub _ ou, by omega, fun H3 k3 => ?_⟩
        by_cases hc : u.cnt abcABC = some 0
        · refine ⟨true, congrArg V.bl (decide_eq_true hc), _, _, rfl, S2.trans k3, fun j hj w hw' => ?_⟩
          by_cases hj2 : j = xs.length - 1 - i
          · subst hj2
            rw [eu] at hw'
            cases hw'
            exact hc
          · exact hin j (by omega) w hw'
        · refine ⟨false, congrArg V.bl (decide_eq_false hc), ?_⟩
          have hl := lsts_at ws 0 (xs.length - 1 - i) ho.2 eu hc (fun j hj x hx => hin j (by omega) x hx)
          refine ⟨_, rfl, _, rfl, y', u, rfl, WV.tp (tp_same k3) _ hu2, ou, by omega, by omega, fun x H4 hx k4 => ?_⟩
          exact ⟨_, x, u.lst, rfl, hx, hlen ou (by omega), fun z H5 hz k5 => q z H5 (by rw [W.lst, hl]; exact hz) (S1'.trans (S2.trans (k3.trans (k4.trans k5))))⟩
      · rintro σ' H' ⟨y2, y3, rfl, S2, hin⟩
        refine ⟨_, _, rfl, S1'.trans S2, lsts_none ws 0 fun w hw' => ?_⟩
        obtain ⟨j, hj⟩ := List.mem_iff_getElem?.mp hw'
        exact hin j (by rw [hpn]; omega) w hj
    rintro σ' H' ⟨y2, y3, rfl, S1, hn0⟩
    refine ⟨_, rfl, rfl, eq_no (by decide +kernel) ⟨_, rfl, rfl, eq_no (by decide +kernel) ?_⟩⟩
    exact q _ H' (by rw [W.lst, hn0]; rfl) S1
theorem ok_lastP (D : Df K mg "last_place" s_last_place ["word"]) (bi : Bi mg) (hen : mg "enumerate" = none) (cis_empty : Cal P w K mg base 14 "is_empty" ["word"] (spEmp K)) (c_longer : Cal P w K mg base 1 "_longer" ["number", "address"] (spLonger K)) : ∀ n : Nat, Cal P w K mg base (n + 15) "last_place" ["word"] (spLastP K n)
  | 0 => D.no fun vs H Q E h => by
    obtain ⟨v, t, _, _, _, h, _⟩ := h
    have := t.dep_pos
    omega
  | n + 1 => ok_last1 D bi hen cis_empty c_longer (ok_lastP D bi hen cis_empty c_longer n)
end
end SW

set_option Elab.async false
set_option linter.all false
set_option maxRecDepth 100000
set_option maxHeartbeats 4000000
namespace SW
open PySem PySem.Spec PyProof.Rows L2
section
variable {P : Program} {w : World} {K : PySem.W.Frag} {mg : Str → Option Value} {base : Heap}
theorem fsts_at : ∀ (ws : List W) (k j : Nat) {w : W}, ws[j]? = some w → w.cnt abcABC ≠ some 0 → (∀ i, i < j → ∀ x, ws[i]? = some x → x.cnt abcABC = some 0) → W.fsts ws k = w.fst.map (((k + j : Nat) : Int) :: ·)
  | [], k, j, w, e, _, _ => by cases e
  | u :: r, k, 0, w, e, hc, h => by
    cases e
    rw [W.fsts, if_neg hc]
    rfl
  | u :: r, k, j + 1, w, e, hc, h => by
    rw [W.fsts, if_pos (h 0 (by omega) u rfl), fsts_at r (k + 1) j e hc (fun i hi x hx => h (i + 1) (by omega) x hx), show k + 1 + j = k + (j + 1) by omega]
theorem fst_zero {t : W} (o : t.Ok abc) (h : t.cnt abcABC = some 0) : t.fst = none := by
  cases e : t.fst with
  | none => rfl
  | some f => exact absurd h (vd_cnt o (fst_vd f e))
def W.tot1 : W → Int
  | .join ws => ws.length
  | .times _ n => n
  | _ => 1
def W.back (u : W) (m : Int) : Int := if u.isLeft = true then m else u.tot1 - 1 - m
theorem mget {ws : List W} {j : Nat} (h : j < ws.length) : (ws.reverse.map W.mir)[j]? = (ws[ws.length - 1 - j]?).map W.mir := by
  rw [List.getElem?_map, List.getElem?_reverse h]
theorem back_step {u : W} {m : Int} {r : List Int} (o : u.Ok abc) (h : u.mir.fst = some (m :: r)) : ∃ x, u.stp (u.back m) = some x ∧ x.mir.fst = some r ∧ u.lst = x.lst.map (u.back m :: ·) := by
  cases u with
  | emp => rw [mir_emp, W.fst] at h; cases h; all_goals (intros; contradiction)
  | nam c => unfold W.Ok at o; exact o.elim
  | ltr c => rw [mir_ltr, W.fst] at h; cases h
  | right w =>
    rw [mir_right, W.fst] at h
    cases h
    all_goals (intros; contradiction)
  | left w =>
    rw [mir_left, W.fst] at h
    obtain ⟨g, e1, e2⟩ := opt_map_cons h
    cases e2
    have eb : (W.left w).back 0 = 0 := rfl
    rw [eb]
    exact ⟨w, stp_left (by decide) (by decide), e1, by rw [W.lst]⟩
  | times w n =>
    rw [mir_times, W.fst] at h
    split at h
    · rename_i hn
      obtain ⟨g, e1, e2⟩ := opt_map_cons h
      cases e2
      have eb : (W.times w n).back 0 = n - 1 := by
        show n - 1 - 0 = n - 1
        omega
      rw [eb]
      exact ⟨w, stp_times (by omega) (by omega), e1, by rw [W.lst, if_pos hn]⟩
    · cases h
  | join ws =>
    unfold W.Ok at o
    rw [mir_join, W.fst] at h
    obtain ⟨j, w', g, e1, e2, e3, e4, e5⟩ := fsts_inv _ 0 h
    rw [Nat.zero_add] at e3
    cases e3
    have hj : j < ws.length := by
      have := (List.getElem?_eq_some_iff.mp e1).1
      rwa [List.length_map, List.length_reverse] at this
    rw [mget hj] at e1
    obtain ⟨x, ex, rfl⟩ := Option.map_eq_some_iff.mp e1
    have eb : (W.join ws).back (j : Int) = ((ws.length - 1 - j : Nat) : Int) := by
      show (ws.length : Int) - 1 - j = _
      omega
    rw [W.mir_cnt] at e4
    rw [eb]
    refine ⟨x, stp_join ex, e2, ?_⟩
    rw [W.lst, lsts_at ws 0 (ws.length - 1 - j) o.2 ex e4 (fun i hi y hy => ?_), Nat.zero_add]
    have hi2 := (List.getElem?_eq_some_iff.mp hy).1
    have := e5 (ws.length - 1 - i) (by omega) y.mir (by rw [mget (by omega), show ws.length - 1 - (ws.length - 1 - i) = i by omega, hy]; rfl)
    rw [W.mir_cnt] at this
    exact this
theorem back_none : ∀ (f : List Int) {u : W}, u.Ok abc → u.lst = some f → u.mir.fst ≠ none
  | f, u, o, h => by
    rcases lst_inv o h with ⟨c, rfl, rfl⟩ | ⟨i, g, x, rfl, e1, e2, _⟩
    · rw [mir_ltr, W.fst]; exact fun h => nomatch h
    · have ih := back_none g (stp_ok o e1).1 e2
      cases ex : x.mir.fst with
      | none => exact absurd ex ih
      | some f' =>
        cases u with
        | emp => cases e1
        | ltr c => cases e1
        | nam c => cases e1
        | right w => rw [W.lst] at h; cases h; all_goals (intros; contradiction)
        | left w =>
          rw [stpL] at e1
          split at e1
          · cases e1
            rw [mir_left, W.fst, ex]
            exact fun h => nomatch h
          · cases e1
        | times w n =>
          rw [stpT] at e1
          split at e1
          · cases e1
            rename_i hh
            rw [mir_times, W.fst, if_pos (by omega), ex]
            exact fun h => nomatch h
          · cases e1
        | join ws =>
          unfold W.Ok at o
          rw [W.lst] at h
          obtain ⟨j, w', g', d1, d2, d3, d4, d5⟩ := lsts_inv ws 0 o.2 h
          have hj := (List.getElem?_eq_some_iff.mp d1).1
          rw [Nat.zero_add] at d3
          cases d3
          have : x = w' := by
            have q := stp_join d1
            rw [q] at e1
            exact (Option.some.inj e1).symm
          subst this
          have := fsts_at (ws.reverse.map W.mir) 0 (ws.length - 1 - j) (w := x.mir) (by rw [mget (by omega), show ws.length - 1 - (ws.length - 1 - j) = j by omega, d1]; rfl) (by rw [W.mir_cnt]; exact d4) (fun i hi y hy => by
            rw [mget (by omega)] at hy
            obtain ⟨z, ez, rfl⟩ := Option.map_eq_some_iff.mp hy
            rw [W.mir_cnt]
            exact d5 _ (by omega) z ez)
          rw [mir_join, W.fst, this, ex]
          exact fun h => nomatch h
theorem sc__law_first : FnScope ["_law_tree_here", "_law_at", "_law_inside", "_law_k"] ["_law_tree_here"] (defScope s__law_first) := ⟨rfl, rfl, rfl, by decide +kernel, rfl, by decide +kernel, by decide +kernel⟩
theorem ok_lfirst1 {n : Nat} (D : Df K mg "_law_first" s__law_first ["_law_tree_here"]) (bi : Bi mg) (c_law_places : Cal P w K mg base 14 "_law_places" ["_law_tree_here"] (spPlaces K)) (c_law_first : Cal P w K mg base (n + 15) "_law_first" ["_law_tree_here"] (spFirst K n)) : Cal P w K mg base (n + 15 + 1) "_law_first" ["_law_tree_here"] (spFirst K (n + 1)) := by
  refine D.ok sc__law_first (fun vs H Q E h => ?_) (fun f cdv A outer s H vs Q E hr h => ?_)
  · obtain ⟨v, t, rfl, _⟩ := h
    rfl
  obtain ⟨v, t, rfl, hv, ho, hd, hn, q⟩ := h
  refine ⟨_, (pss_cons (ps_if (pt_cmpR op_eq (pe_ix ix_tup (pv 0) pe_int (fun _ _ => rfl)) pe_str (nomark _)) (pss_one (ps_ret (pe_tup pa_nil))) pss_nil)
      (pss_cons (ps_if (PW.pt (pw_or (pt_cmpR op_eq (pe_ix ix_tup (pv 0) pe_int (fun _ _ => rfl)) pe_str (nomark _)) (pw_or1 (pt_cmpR op_eq (pe_own c_law_places hr (by omega) (by rfl) (pa_cons (pv 0) pa_nil)) pe_int (nomark _))))) (pss_one (ps_ret pe_non)) pss_nil)
      (pss_cons (ps_set (i := 1) sc__law_first.nd rfl (.inl rfl) pe_int)
      (C8.pss_cut (ps_if (pt_cmpR op_eq (pe_ix ix_tup (pv 0) pe_int (fun _ _ => rfl)) pe_str (nomark _)) (pss_one (ps_set (i := 1) sc__law_first.nd rfl (.inl rfl) (pe_ix ix_list (pe_lc (own := [("_law_k", 3)]) (g := gName 3) (tt := tTest (tOp rNe (tCall (spPlaces K) [] E0 (tCons (tOp (rIxT K) (tOp (rIxT K) (tVar 0) (tC (.int 1))) (tVar 3)) tNil)) (tC (.int 0)))) rfl sc__law_first.nd (pi_range1 (by rfl) bi.range (pa_cons (pe_callB call_len_seq (by rfl) bi.len PySem.boot_len (pa_cons (pe_ix ix_tup (pv 0) pe_int (fun _ _ => rfl)) pa_nil)) pa_nil)) (blkOk_by (N := ["_law_tree_here", "_law_at", "_law_inside", "_law_k"]) (sc := defScope s__law_first) (by decide +kernel)) (fun _ _ _ _ _ => (pg_name (i := 3) sc__law_first.nd rfl (.inl rfl))) (fun _ _ _ _ _ => (pts_one (pt_cmpR op_ne (pe_own c_law_places hr (by omega) (by rfl) (pa_cons (pe_ix ix_tup (pe_ix ix_tup (pv 0) pe_int (fun _ _ => rfl)) (pv 3) (fun _ _ => rfl)) pa_nil)) pe_int (nomark _)))) (fun _ _ _ _ _ => (pv 3))) pe_int (fun _ _ => rfl)))) pss_nil)
      (pss_cons (ps_set (i := 2) sc__law_first.nd rfl (.inl rfl) (pe_own c_law_first hr (by omega) (by rfl) (pa_cons (pe_ifExp (pt_cmpR op_eq (pe_ix ix_tup (pv 0) pe_int (fun _ _ => rfl)) pe_str (nomark _)) (pe_ix ix_tup (pe_ix ix_tup (pv 0) pe_int (fun _ _ => rfl)) (pv 1) (fun _ _ => rfl)) (pe_ix ix_tup (pv 0) pe_int (fun _ _ => rfl))) pa_nil)))
      (pss_one (ps_ret (pe_ifExp (pt_cmpR op_isN (pv 2) pe_non (nomark _)) pe_non (pe_op op_catT (pe_tup (pa_cons (pv 1) pa_nil)) (pv 2)))))))))), ?_⟩
  by_cases hl : ∃ c, t = .ltr c
  · obtain ⟨c, rfl⟩ := hl
    have at_ := hv.at
    cases at_ with
    | ltr e s =>
      cases e
      exact ⟨_, rfl, _, _, _, _, rfl, rfl, s, rfl, rfl, eq_yes rfl ⟨Nat.zero_le _, fun p hp => q _ _ (by rw [W.fst]; exact ⟨p, rfl, SqT.of upd_same⟩) (same_new hp)⟩⟩
  have hoA := W.Ok.mono abc_sub _ ho
  obtain ⟨a, kk, zs, ev, s, k1, k2⟩ : ∃ a kk zs, v = .ref a ∧ SqT K H a (.str kk :: zs) ∧ kk ≠ "letter" ∧ (kk = "left" ↔ ∃ u, t = .left u) := by
    have at_ := hv.at
    cases at_ with
    | nam e s => unfold W.Ok at ho; exact ho.elim
    | ltr e s => exact absurd ⟨_, rfl⟩ hl
    | emp e s => exact ⟨_, _, _, e, s, (by decide +kernel), (fun h => absurd h (by decide +kernel)), (fun ⟨_, h⟩ => nomatch h)⟩
    | join e s s2 hw => exact ⟨_, _, _, e, s, (by decide +kernel), (fun h => absurd h (by decide +kernel)), (fun ⟨_, h⟩ => nomatch h)⟩
    | times e s hx => exact ⟨_, _, _, e, s, (by decide +kernel), (fun h => absurd h (by decide +kernel)), (fun ⟨_, h⟩ => nomatch h)⟩
    | right e s hx => exact ⟨_, _, _, e, s, (by decide +kernel), (fun h => absurd h (by decide +kernel)), (fun ⟨_, h⟩ => nomatch h)⟩
    | left e s hx => exact ⟨_, _, _, e, s, (by decide +kernel), (fun _ => ⟨_, rfl⟩), fun _ => rfl⟩
  subst ev
  refine ⟨_, rfl, _, _, _, _, rfl, rfl, s, at_of (j := 0) (by omega) rfl, rfl, eq_no k1 ?_⟩
  refine ⟨_, rfl, _, _, _, _, rfl, rfl, s, at_of (j := 0) (by omega) rfl, rfl, ?_⟩
  by_cases h2 : kk = "left"
  · obtain ⟨u, rfl⟩ := k2.mp h2
    exact eq_yes h2 (q _ H (by rw [W.fst] <;> first | rfl | (intros; contradiction)) (Same.refl H))
  refine eq_no h2 ⟨_, rfl, _, t, rfl, hv, hoA, by omega, fun H0 S0 => ⟨rfl, eq0 (fun h3 => q _ H0 (by rw [fst_zero ho h3]; rfl) S0) (fun h3 => ?_)⟩⟩
  have hv0 := WV.tp (tp_same S0) _ hv
  refine ⟨fun σ' H' => ∃ (m : Int) (u : W), σ' = [some (.ref a), some (.int m), none, none] ∧ Same H0 H' ∧ t.stp m = some u ∧ t.fst = u.fst.map (m :: ·), ?_, ?_⟩
  · have at_ := hv0.at
    cases at_ with
    | nam e s => unfold W.Ok at ho; exact ho.elim
    | ltr e s => exact absurd ⟨_, rfl⟩ hl
    | emp e s => exact absurd (by rw [cnt_emp]) h3
    | left e s hx => exact absurd (k2.mpr ⟨_, rfl⟩) h2
    | @times a' x u n' e s hx =>
      cases e
      have hn : 0 < n' := by
        refine Classical.byContradiction fun h => h3 ?_
        rw [cnt_times, if_neg h]
      exact ⟨_, rfl, _, _, _, _, rfl, rfl, s, rfl, rfl, eq_no (by decide +kernel) ⟨0, u, rfl, Same.refl H0, stp_times (by decide) hn, by rw [W.fst, if_pos hn]⟩⟩
    | @right a' x u e s hx =>
      cases e
      exact ⟨_, rfl, _, _, _, _, rfl, rfl, s, rfl, rfl, eq_no (by decide +kernel) ⟨0, u, rfl, Same.refl H0, stp_right (by decide) (by decide), by rw [W.fst]⟩⟩
    | @join a' b xs ws e s s2 hw =>
      cases e
      have hlw := hw.length
      have ho' := ho
      unfold W.Ok at ho'
      rw [W.dep] at hd
      refine ⟨_, rfl, _, _, _, _, rfl, rfl, s, rfl, rfl, eq_yes rfl ?_⟩
      refine ⟨_, rfl, _, _, _, _, rfl, rfl, s, rfl, b, xs, rfl, .inr s2, _, rfl, ?_, ?_, fun Dd hD => ?_⟩
      · omega
      · omega
      refine lcrT (lo := 0) (n := xs.length) (fun i H2 => ∃ acc : List Nat, H2 Dd = some (.lst (acc.map fun k : Nat => V.int (k : Int))) ∧ acc.length ≤ i ∧ ((acc = [] ∧ ∀ k x, k < i → ws[k]? = some x → x.cnt abcABC = some 0) ∨ ∃ j rest w, acc = j :: rest ∧ ws[j]? = some w ∧ w.cnt abcABC ≠ some 0 ∧ ∀ k, k < j → ∀ x, ws[k]? = some x → x.cnt abcABC = some 0) ∧ Same H0 H2) ?_ ?_ ?_
      · exact ⟨[], upd_same, Nat.le_refl _, .inl ⟨rfl, fun k x h => absurd h (Nat.not_lt_zero k)⟩, same_new hD⟩
      · rintro i H2 hi ⟨acc, hA, hal, h1, k2'⟩
        have hgx : xs[i]? = some xs[i] := List.getElem?_eq_getElem hi
        obtain ⟨x, ex, hx⟩ := hw.get hgx
        have mx := List.mem_of_getElem? ex
        have dx := W.deps_mem mx
        have t2 := tp_same k2'
        refine ⟨_, rfl, _, _, _, _, rfl, rfl, t2.sq s, rfl, _, rfl, _, _, _, _, rfl, rfl, t2.sq s2, at_of (j := i) (by omega) hgx, _, x, rfl, WV.tp t2 _ hx, W.Ok.mono abc_sub _ (W.oks_mem mx ho'.2), by omega, fun H4 k4 => ⟨rfl, ?_⟩⟩
        have hA4 := k4 _ _ hA
        refine ne0 (fun hc => ?_) (fun hc => ?_)
        · refine ⟨_, rfl, _, hA4, ?_, acc ++ [i], ?_, ?_, ?_, ?_⟩
          · rw [List.length_map]
            exact Nat.lt_of_le_of_lt (show acc.length ≤ 1000 by omega) (by decide)
          · rw [upd_same, List.map_append]
            show some (HO.lst (_ ++ [V.int ((0 : Int) + (i : Int))])) = _
            rw [Int.zero_add]
            rfl
          · rw [List.length_append]
            show acc.length + 1 ≤ i + 1
            omega
          · rcases h1 with ⟨rfl, hz⟩ | ⟨j, rest, w, rfl, e1, e2, e3⟩
            · exact .inr ⟨i, [], x, rfl, ex, hc, fun k hk y hy => hz k y hk hy⟩
            · exact .inr ⟨j, rest ++ [i], w, rfl, e1, e2, e3⟩
          · intro b' o hb
            rw [upd_ne (ne_of_none hb hD)]
            exact k4 _ _ (k2' _ _ hb)
        · refine ⟨acc, hA4, by omega, ?_, k2'.trans k4⟩
          rcases h1 with ⟨rfl, hz⟩ | h1
          · refine .inl ⟨rfl, fun k y hk ey => ?_⟩
            by_cases e : k = i
            · rw [e, ex] at ey
              cases ey
              exact hc
            · exact hz k y (by omega) ey
          · exact .inr h1
      · rintro H2 ⟨acc, hA, hal, h1, k2'⟩
        rcases h1 with ⟨rfl, hz⟩ | ⟨j, rest, w, rfl, e1, e2, e3⟩
        · refine absurd ?_ h3
          rw [cnt_join]
          refine W.cnts_zero_of fun x hx => ?_
          obtain ⟨k, hk⟩ := List.mem_iff_getElem?.mp hx
          exact hz k x (by have := (List.getElem?_eq_some_iff.mp hk).1; omega) hk
        · refine ⟨_, _, _, _, rfl, rfl, SqL.of hA, at_of (j := 0) (by omega) rfl, ?_⟩
          exact ⟨(j : Int), w, rfl, k2', stp_join e1, by rw [W.fst, fsts_at ws 0 j e1 e2 e3, Nat.zero_add]⟩
  rintro σ' H1 ⟨m, u, rfl, S1, est, efst⟩
  have ou := (stp_ok ho est).1
  have du := (stp_ok ho est).2
  have hlen : ∀ f, u.fst = some f → f.length ≤ 100 := fun f hf => by
    obtain ⟨c, hg⟩ := fst_vd f hf
    have := (go_ok _ ou hg).2
    omega
  refine walk_step (i := 0) (j := 1) (WV.tp (tp_same S1) _ hv0) est rfl rfl (fun y hy => ?_)
  refine ⟨y, u, rfl, hy, ou, by omega, by omega, fun x H2 hx k2' => ?_⟩
  have S2 := S0.trans (S1.trans k2')
  cases ef : u.fst with
  | none =>
    rw [ef] at hx efst
    cases hx
    exact ⟨_, rfl, rfl, true, congrArg V.bl (decide_eq_true rfl), q _ H2 (by rw [efst]; rfl) S2⟩
  | some f =>
    rw [ef] at hx efst
    obtain ⟨b, rfl, sb⟩ := hx
    have hl1 := hlen f ef
    refine ⟨_, rfl, rfl, false, congrArg V.bl (decide_eq_false (fun h => nomatch h)), ?_⟩
    refine ⟨_, rfl, (by show 1 ≤ sizeLine; decide), fun p1 hp1 => ⟨_, rfl, ?_⟩⟩
    refine cat_one (SqT.of upd_same) ((tp_new hp1).sq sb) (by omega) (fun p4 H4 hs4 k4 => ?_)
    exact q _ H4 (by rw [efst]; exact ⟨p4, rfl, hs4⟩) (S2.trans ((same_new hp1).trans k4))
theorem ok_lfirst (D : Df K mg "_law_first" s__law_first ["_law_tree_here"]) (bi : Bi mg) (c_law_places : Cal P w K mg base 14 "_law_places" ["_law_tree_here"] (spPlaces K)) : ∀ n : Nat, Cal P w K mg base (n + 15) "_law_first" ["_law_tree_here"] (spFirst K n)
  | 0 => D.no fun vs H Q E h => by
    obtain ⟨v, t, _, _, _, h, _⟩ := h
    have := t.dep_pos
    omega
  | n + 1 => ok_lfirst1 D bi c_law_places (ok_lfirst D bi c_law_places n)
def spLLast (K : PySem.W.Frag) : Sp := fun vs H Q _ => ∃ v t, vs = [v] ∧ WV K H v t ∧ t.Ok abc ∧ t.dep ≤ 12 ∧ ∀ x H', Oa K H' x t.lst → Same H H' → Q x H'
theorem sc__law_last : FnScope ["_law_tree_here", "_law_here", "_law_spot", "_law_found", "_law_number", "_law_total", "_law_at"] ["_law_tree_here"] (defScope s__law_last) := ⟨rfl, rfl, rfl, by decide +kernel, rfl, by decide +kernel, by decide +kernel⟩
theorem ok_llast (D : Df K mg "_law_last" s__law_last ["_law_tree_here"]) (bi : Bi mg) (c_law_turned : Cal P w K mg base 12 "_law_turned" ["_law_tree_here"] (spMir K 12)) (c_law_first : Cal P w K mg base 27 "_law_first" ["_law_tree_here"] (spFirst K 12)) : Cal P w K mg base 28 "_law_last" ["_law_tree_here"] (spLLast K) := by
  refine D.ok sc__law_last (fun vs H Q E h => ?_) (fun f cdv A outer s H vs Q E hr h => ?_)
  · obtain ⟨v, t, rfl, _⟩ := h
    rfl
  obtain ⟨v, t, rfl, hv, ho, hd, q⟩ := h
  refine ⟨_, (pss_cons (ps_par3 (i := 1) (j := 2) (l := 3) rfl sc__law_last.nd rfl rfl rfl (by decide) (by decide) (by decide) rfl rfl rfl (pa_cons (pv 0) (pa_cons (pe_own c_law_first hr (by omega) (by rfl) (pa_cons (pe_own c_law_turned hr (by omega) (by rfl) (pa_cons (pv 0) pa_nil)) pa_nil)) (pa_cons (pe_tup pa_nil) pa_nil))) (by rfl))
      (pss_cons (ps_if (pt_cmpR op_isN (pv 2) pe_non (nomark _)) (pss_one (ps_ret pe_non)) pss_nil)
      (pss_cons (ps_for PassesOwn.never rfl (pi_tup (pv 2)) (pg_name (i := 4) sc__law_last.nd rfl (.inl rfl)) (C8.pss_cut (ps_set (i := 5) sc__law_last.nd rfl (.inl rfl) (pe_ifExp (pt_cmpR op_eq (pe_ix ix_tup (pv 1) pe_int (fun _ _ => rfl)) pe_str (nomark _)) (pe_callB call_len_seq (by rfl) bi.len PySem.boot_len (pa_cons (pe_ix ix_tup (pv 1) pe_int (fun _ _ => rfl)) pa_nil)) (pe_ifExp (pt_cmpR op_eq (pe_ix ix_tup (pv 1) pe_int (fun _ _ => rfl)) pe_str (nomark _)) (pe_ix ix_tup (pv 1) pe_int (fun _ _ => rfl)) pe_int)))
      (C8.pss_cut (ps_set (i := 6) sc__law_last.nd rfl (.inl rfl) (pe_ifExp (pt_cmpR op_eq (pe_ix ix_tup (pv 1) pe_int (fun _ _ => rfl)) pe_str (nomark _)) (pv 4) (pe_op op_sub (pe_op op_sub (pv 5) pe_int) (pv 4))))
      (pss_cons (ps_set (i := 3) sc__law_last.nd rfl (.inl rfl) (pe_op op_catA (pv 3) (pe_tup (pa_cons (pv 6) pa_nil))))
      (pss_one (ps_set (i := 1) sc__law_last.nd rfl (.inl rfl) (pe_ifExp (pt_cmpR op_eq (pe_ix ix_tup (pv 1) pe_int (fun _ _ => rfl)) pe_str (nomark _)) (pe_ix ix_tup (pe_ix ix_tup (pv 1) pe_int (fun _ _ => rfl)) (pv 6) (fun _ _ => rfl)) (pe_ix ix_tup (pv 1) pe_int (fun _ _ => rfl)))))))))
      (pss_one (ps_ret (pv 3)))))), ?_⟩
  have hoA := W.Ok.mono abc_sub _ ho
  refine ⟨_, rfl, _, rfl, v, t, rfl, hv, hoA, hd, fun vm H1 hvm k1 => ?_⟩
  refine ⟨vm, t.mir, rfl, hvm, W.mir_ok t ho, by rw [W.mir_dep]; exact hd, by decide, fun x H2 hx k2 => ⟨Nat.zero_le _, fun pf hpf => ⟨_, _, _, rfl, ?_⟩⟩⟩
  have S3 : Same H (upd H2 pf (.tup [])) := k1.trans (k2.trans (same_new hpf))
  have hx3 := hx.tp (tp_new (o := .tup []) hpf)
  have sf3 : SqT K (upd H2 pf (.tup [])) pf (([] : List Int).map V.int) := SqT.of upd_same
  generalize upd H2 pf (.tup []) = H3 at S3 hx3 sf3
  cases em : t.mir.fst with
  | none =>
    rw [em] at hx3
    cases hx3
    refine ⟨_, rfl, rfl, true, congrArg V.bl (decide_eq_true rfl), q _ H3 ?_ S3⟩
    cases el : t.lst with
    | none => rfl
    | some f => exact absurd em (back_none f ho el)
  | some g =>
    rw [em] at hx3
    obtain ⟨b, rfl, sb⟩ := hx3
    have hg : g.length ≤ 100 := by
      obtain ⟨c, h⟩ := fst_vd g em
      have := (go_ok _ (W.mir_ok t ho) h).2
      rw [W.mir_dep] at this
      omega
    refine ⟨_, rfl, rfl, false, congrArg V.bl (decide_eq_false (fun h => nomatch h)), ?_⟩
    refine ⟨_, rfl, b, rfl, ⟨_, sb⟩, for_tup (xs := g.map V.int) (fun i σ' H' => ∃ (y : V) (u : W) (qf : Addr) (fd : List Int) (y4 y5 y6 : Option V), σ' = [some v, some y, some (.ref b), some (.ref qf), y4, y5, y6] ∧ SqT K H' qf (fd.map V.int) ∧ fd.length = i ∧ WV K H' y u ∧ u.Ok abc ∧ u.mir.fst = some (g.drop i) ∧ t.lst = u.lst.map (fd ++ ·) ∧ Same H3 H') ?_ ?_ ?_ ?_⟩
    · exact ⟨v, t, pf, [], _, _, _, rfl, sf3, rfl, WV.tp (tp_same S3) _ hv, ho, em, by cases t.lst <;> rfl, Same.refl H3⟩
    · rintro i σ' H' _ ⟨y, u, qf, fd, y4, y5, y6, rfl, sq, hl, hy, ou, eu, et, S4⟩
      exact (tp_same S4).sq sb
    · rintro i z σ' H' hz ⟨y, u, qf, fd, y4, y5, y6, rfl, sq, hl, hy, ou, eu, et, S4⟩
      rw [List.getElem?_map] at hz
      obtain ⟨m, ez, rfl⟩ := Option.map_eq_some_iff.mp hz
      have hi := (List.getElem?_eq_some_iff.mp ez).1
      have dr : g.drop i = m :: g.drop (i + 1) := by rw [List.drop_eq_getElem_cons hi, (List.getElem?_eq_some_iff.mp ez).2]
      rw [dr] at eu
      obtain ⟨x, es, ex, el⟩ := back_step ou eu
      obtain ⟨a, kk, zs, ev, s, kL⟩ : ∃ a kk zs, y = .ref a ∧ SqT K H' a (.str kk :: zs) ∧ (kk = "left" ↔ u.isLeft = true) := by
        have at_ := hy.at
        cases at_ with
        | nam e s => exact ⟨_, _, _, e, s, (fun h => absurd h (by decide +kernel)), fun h => nomatch h⟩
        | emp e s => exact ⟨_, _, _, e, s, (fun h => absurd h (by decide +kernel)), fun h => nomatch h⟩
        | ltr e s => exact ⟨_, _, _, e, s, (fun h => absurd h (by decide +kernel)), fun h => nomatch h⟩
        | join e s s2 hw => exact ⟨_, _, _, e, s, (fun h => absurd h (by decide +kernel)), fun h => nomatch h⟩
        | times e s hx => exact ⟨_, _, _, e, s, (fun h => absurd h (by decide +kernel)), fun h => nomatch h⟩
        | right e s hx => exact ⟨_, _, _, e, s, (fun h => absurd h (by decide +kernel)), fun h => nomatch h⟩
        | left e s hx => exact ⟨_, _, _, e, s, (fun _ => rfl), fun _ => rfl⟩
      subst ev
      refine ⟨fun σ' H4 => ∃ (T : Int), σ' = [some v, some (.ref a), some (.ref b), some (.ref qf), some (.int m), some (.int T), y6] ∧ H4 = H' ∧ (u.isLeft = false → T = u.tot1), ?_, ?_⟩
      · have at_ := hy.at
        cases at_ with
        | nam e s => unfold W.Ok at ou; exact ou.elim
        | emp e s => cases es
        | ltr e s => cases es
        | join e s s2 hw =>
          cases e
          exact ⟨_, rfl, _, _, _, _, rfl, rfl, s, rfl, rfl, eq_yes rfl ⟨_, rfl, _, _, _, _, rfl, rfl, s, rfl, _, _, rfl, .inr s2, _, rfl, rfl, fun _ => by rw [hw.length]; rfl⟩⟩
        | times e s hx =>
          cases e
          exact ⟨_, rfl, _, _, _, _, rfl, rfl, s, rfl, rfl, eq_no (by decide +kernel) ⟨_, rfl, _, _, _, _, rfl, rfl, s, rfl, rfl, eq_yes rfl ⟨_, rfl, _, _, _, _, rfl, rfl, s, rfl, _, rfl, rfl, fun _ => rfl⟩⟩⟩
        | right e s hx =>
          cases e
          exact ⟨_, rfl, _, _, _, _, rfl, rfl, s, rfl, rfl, eq_no (by decide +kernel) ⟨_, rfl, _, _, _, _, rfl, rfl, s, rfl, rfl, eq_no (by decide +kernel) ⟨1, rfl, rfl, fun _ => rfl⟩⟩⟩
        | left e s hx =>
          cases e
          exact ⟨_, rfl, _, _, _, _, rfl, rfl, s, rfl, rfl, eq_no (by decide +kernel) ⟨_, rfl, _, _, _, _, rfl, rfl, s, rfl, rfl, eq_no (by decide +kernel) ⟨1, rfl, rfl, fun h => nomatch h⟩⟩⟩
      rintro σ' H4 ⟨T, rfl, rfl, hT⟩
      refine ⟨fun σ' H5 => σ' = [some v, some (.ref a), some (.ref b), some (.ref qf), some (.int m), some (.int T), some (.int (u.back m))] ∧ H5 = H4, ?_, ?_⟩
      · refine ⟨_, rfl, _, _, _, _, rfl, rfl, s, at_of (j := 0) (by omega) rfl, rfl, ?_⟩
        by_cases hk : kk = "left"
        · have eb : u.back m = m := by
            unfold W.back
            rw [if_pos (kL.mp hk)]
          rw [eb]
          exact eq_yes hk ⟨_, rfl, rfl, rfl⟩
        · have hL : u.isLeft = false := by
            cases h : u.isLeft with
            | true => exact absurd (kL.mpr h) hk
            | false => rfl
          have eb : u.back m = T - 1 - m := by
            unfold W.back
            rw [hL, hT hL, if_neg (by decide)]
          rw [eb]
          exact eq_no hk ⟨_, rfl, _, _, rfl, rfl, _, rfl, _, _, rfl, rfl, rfl, rfl⟩
      rintro σ' H5 ⟨rfl, rfl⟩
      refine ⟨_, rfl, _, rfl, (by show 1 ≤ sizeLine; decide), fun p1 hp1 => ?_⟩
      refine cat_any (ns := fd) (ms := [u.back m]) ((tp_new hp1).sq sq) (SqT.of upd_same) (by omega) (by show 1 ≤ 1000; decide) (fun p4 H6 hs4 k4 => ?_)
      have S6 := (same_new (o := .tup [.int (u.back m)]) hp1).trans k4
      refine walk_step (i := 1) (j := 6) (WV.tp (tp_same S6) _ hy) es rfl rfl (fun y2 hy2 => ?_)
      refine ⟨y2, x, p4, fd ++ [u.back m], _, _, _, rfl, hs4, by rw [List.length_append, hl]; rfl, hy2, (stp_ok ou es).1, ex, ?_, S4.trans S6⟩
      rw [et, el, Option.map_map]
      congr 1
      funext r
      show fd ++ (u.back m :: r) = fd ++ [u.back m] ++ r
      rw [List.append_assoc]
      rfl
    · rintro σ' H' ⟨y, u, qf, fd, y4, y5, y6, rfl, sq, hl, hy, ou, eu, et, S4⟩
      rw [List.length_map, List.drop_length] at eu
      have hlt : u.lst = some [] := by
        rcases fst_inv eu with ⟨c, hm, _⟩ | ⟨i, g', u', h, _⟩
        · have : u = .ltr c := by
            have := congrArg W.mir hm
            rw [W.mir_mir, mir_ltr] at this
            exact this
          rw [this, W.lst]
        · cases h
      rw [hlt] at et
      exact ⟨_, rfl, q _ H' (by rw [et]; exact ⟨qf, rfl, by show SqT K H' qf ((fd ++ []).map V.int); rw [List.append_nil]; exact sq⟩) (S3.trans S4)⟩
end
end SW

set_option Elab.async false
set_option linter.all false
set_option maxRecDepth 100000
set_option maxHeartbeats 4000000
namespace SW
open PySem PySem.Spec PyProof.Rows L2
section
variable {P : Program} {w : World} {K : PySem.W.Frag} {mg : Str → Option Value} {base : Heap}
def datO : Option (List Int) → PyData
  | none => .none
  | some ns => .tuple (ns.map PyData.int)
theorem dp_intsL {K : PySem.W.Frag} {H : Hp} : ∀ ns : List Int, DpAll K H (ns.map V.int) (ns.map PyData.int)
  | [] => .nil
  | n :: r => .cons (.int n) (dp_intsL r)
theorem dp_oa {K : PySem.W.Frag} {H : Hp} {x : V} : ∀ {o : Option (List Int)}, Oa K H x o → Dp K H x (datO o)
  | none, h => by cases h; exact .non
  | some ns, ⟨a, e, s⟩ => by cases e; exact .tup s (dp_intsL ns)
theorem sm_oa {o : Option (List Int)} (h : ∀ f, o = some f → f.length ≤ 100) : Sm 18 (datO o) := by
  cases o with
  | none => show Sm 18 .none; unfold Sm; trivial
  | some ns =>
    show Sm 18 (.tuple (ns.map PyData.int))
    unfold Sm
    refine ⟨by rw [List.length_map]; have := h ns rfl; omega, fun d hd => ?_⟩
    obtain ⟨i, _, rfl⟩ := List.mem_map.mp hd
    unfold Sm
    trivial
theorem sm_list {ds : List PyData} (hl : ds.length ≤ 1000) (h : ∀ d ∈ ds, Sm 18 d) : Sm 19 (.list ds) := by
  unfold Sm
  exact ⟨hl, h⟩
def laL : W := .left (.ltr "a")
def tbW : W := .times (.ltr "b") ((10 : Int) ^ (30 : Int).toNat)
theorem laL_ok : laL.Ok abc ∧ laL.dep ≤ 12 := ⟨by simp [laL, W.Ok, abc], by decide +kernel⟩
theorem tbW_ok : tbW.Ok abc ∧ tbW.dep ≤ 12 := by
  refine ⟨?_, by decide +kernel⟩
  unfold tbW W.Ok
  refine ⟨by decide, by decide, ?_⟩
  simp [W.Ok, abc]
theorem emp_ok : W.emp.Ok abc ∧ W.emp.dep ≤ 12 := ⟨by unfold W.Ok; trivial, by decide +kernel⟩
theorem laL_fst : laL.fst = none := by unfold laL; rw [W.fst] <;> first | rfl | (intros; contradiction)
theorem laL_lst : laL.lst = some [0] := by unfold laL; rw [W.lst, W.lst]; rfl
theorem emp_fst : W.emp.fst = none := by rw [W.fst] <;> first | rfl | (intros; contradiction)
theorem tbW_fst : tbW.fst = some [0] := by unfold tbW; rw [W.fst, if_pos (by decide), W.fst]; rfl
theorem tbW_lst : tbW.lst = some [(10 : Int) ^ (30 : Int).toNat - 1] := by unfold tbW; rw [W.lst, if_pos (by decide), W.lst]; rfl
theorem sc_law : FnScope ["_law_script", "_law_rng", "_law_turn", "_law_tree_here", "_law_first_here", "_law_last_here", "_law_spot", "_law_found", "_law_many"] ["_law_script"] (defScope s_law) := ⟨rfl, rfl, rfl, by decide +kernel, rfl, by decide +kernel, by decide +kernel⟩
theorem ok_law {ae : Addr} (D : Df K mg "law" s_law ["_law_script"]) (bi : Bi mg) (mEMPTY : mg "EMPTY" = some (.ref ae)) (hE : ∀ H, SqT K H ae [.str "empty"])
    (c_law_draws : Cal P w K mg base 1 "_law_draws" ["_law_script"] (spDraws K)) (c_law_wide : Cal P w K mg base 7 "_law_wide" ["_law_rng"] (spWord K 6)) (c_law_same : Cal P w K mg base 20 "_law_same" ["_law_found", "_law_due"] (spSame K 20))
    (c_law_first : Cal P w K mg base 27 "_law_first" ["_law_tree_here"] (spFirst K 12)) (c_law_last : Cal P w K mg base 28 "_law_last" ["_law_tree_here"] (spLLast K))
    (cfirst_place : Cal P w K mg base 27 "first_place" ["word"] (spFirst K 12)) (clast_place : Cal P w K mg base 27 "last_place" ["word"] (spLastP K 12)) (Dlast_place : Df K mg "last_place" s_last_place ["word"])
    (c_law_spots : Cal P w K mg base 6 "_law_spots" ["_law_tree_here", "_law_near", "_law_reach"] (spSpots K 6)) (c_law_ahead : Cal P w K mg base 1 "_law_ahead" ["_law_tree_here", "_law_one", "_law_other"] (spAhead K)) :
    Cal P w K mg base 31 "law" ["_law_script"] (spLaw K) := by
  refine D.ok sc_law (fun vs H Q E h => ?_) (fun f cdv A outer s H vs Q E hr h => ?_)
  · obtain ⟨a, ns, rfl, _⟩ := h
    rfl
  obtain ⟨a, ns, rfl, hS, q⟩ := h
  refine ⟨_, (pss_cons (ps_set (i := 1) sc_law.nd rfl (.inl rfl) (pe_own c_law_draws hr (by omega) (by rfl) (pa_cons (pv 0) pa_nil)))
      (pss_cons (ps_for PassesOwn.never rfl (pi_range1 (by rfl) bi.range (pa_cons pe_int pa_nil)) (pg_name (i := 2) sc_law.nd rfl (.inl rfl)) (pss_cons (ps_set (i := 3) sc_law.nd rfl (.inl rfl) (pe_own c_law_wide hr (by omega) (by rfl) (pa_cons (pv 1) pa_nil)))
      (pss_cons (ps_par (i := 4) (j := 5) rfl sc_law.nd rfl rfl (by decide) rfl rfl (pa_cons (pe_own c_law_first hr (by omega) (by rfl) (pa_cons (pv 3) pa_nil)) (pa_cons (pe_own c_law_last hr (by omega) (by rfl) (pa_cons (pv 3) pa_nil)) pa_nil)) (by rfl))
      (pss_cons (ps_if (pt_not (pt_val (pe_own c_law_same hr (by omega) (by rfl) (pa_cons (pe_lst (pa_cons (pe_own cfirst_place hr (by omega) (by rfl) (pa_cons (pv 3) pa_nil)) (pa_cons (pe_ownK0 (ks := ["word"]) (g := g1) (gV := g1) clast_place Dlast_place hr (by omega) (by rfl) (fun _ _ _ _ _ _ us ws hl => by obtain ⟨_, rfl, rfl⟩ := g1_inv hl; rfl) g1_rel (pk_cons (pv 3) pk_nil)) pa_nil))) (pa_cons (pe_lst (pa_cons (pv 4) (pa_cons (pv 5) pa_nil))) pa_nil))))) (pss_one (ps_ret pe_bl)) pss_nil)
      (pss_one (ps_for PassesOwn.never rfl (pi_list (pe_slice sl_list (pe_own c_law_spots hr (by omega) (by rfl) (pa_cons (pv 3) (pa_cons (pe_lst pa_nil) (pa_cons pe_int pa_nil)))) po_none (po_some pe_int))) (pg_name (i := 6) sc_law.nd rfl (.inl rfl)) (pss_one (ps_if (PW.pt (pw_or (PW.pt (pw_and (pt_cmpR op_notN (pv 4) pe_non (nomark _)) (pw_and1 (pt_val (pe_own c_law_ahead hr (by omega) (by rfl) (pa_cons (pv 3) (pa_cons (pv 6) (pa_cons (pv 4) pa_nil)))))))) (pw_or1 (PW.pt (pw_and (pt_cmpR op_notN (pv 5) pe_non (nomark _)) (pw_and1 (pt_val (pe_own c_law_ahead hr (by omega) (by rfl) (pa_cons (pv 3) (pa_cons (pv 5) (pa_cons (pv 6) pa_nil))))))))))) (pss_one (ps_ret pe_bl)) pss_nil))))))))
      (pss_cons (ps_set (i := 7) sc_law.nd rfl (.inl rfl) (pe_lst (pa_cons (pe_own cfirst_place hr (by omega) (by rfl) (pa_cons (pe_tup (pa_cons pe_str (pa_cons (pe_tup (pa_cons pe_str (pa_cons pe_str pa_nil))) pa_nil))) pa_nil)) (pa_cons (pe_own clast_place hr (by omega) (by rfl) (pa_cons (pe_tup (pa_cons pe_str (pa_cons (pe_tup (pa_cons pe_str (pa_cons pe_str pa_nil))) pa_nil))) pa_nil)) (pa_cons (pe_own cfirst_place hr (by omega) (by rfl) (pa_cons (pe_glob (v := .ref ae) (by rfl) mEMPTY rfl) pa_nil)) pa_nil)))))
      (pss_cons (ps_set (i := 8) sc_law.nd rfl (.inl rfl) (pe_tup (pa_cons pe_str (pa_cons (pe_tup (pa_cons pe_str (pa_cons pe_str pa_nil))) (pa_cons (pe_op op_pow pe_int pe_int) pa_nil)))))
      (pss_one (ps_ret (pe_own c_law_same hr (by omega) (by rfl) (pa_cons (pe_op op_cat (pv 7) (pe_lst (pa_cons (pe_own clast_place hr (by omega) (by rfl) (pa_cons (pv 8) pa_nil)) (pa_cons (pe_own cfirst_place hr (by omega) (by rfl) (pa_cons (pv 8) pa_nil)) pa_nil)))) (pa_cons (pe_lst (pa_cons pe_non (pa_cons (pe_tup (pa_cons pe_int pa_nil)) (pa_cons pe_non (pa_cons (pe_tup (pa_cons (pe_op op_sub (pe_op op_pow pe_int pe_int) pe_int) pa_nil)) (pa_cons (pe_tup (pa_cons pe_int pa_nil)) pa_nil)))))) pa_nil))))))))), ?_⟩
  refine ⟨_, rfl, a, ns, rfl, hS, fun r l H1 g1 k1 => ?_⟩
  refine ⟨6, rfl, by decide, by decide, for_range (n := 6) (fun i σ' H' => ∃ y2 y3 y4 y5 y6, σ' = [some (.ref a), some (.ref r), y2, y3, y4, y5, y6, none, none] ∧ Rng H' r l) ?_ ?_ ?_⟩
  · exact ⟨none, none, none, none, none, rfl, g1⟩
  · rintro i0 σ' H2 _ ⟨y2, y3, y4, y5, y6, rfl, g2⟩
    refine ⟨_, rfl, r, l, rfl, g2, fun v t H3 hv ho hd g3 k3 => ?_⟩
    have hlF : ∀ f, t.fst = some f → f.length ≤ 100 := fun f hf => by
      obtain ⟨c, hg⟩ := fst_vd f hf
      have := (go_ok _ ho hg).2
      omega
    have hlL : ∀ f, t.lst = some f → f.length ≤ 100 := fun f hf => by
      obtain ⟨c, hg⟩ := lst_vd f ho hf
      have := (go_ok _ ho hg).2
      omega
    refine ⟨_, rfl, v, t, rfl, hv, ho, by omega, by decide, fun x1 H4 hx1 k4 => ?_⟩
    refine ⟨_, rfl, v, t, rfl, WV.tp (tp_same k4) _ hv, ho, by omega, fun x2 H5 hx2 k5 => ⟨_, _, rfl, ?_⟩⟩
    have hv5 := WV.tp (tp_same (k4.trans k5)) _ hv
    have hx15 := hx1.tp (tp_same k5)
    refine ⟨_, rfl, v, t, rfl, hv5, ho, by omega, by decide, fun z1 H6 hz1 k6 => ?_⟩
    refine ⟨_, rfl, v, t, rfl, WV.tp (tp_same k6) _ hv5, ho, by omega, by decide, fun z2 H7 hz2 k7 => ?_⟩
    refine ⟨(by show 2 ≤ sizeLine; decide), fun p1 hp1 => ⟨_, rfl, _, rfl, (by show 2 ≤ sizeLine; decide), fun p2 hp2 => ?_⟩⟩
    have S8 := (same_new (o := .lst [z1, z2]) hp1).trans (same_new (o := .lst [x1, x2]) hp2)
    have t58 := (tp_same k6).trans ((tp_same k7).trans (tp_same S8))
    refine ⟨_, _, .list [datO t.fst, datO t.lst], rfl, .lst (SqL.of ((same_new hp2) _ _ upd_same)) (.cons (dp_oa (hz1.tp ((tp_same k7).trans (tp_same S8)))) (.cons (dp_oa (hz2.tp (tp_same S8))) .nil)), .lst (SqL.of upd_same) (.cons (dp_oa (hx15.tp t58)) (.cons (dp_oa (hx2.tp t58)) .nil)), sm_list (by show 2 ≤ 1000; decide) (fun d hd => ?_), fun H10 k10 => ⟨true, rfl, ?_⟩⟩
    · simp only [List.mem_cons, List.not_mem_nil, or_false] at hd
      rcases hd with rfl | rfl
      · exact sm_oa hlF
      · exact sm_oa hlL
    have S510 : Same H5 H10 := k6.trans (k7.trans (S8.trans k10))
    have hv10 := WV.tp (tp_same S510) _ hv5
    have hx110 := hx15.tp (tp_same S510)
    have hx210 := hx2.tp (tp_same S510)
    have S310 : Same H3 H10 := k4.trans (k5.trans S510)
    refine ⟨_, rfl, Nat.zero_le _, fun pb hpb => ?_⟩
    have Sb := same_new (o := .lst []) hpb
    refine ⟨v, t, pb, rfl, WV.tp (tp_same Sb) _ hv10, ho, hd, by decide, SqL.of upd_same, fun p8 xs H8 hp8 hpn8 hl8 hads8 S8' => ?_⟩
    refine ⟨20, rfl, p8, xs, rfl, SqL.of hp8, fun p9 hp9 => ?_⟩
    have S9 : Same H10 (upd H8 p9 (.lst (cutV xs none (some 20)))) := Sb.trans (S8'.trans (same_new hp9))
    have hads9 : Ads K (upd H8 p9 (.lst (cutV xs none (some 20)))) xs t := Ads.tp (tp_same (same_new hp9)) hads8
    generalize hH9 : upd H8 p9 (.lst (cutV xs none (some 20))) = H9 at S9 hads9
    have hp99 : H9 p9 = some (.lst (cutV xs none (some 20))) := by rw [← hH9]; exact upd_same
    have hmem : ∀ x ∈ cutV xs none (some 20), x ∈ xs := fun x hx => List.mem_of_mem_drop (List.mem_of_mem_take hx)
    have hv9 := WV.tp (tp_same S9) _ hv10
    have hx19 := hx110.tp (tp_same S9)
    have hx29 := hx210.tp (tp_same S9)
    have S39 := S310.trans S9
    refine ⟨p9, rfl, ⟨_, SqL.of hp99⟩, for_list (xs := cutV xs none (some 20)) (fun i σ' H' => ∃ y6, σ' = [some (.ref a), some (.ref r), some (.int (0 + (i0 : Int))), some v, some x1, some x2, y6, none, none] ∧ Same H9 H') ?_ ?_ ?_ ?_⟩
    · exact ⟨y6, rfl, Same.refl H9⟩
    · rintro i σ' H' _ ⟨y6, rfl, S10⟩
      exact SqL.of (S10 _ _ hp99)
    · rintro i y σ' H' hxi ⟨y6, rfl, S10⟩
      obtain ⟨pa, as, rfl, hsa, hva⟩ := hads9 y (hmem y (List.mem_of_getElem? hxi))
      have hvx := WV.tp (tp_same S10) _ hv9
      have hsx := (tp_same S10).sq hsa
      have ox1 := hx19.tp (tp_same S10)
      have ox2 := hx29.tp (tp_same S10)
      cases e1 : t.fst with
      | none =>
        rw [e1] at ox1
        cases ox1
        refine ⟨_, rfl, rfl, false, congrArg (fun b => V.bl (!b)) (decide_eq_true rfl), ?_⟩
        cases e2 : t.lst with
        | none =>
          rw [e2] at ox2
          cases ox2
          exact ⟨_, rfl, rfl, false, congrArg (fun b => V.bl (!b)) (decide_eq_true rfl), _, rfl, S10⟩
        | some f2 =>
          rw [e2] at ox2
          obtain ⟨b2, rfl, s2⟩ := ox2
          refine ⟨_, rfl, rfl, true, congrArg (fun b => V.bl (!b)) (decide_eq_false (fun h => nomatch h)), ?_⟩
          exact ⟨_, rfl, _, rfl, _, rfl, v, t, b2, f2, pa, as, rfl, hvx, ho, s2, hsx, lst_vd f2 ho e2, hva, fun H12 k12 => ⟨false, congrArg V.bl (decide_eq_false (lst_max f2 as ho e2 hva)), _, rfl, S10.trans k12⟩⟩
      | some f1 =>
        rw [e1] at ox1
        obtain ⟨b1, rfl, s1⟩ := ox1
        refine ⟨_, rfl, rfl, true, congrArg (fun b => V.bl (!b)) (decide_eq_false (fun h => nomatch h)), ?_⟩
        refine ⟨_, rfl, _, rfl, _, rfl, v, t, pa, as, b1, f1, rfl, hvx, ho, hsx, s1, hva, fst_vd f1 e1, fun H11 k11 => ⟨false, congrArg V.bl (decide_eq_false (fst_min f1 as ho e1 hva)), ?_⟩⟩
        cases e2 : t.lst with
        | none =>
          rw [e2] at ox2
          cases ox2
          exact ⟨_, rfl, rfl, false, congrArg (fun b => V.bl (!b)) (decide_eq_true rfl), _, rfl, S10.trans k11⟩
        | some f2 =>
          rw [e2] at ox2
          obtain ⟨b2, rfl, s2⟩ := ox2
          refine ⟨_, rfl, rfl, true, congrArg (fun b => V.bl (!b)) (decide_eq_false (fun h => nomatch h)), ?_⟩
          have t11 := tp_same k11
          exact ⟨_, rfl, _, rfl, _, rfl, v, t, b2, f2, pa, as, rfl, WV.tp t11 _ hvx, ho, t11.sq s2, t11.sq hsx, lst_vd f2 ho e2, hva, fun H12 k12 => ⟨false, congrArg V.bl (decide_eq_false (lst_max f2 as ho e2 hva)), _, rfl, S10.trans (k11.trans k12)⟩⟩
    · rintro σ' H' ⟨y6, rfl, S10⟩
      have S3' := S39.trans S10
      exact ⟨_, _, _, _, _, rfl, g3.of (fun o h => S3' _ _ h) (fun o h => S3' _ _ h)⟩
  · rintro σ' H2 ⟨y2, y3, y4, y5, y6, rfl, g2⟩
    refine ⟨(by show 2 ≤ sizeLine; decide), fun p1 h1 => ⟨(by show 2 ≤ sizeLine; decide), fun p2 h2 => ?_⟩⟩
    have w1 : WV K (upd (upd H2 p1 (.tup [.str "letter", .str "a"])) p2 (.tup [.str "left", .ref p1])) (.ref p2) laL := wv_left (SqT.of upd_same) (wv_ltr ((tp_new h2).sq (SqT.of upd_same)))
    refine ⟨_, laL, rfl, w1, laL_ok.1, laL_ok.2, by decide, fun z1 H3 hz1 k3 => ?_⟩
    refine ⟨(by show 2 ≤ sizeLine; decide), fun p3 h3 => ⟨(by show 2 ≤ sizeLine; decide), fun p4 h4 => ?_⟩⟩
    have S4 := (same_new (o := .tup [.str "letter", .str "a"]) h3).trans (same_new (o := .tup [.str "left", .ref p3]) h4)
    have w2 : WV K (upd (upd H3 p3 (.tup [.str "letter", .str "a"])) p4 (.tup [.str "left", .ref p3])) (.ref p4) laL := wv_left (SqT.of upd_same) (wv_ltr ((tp_new h4).sq (SqT.of upd_same)))
    refine ⟨_, laL, rfl, w2, laL_ok.1, laL_ok.2, by decide, fun z2 H5 hz2 k5 => ?_⟩
    refine ⟨_, .emp, rfl, wv_emp (hE _), emp_ok.1, emp_ok.2, by decide, fun z3 H6 hz3 k6 => ?_⟩
    refine ⟨(by show 3 ≤ sizeLine; decide), fun pl hpl => ?_⟩
    refine ⟨(by show 2 ≤ sizeLine; decide), fun p5 h5 => ⟨_, _, rfl, rfl, ⟨by decide, by decide, by decide⟩, (by show 3 ≤ sizeLine; decide), fun p6 h6 => ?_⟩⟩
    have hl6 := ((same_new (o := .tup [.str "letter", .str "b"]) h5).trans (same_new (o := .tup [.str "times", .ref p5, .int ((10 : Int) ^ (30 : Int).toNat)]) h6)) _ _ (upd_same (H := H6) (a := pl) (o := .lst [z1, z2, z3]))
    have S7 := (same_new (o := .lst [z1, z2, z3]) hpl).trans ((same_new (o := .tup [.str "letter", .str "b"]) h5).trans (same_new (o := .tup [.str "times", .ref p5, .int ((10 : Int) ^ (30 : Int).toNat)]) h6))
    have w3 : WV K (upd (upd (upd H6 pl (.lst [z1, z2, z3])) p5 (.tup [.str "letter", .str "b"])) p6 (.tup [.str "times", .ref p5, .int ((10 : Int) ^ (30 : Int).toNat)])) (.ref p6) tbW := wv_times (SqT.of upd_same) (wv_ltr ((tp_new h6).sq (SqT.of upd_same)))
    have tA := (tp_same (k5.trans k6)).trans (tp_same S7)
    have q1 := hz1.tp ((tp_same S4).trans tA)
    have q2 := hz2.tp ((tp_same k6).trans (tp_same S7))
    have q3 := hz3.tp (tp_same S7)
    generalize (upd (upd (upd H6 pl (.lst [z1, z2, z3])) p5 (.tup [.str "letter", .str "b"])) p6 (.tup [.str "times", .ref p5, .int ((10 : Int) ^ (30 : Int).toNat)])) = H7 at hl6 w3 q1 q2 q3
    refine ⟨_, rfl, _, rfl, _, tbW, rfl, w3, tbW_ok.1, tbW_ok.2, by decide, fun z4 H8 hz4 k8 => ?_⟩
    refine ⟨_, rfl, _, tbW, rfl, WV.tp (tp_same k8) _ w3, tbW_ok.1, tbW_ok.2, by decide, fun z5 H9 hz5 k9 => ?_⟩
    refine ⟨(by show 2 ≤ sizeLine; decide), fun p7 h7 => ?_⟩
    have S79 := (k8.trans k9).trans (same_new (o := .lst [z4, z5]) h7)
    refine ⟨pl, p7, [z1, z2, z3], [z4, z5], rfl, rfl, S79 _ _ hl6, upd_same, (by show 5 ≤ sizeLine; decide), fun p8 h8 => ?_⟩
    refine ⟨(by show 1 ≤ sizeLine; decide), fun p9 h9 => ⟨_, _, rfl, rfl, ⟨by decide, by decide, by decide⟩, _, _, rfl, rfl, (by show 1 ≤ sizeLine; decide), fun p10 h10 => ⟨(by show 1 ≤ sizeLine; decide), fun p11 h11 => ⟨(by show 5 ≤ sizeLine; decide), fun p12 h12 => ?_⟩⟩⟩⟩
    rw [laL_fst] at q1
    rw [laL_lst] at q2
    rw [emp_fst] at q3
    rw [tbW_lst] at hz4
    rw [tbW_fst] at hz5
    have Sx := (same_new (o := .tup [.int 0]) h9).trans ((same_new (o := .tup [.int ((10 : Int) ^ (30 : Int).toNat - 1)]) h10).trans ((same_new (o := .tup [.int 0]) h11).trans (same_new (o := .lst [.non, .ref p9, .non, .ref p10, .ref p11]) h12)))
    have Sy := (same_new (o := .lst ([z1, z2, z3] ++ [z4, z5])) h8).trans Sx
    have t7 := (tp_same S79).trans (tp_same Sy)
    have t9 := (tp_same (same_new (o := .lst [z4, z5]) h7)).trans (tp_same Sy)
    have t8 := (tp_same k9).trans t9
    refine ⟨_, _, .list [datO none, datO (some [0]), datO none, datO (some [(10 : Int) ^ (30 : Int).toNat - 1]), datO (some [0])], rfl,
      .lst (SqL.of (Sx _ _ upd_same)) (.cons (dp_oa (q1.tp t7)) (.cons (dp_oa (q2.tp t7)) (.cons (dp_oa (q3.tp t7)) (.cons (dp_oa (hz4.tp t8)) (.cons (dp_oa (hz5.tp t9)) .nil))))),
      .lst (SqL.of upd_same) (.cons .non (.cons (.tup (((tp_new h10).trans ((tp_new h11).trans (tp_new h12))).sq (SqT.of upd_same)) (dp_intsL [0])) (.cons .non (.cons (.tup (((tp_new h11).trans (tp_new h12)).sq (SqT.of upd_same)) (dp_intsL [(10 : Int) ^ (30 : Int).toNat - 1])) (.cons (.tup ((tp_new h12).sq (SqT.of upd_same)) (dp_intsL [0])) .nil))))),
      sm_list (by show 5 ≤ 1000; decide) (fun d hd => ?_), fun H' _ => q H'⟩
    simp only [List.mem_cons, List.not_mem_nil, or_false] at hd
    rcases hd with rfl | rfl | rfl | rfl | rfl
    · exact sm_oa fun f h => nomatch h
    · exact sm_oa fun f h => by cases h; decide
    · exact sm_oa fun f h => nomatch h
    · exact sm_oa fun f h => by cases h; show 1 ≤ 100; decide
    · exact sm_oa fun f h => by cases h; decide
end
end SW

set_option Elab.async false
set_option linter.all false
set_option maxRecDepth 100000
set_option maxHeartbeats 4000000
namespace SW
open PySem PySem.Spec PyProof.Rows L2
section
variable {P : Program} {w : World} {K : PySem.W.Frag} {mg : Str → Option Value} {base : Heap}
theorem fin {h : Heap} {fa : Addr} (_X : K.In h) (_G : h.Ns mainGlobals mg) (hmg : mg "law" = some (.ref fa))
    (bi : Bi mg)
    (hLETTERS : ∃ v, mg "LETTERS" = some v ∧ L2.RelV (.str "abc") v)
    (hMARKED : ∃ am, mg "MARKED" = some (.ref am) ∧ ∀ H, SqT K H am [.str "A", .str "B", .str "C"])
    (hEMPTY : ∃ ae, mg "EMPTY" = some (.ref ae) ∧ ∀ H, SqT K H ae [.str "empty"])
    (Dis_empty : Df K mg "is_empty" s_is_empty ["word"])
    (Dlength : Df K mg "length" s_length ["word"])
    (D_count : Df K mg "_count" s__count ["word", "letters"])
    (Dfirst_place : Df K mg "first_place" s_first_place ["word"])
    (Dlast_place : Df K mg "last_place" s_last_place ["word"])
    (D_longer : Df K mg "_longer" s__longer ["number", "address"])
    (D_law_draws : Df K mg "_law_draws" s__law_draws ["_law_script"])
    (D_law_draw : Df K mg "_law_draw" s__law_draw ["_law_rng", "_law_many"])
    (D_law_pick : Df K mg "_law_pick" s__law_pick ["_law_rng", "_law_things"])
    (D_law_great : Df K mg "_law_great" s__law_great ["_law_rng"])
    (D_law_same : Df K mg "_law_same" s__law_same ["_law_found", "_law_due"])
    (D_law_tree : Df K mg "_law_tree" s__law_tree ["_law_rng", "_law_kit", "_law_deep"])
    (D_law_word : Df K mg "_law_word" s__law_word ["_law_rng"])
    (D_law_parts : Df K mg "_law_parts" s__law_parts ["_law_tree_here"])
    (D_law_count : Df K mg "_law_count" s__law_count ["_law_tree_here", "_law_letters"])
    (D_law_places : Df K mg "_law_places" s__law_places ["_law_tree_here"])
    (D_law_spots : Df K mg "_law_spots" s__law_spots ["_law_tree_here", "_law_near", "_law_reach"])
    (D_law_ahead : Df K mg "_law_ahead" s__law_ahead ["_law_tree_here", "_law_one", "_law_other"])
    (D_law_wide : Df K mg "_law_wide" s__law_wide ["_law_rng"])
    (D_law_turned : Df K mg "_law_turned" s__law_turned ["_law_tree_here"])
    (D_law_first : Df K mg "_law_first" s__law_first ["_law_tree_here"])
    (D_law_last : Df K mg "_law_last" s__law_last ["_law_tree_here"])
    (Dlaw : Df K mg "law" s_law ["_law_script"])
    (hen : mg "enumerate" = none) :
    ∃ fd : FuncData, (∀ (s : Shared) (v : Value), BindsTo s fd ⟨[v], []⟩ [("_law_script", v)]) ∧ ∀ base : Heap, K.In base → base.Ns mainGlobals mg → FnOk P w K mg base CX0 31 fa fd ["_law_script"] (spLaw K) := by
  obtain ⟨_, mLETTERS, tk, rfl⟩ := hLETTERS
  obtain ⟨am, mMARKED, hM⟩ := hMARKED
  obtain ⟨ae, mEMPTY, hE⟩ := hEMPTY
  refine law_end Dlaw hmg (fun _ _ _ _ _ _ v => rfl) (fun base _ _ => ?_)
  have c_draw := ok_draw (P := P) (w := w) (base := base) D_law_draw bi
  have c_pick := ok_pick D_law_pick bi c_draw
  have c_great := ok_great D_law_great bi c_draw c_pick
  have c_tree := ok_tree D_law_tree bi c_draw c_pick 3
  have c_word := ok_word D_law_word bi c_draw c_tree
  have c_wide := ok_wide D_law_wide bi c_draw c_great c_word
  have c_same := ok_same (P := P) (w := w) (base := base) D_law_same bi 20
  have c_parts := ok_parts (P := P) (w := w) (base := base) D_law_parts bi
  have c_lcnt := ok_lcnt (P := P) (w := w) (base := base) D_law_count bi c_parts 12
  have c_places := ok_places D_law_places c_lcnt
  have c_draws := ok_draws (P := P) (w := w) (base := base) D_law_draws bi
  have c_tur := ok_turned (P := P) (w := w) (base := base) D_law_turned bi 12
  have c_spots := ok_spots (P := P) (w := w) (base := base) D_law_spots bi 6
  have c_ahead := ok_ahead (P := P) (w := w) (base := base) D_law_ahead bi
  have c_cnt := ok_cnt (P := P) (w := w) (base := base) D_count bi 12
  have c_len := ok_len Dlength c_cnt mLETTERS mMARKED hM
  have c_emp := ok_isemp Dis_empty c_len
  have c_longer := ok_longer (P := P) (w := w) (base := base) D_longer
  have c_first := ok_first Dfirst_place bi hen c_emp c_longer 12
  have c_last := ok_lastP Dlast_place bi hen c_emp c_longer 12
  have c_lfirst := ok_lfirst D_law_first bi c_places 12
  have c_llast := ok_llast D_law_last bi c_tur c_lfirst
  exact ok_law Dlaw bi mEMPTY hE c_draws c_wide c_same c_lfirst c_llast c_first c_last Dlast_place c_spots c_ahead
end
end SW
open PySem PySem.W PyProof.Rows
set_option maxRecDepth 100000 in
set_option maxHeartbeats 0 in
theorem PySem.Challenge.cw_scatterwords_k11_first_and_last_places_holds : PySem.Challenge.rw_scatterwords_k11_first_and_last_places.Holds := by
  w_on; o_law; k_head; (case hw => w_witness2)
  k_fill
  refine SW.walk (l := PySem.Challenge.rw_scatterwords_k11_first_and_last_places) (k := 31) ⟨rfl, by decide, by decide⟩ rfl rfl (fun w h Y => PySem.W.kIn_of Y) ?F
  case F =>
    intro w mg fa h KX G hmg
    refine' SW.fin KX G hmg ?bi ?hLETTERS ?hMARKED ?hEMPTY ?Dis_empty ?Dlength ?D_count ?Dfirst_place ?Dlast_place ?D_longer ?D_law_draws ?D_law_draw ?D_law_pick ?D_law_great ?D_law_same ?D_law_tree ?D_law_word ?D_law_parts ?D_law_count ?D_law_places ?D_law_spots ?D_law_ahead ?D_law_wide ?D_law_turned ?D_law_first ?D_law_last ?Dlaw ?hen
    case bi =>
      refine' ⟨PySem.W.mg_none_of KX G ?b0, PySem.W.mg_none_of KX G ?b1, PySem.W.mg_none_of KX G ?b2, PySem.W.mg_none_of KX G ?b3, PySem.W.mg_none_of KX G ?b4, PySem.W.mg_none_of KX G ?b5, PySem.W.mg_none_of KX G ?b6, PySem.W.mg_none_of KX G ?b7, PySem.W.mg_none_of KX G ?b8, PySem.W.mg_none_of KX G ?b9, PySem.W.mg_none_of KX G ?b10, PySem.W.mg_none_of KX G ?b11, PySem.W.mg_none_of KX G ?b12, PySem.W.mg_none_of KX G ?b13, PySem.W.mg_none_of KX G ?b14, PySem.W.mg_none_of KX G ?b15, PySem.W.mg_none_of KX G ?b16, PySem.W.mg_none_of KX G ?b17, PySem.W.mg_none_of KX G ?b18⟩
      (case b0 => k_is)
      (case b1 => k_is)
      (case b2 => k_is)
      (case b3 => k_is)
      (case b4 => k_is)
      (case b5 => k_is)
      (case b6 => k_is)
      (case b7 => k_is)
      (case b8 => k_is)
      (case b9 => k_is)
      (case b10 => k_is)
      (case b11 => k_is)
      (case b12 => k_is)
      (case b13 => k_is)
      (case b14 => k_is)
      (case b15 => k_is)
      (case b16 => k_is)
      (case b17 => k_is)
      (case b18 => k_is)
    case hLETTERS =>
      refine' ⟨_, PySem.W.mg_of KX G ?a, ?e⟩
      (case a => k_is); (case e => exact ⟨_, rfl⟩)
    case hMARKED =>
      refine' ⟨_, PySem.W.mg_of KX G ?a, SW.sqt_mk ?l ?c ?d ?s ?r⟩
      (case a => k_is); (case l => k_is); (case c => rfl); (case d => rfl); (case s => decide)
      (case r => exact .cons (SW.relstr (by decide +kernel)) (.cons (SW.relstr (by decide +kernel)) (.cons (SW.relstr (by decide +kernel)) .nil)))
    case hEMPTY =>
      refine' ⟨_, PySem.W.mg_of KX G ?a, SW.sqt_mk ?l ?c ?d ?s ?r⟩
      (case a => k_is); (case l => k_is); (case c => rfl); (case d => rfl); (case s => decide)
      (case r => exact .cons (SW.relstr (by decide +kernel)) .nil)
    case Dis_empty =>
      refine' SW.df_mk KX G ?a ?l ?c ?k (fun _ _ _ _ _ _ us hl => match us, hl with | [_], _ => rfl)
      (case a => k_is); (case l => k_is); (case c => k_is); (case k => k_is)
    case Dlength =>
      refine' SW.df_mk KX G ?a ?l ?c ?k (fun _ _ _ _ _ _ us hl => match us, hl with | [_], _ => rfl)
      (case a => k_is); (case l => k_is); (case c => k_is); (case k => k_is)
    case D_count =>
      refine' SW.df_mk KX G ?a ?l ?c ?k (fun _ _ _ _ _ _ us hl => match us, hl with | [_, _], _ => rfl)
      (case a => k_is); (case l => k_is); (case c => k_is); (case k => k_is)
    case Dfirst_place =>
      refine' SW.df_mk KX G ?a ?l ?c ?k (fun _ _ _ _ _ _ us hl => match us, hl with | [_], _ => rfl)
      (case a => k_is); (case l => k_is); (case c => k_is); (case k => k_is)
    case Dlast_place =>
      refine' SW.df_mk KX G ?a ?l ?c ?k (fun _ _ _ _ _ _ us hl => match us, hl with | [_], _ => rfl)
      (case a => k_is); (case l => k_is); (case c => k_is); (case k => k_is)
    case D_longer =>
      refine' SW.df_mk KX G ?a ?l ?c ?k (fun _ _ _ _ _ _ us hl => match us, hl with | [_, _], _ => rfl)
      (case a => k_is); (case l => k_is); (case c => k_is); (case k => k_is)
    case D_law_draws =>
      refine' SW.df_mk KX G ?a ?l ?c ?k (fun _ _ _ _ _ _ us hl => match us, hl with | [_], _ => rfl)
      (case a => k_is); (case l => k_is); (case c => k_is); (case k => k_is)
    case D_law_draw =>
      refine' SW.df_mk KX G ?a ?l ?c ?k (fun _ _ _ _ _ _ us hl => match us, hl with | [_, _], _ => rfl)
      (case a => k_is); (case l => k_is); (case c => k_is); (case k => k_is)
    case D_law_pick =>
      refine' SW.df_mk KX G ?a ?l ?c ?k (fun _ _ _ _ _ _ us hl => match us, hl with | [_, _], _ => rfl)
      (case a => k_is); (case l => k_is); (case c => k_is); (case k => k_is)
    case D_law_great =>
      refine' SW.df_mk KX G ?a ?l ?c ?k (fun _ _ _ _ _ _ us hl => match us, hl with | [_], _ => rfl)
      (case a => k_is); (case l => k_is); (case c => k_is); (case k => k_is)
    case D_law_same =>
      refine' SW.df_mk KX G ?a ?l ?c ?k (fun _ _ _ _ _ _ us hl => match us, hl with | [_, _], _ => rfl)
      (case a => k_is); (case l => k_is); (case c => k_is); (case k => k_is)
    case D_law_tree =>
      refine' SW.df_mk KX G ?a ?l ?c ?k (fun _ _ _ _ _ _ us hl => match us, hl with | [_, _, _], _ => rfl)
      (case a => k_is); (case l => k_is); (case c => k_is); (case k => k_is)
    case D_law_word =>
      refine' SW.df_mk KX G ?a ?l ?c ?k (fun _ _ _ _ _ _ us hl => match us, hl with | [_], _ => rfl)
      (case a => k_is); (case l => k_is); (case c => k_is); (case k => k_is)
    case D_law_parts =>
      refine' SW.df_mk KX G ?a ?l ?c ?k (fun _ _ _ _ _ _ us hl => match us, hl with | [_], _ => rfl)
      (case a => k_is); (case l => k_is); (case c => k_is); (case k => k_is)
    case D_law_count =>
      refine' SW.df_mk KX G ?a ?l ?c ?k (fun _ _ _ _ _ _ us hl => match us, hl with | [_, _], _ => rfl)
      (case a => k_is); (case l => k_is); (case c => k_is); (case k => k_is)
    case D_law_places =>
      refine' SW.df_mk KX G ?a ?l ?c ?k (fun _ _ _ _ _ _ us hl => match us, hl with | [_], _ => rfl)
      (case a => k_is); (case l => k_is); (case c => k_is); (case k => k_is)
    case D_law_spots =>
      refine' SW.df_mk KX G ?a ?l ?c ?k (fun _ _ _ _ _ _ us hl => match us, hl with | [_, _, _], _ => rfl)
      (case a => k_is); (case l => k_is); (case c => k_is); (case k => k_is)
    case D_law_ahead =>
      refine' SW.df_mk KX G ?a ?l ?c ?k (fun _ _ _ _ _ _ us hl => match us, hl with | [_, _, _], _ => rfl)
      (case a => k_is); (case l => k_is); (case c => k_is); (case k => k_is)
    case D_law_wide =>
      refine' SW.df_mk KX G ?a ?l ?c ?k (fun _ _ _ _ _ _ us hl => match us, hl with | [_], _ => rfl)
      (case a => k_is); (case l => k_is); (case c => k_is); (case k => k_is)
    case D_law_turned =>
      refine' SW.df_mk KX G ?a ?l ?c ?k (fun _ _ _ _ _ _ us hl => match us, hl with | [_], _ => rfl)
      (case a => k_is); (case l => k_is); (case c => k_is); (case k => k_is)
    case D_law_first =>
      refine' SW.df_mk KX G ?a ?l ?c ?k (fun _ _ _ _ _ _ us hl => match us, hl with | [_], _ => rfl)
      (case a => k_is); (case l => k_is); (case c => k_is); (case k => k_is)
    case D_law_last =>
      refine' SW.df_mk KX G ?a ?l ?c ?k (fun _ _ _ _ _ _ us hl => match us, hl with | [_], _ => rfl)
      (case a => k_is); (case l => k_is); (case c => k_is); (case k => k_is)
    case Dlaw =>
      refine' SW.df_mk KX G ?a ?l ?c ?k (fun _ _ _ _ _ _ us hl => match us, hl with | [_], _ => rfl)
      (case a => k_is); (case l => k_is); (case c => k_is); (case k => k_is)
    case hen =>
      refine' PySem.W.mg_none_of KX G ?b
      (case b => k_is)
