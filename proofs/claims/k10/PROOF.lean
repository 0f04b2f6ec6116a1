import PyProof.Rows.All
import Wide.All
import OpenK.AllK
import Wide.FinOn
import HandS.ForMost
import HandS.IsInst
import HandS.Zip
import HandS.Wide
import HandS.Star
import HandS.Codes
import HandS.Walk
import HandS.Rev
import HandS.More
import HandS.TupAny
import HandS.SortInts
import PyProof.LongRange
import KE.GoesEnum
import KE.DataMinMax
import HandS.Style
import PySem.Challenge.RW_scatterwords_k10_whole_words_cut
set_option Elab.async false
set_option linter.all false
set_option maxRecDepth 100000
set_option maxHeartbeats 4000000
namespace SW
open PySem PySem.Spec PyProof.Rows L2

/-- a def that stands in the module -/
structure Df (K : PySem.W.Frag) (mg : Str → Option Value) (x : Str) (st : Stmt) (ps : List Str) : Prop where
  ex : ∃ f fd, Fun K x x st f fd ∧ mg x = some (.ref f) ∧ Binds K fd ps []
/-- a def that keeps a promise and can be called by its name -/
structure Cal (P : Program) (w : World) (K : PySem.W.Frag) (mg : Str → Option Value) (base : Heap) (k : Nat) (x : Str) (ps : List Str) (sp : Sp) : Prop where
  ex : ∃ f fd, FnOk P w K mg base CX0 k f fd ps sp ∧ mg x = some (.ref f) ∧ PySem.W.keepIn K (.ref f) = true ∧ Binds K fd ps [] ∧ ∃ oc od osl, K.lookup f = some ⟨oc, od, .func fd, osl⟩
/-- the built-in names that are not bound in the module -/
structure Bi (mg : Str → Option Value) : Prop where
  len : mg "len" = none
  int : mg "int" = none
  list : mg "list" = none
  tuple : mg "tuple" = none
  isinstance : mg "isinstance" = none
  zip : mg "zip" = none
  all : mg "all" = none
  sum : mg "sum" = none
  range : mg "range" = none
  str : mg "str" = none
  bool : mg "bool" = none
  reversed : mg "reversed" = none
  max : mg "max" = none
  sorted : mg "sorted" = none
  ord : mg "ord" = none
  min : mg "min" = none
  any : mg "any" = none
  dict : mg "dict" = none
  set : mg "set" = none
section
variable {P : Program} {w : World} {K : PySem.W.Frag} {mg : Str → Option Value} {base : Heap}
theorem Cal.imp {k : Nat} {x : Str} {ps : List Str} {sp sp' : Sp} (c : Cal P w K mg base k x ps sp) (h : ∀ vs H Q E, sp' vs H Q E → sp vs H Q E) : Cal P w K mg base k x ps sp' := by
  obtain ⟨f, fd, F, a, b, d⟩ := c.ex
  exact ⟨f, fd, F.imp h, a, b, d⟩
theorem Cal.mono {j k : Nat} {x : Str} {ps : List Str} {sp : Sp} (c : Cal P w K mg base j x ps sp) (h : j ≤ k) : Cal P w K mg base k x ps sp := by
  obtain ⟨f, fd, F, a, b, d⟩ := c.ex
  exact ⟨f, fd, F.mono h, a, b, d⟩
theorem Df.ok {x : Str} {st : Stmt} {N ps : List Str} {k : Nat} {sp : Sp} (D : Df K mg x st ps) (S : FnScope N ps (defScope st)) (len : ∀ vs H Q E, sp vs H Q E → vs.length = ps.length)
    (hbody : ∀ (f : Addr) (cdv : Value) (A : Around) (outer : List Env) (s : Shared) (H : Hp) (vs : List V) (Q : VK) (E : XK), Room k (A.deeper (envOfC x (defScope st) s.heap.objs.size f cdv)) → sp vs H Q E →
      ∃ t, PSs (cxOf CX0 P w K mg base N x (defScope st) f cdv A outer s H E).nox (defBody st) t ∧ t { nx := fun _ H' => Q .non H', rt := Q } (start N vs) H) : Cal P w K mg base (k + 1) x ps sp := by
  obtain ⟨f, fd, F, m, b⟩ := D.ex
  obtain ⟨oc, od, kV, doc, pm, an, cdv, ct, osl, _, lk, _⟩ := F.ex
  exact ⟨f, fd, F.ok S len fun cdv A outer s H vs Q E hr h => hbody f cdv A outer s H vs Q E hr h, m, F.kp, b, oc, od, osl, lk⟩
/-- a promise that asks what cannot be is kept by every def -/
theorem Df.no {x : Str} {st : Stmt} {ps : List Str} {k : Nat} {sp : Sp} (D : Df K mg x st ps) (h : ∀ vs H Q E, ¬ sp vs H Q E) : Cal P w K mg base k x ps sp := by
  obtain ⟨f, fd, F, m, b⟩ := D.ex
  obtain ⟨oc, od, kV, doc, pm, an, cdv, ct, osl, _, lk, _⟩ := F.ex
  exact ⟨f, fd, ⟨fun vs H Q E q => absurd q (h vs H Q E), fun A outer s H args us vs Q E _ _ _ _ q => absurd q (h vs H Q E)⟩, m, F.kp, b, oc, od, osl, lk⟩
end
section
variable {X : Cx} {k j : Nat} {x : Str} {ps : List Str} {sp : Sp} {p pos : Pos} {e : Expr} {es : List Expr} {t : TA}
theorem pe_own (c : Cal X.prog X.w X.K X.mg X.base k x ps sp) (hr : Room j X.A) (hk : k ≤ j) (hg : Gl X x) (ha : PA X (e :: es) t) (hdb : (x == ("__debug__" : Str)) = false := by decide)
    (he : starEach (e :: es) X.env = (false, eval e X.env) :: starEach es X.env := by rfl) (hpl : (backTo pos (starEach es X.env)).any (·.1) = false := by rfl) :
    PE X (.Call (.Name x p) (e :: es) [] pos) (tCall sp [] E0 t) := by
  obtain ⟨f, fd, F, hm, hK, hb, _⟩ := c.ex
  exact pe_call F (hr.mono hk) hg hm hK hb .nil pass0 ha hdb he hpl
end
section
variable {X : Cx} {k j : Nat} {x : Str} {ps ks : List Str} {sp : Sp} {p pos : Pos} {kws : List Keyword} {tk : TA} {st : Stmt} {g : List Value → List Value → List Value} {gV : List V → List V → List V} {e : Expr} {es : List Expr} {t : TA}
theorem kbinds {K : PySem.W.Frag} {mg : Str → Option Value} {f : Addr} {fd : FuncData} (D : Df K mg x st ps) (hm : mg x = some (.ref f)) (hl : ∃ oc od osl, K.lookup f = some ⟨oc, od, .func fd, osl⟩)
    (hb : ∀ (kV doc pm : Value) (an : Option Addr) (cdv ct : Value) (us ws : List Value), (g us ws).length = ps.length → bindArgs (PySem.W.fnOf x x (defArgs st) (defBody st) (defScope st) .none kV doc pm an cdv ct) ⟨us, ks.zip ws⟩ = pure (ps.zip (g us ws)))
    (hrel : ∀ {vs : List V} {us : List Value} {zs : List V} {ws : List Value}, Vals vs us → Vals zs ws → Vals (gV vs zs) (g us ws)) : KBinds K fd ps ks g gV := by
  obtain ⟨f', fd', F, m, b⟩ := D.ex
  have e : f' = f := by
    rw [hm] at m
    cases m
    rfl
  subst e
  obtain ⟨oc, od, kV, doc, pm, an, cdv, ct, osl, rfl, lk, _⟩ := F.ex
  obtain ⟨oc', od', osl', lk'⟩ := hl
  rw [lk] at lk'
  cases lk'
  exact ⟨fun s us ws _ hlen => .of_eq (hb kV doc pm an cdv ct us ws hlen), hrel⟩
/-- a call with keywords alone -/
theorem pe_ownK0 (c : Cal X.prog X.w X.K X.mg X.base k x ps sp) (D : Df X.K X.mg x st ps) (hr : Room j X.A) (hk : k ≤ j) (hg : Gl X x)
    (hb : ∀ (kV doc pm : Value) (an : Option Addr) (cdv ct : Value) (us ws : List Value), (g us ws).length = ps.length → bindArgs (PySem.W.fnOf x x (defArgs st) (defBody st) (defScope st) .none kV doc pm an cdv ct) ⟨us, ks.zip ws⟩ = pure (ps.zip (g us ws)))
    (hrel : ∀ {vs : List V} {us : List Value} {zs : List V} {ws : List Value}, Vals vs us → Vals zs ws → Vals (gV vs zs) (g us ws)) (hkw : PK X kws tk) (hall : (backToKw pos (keywordEach kws X.env)).all (·.1.isSome) = true := by rfl) (hks : (backToKw pos (keywordEach kws X.env)).filterMap (·.1) = ks := by rfl)
    (hdb : (x == ("__debug__" : Str)) = false := by decide)
    (hpl : ((backTo pos (starEach [] X.env)).any (·.1) || (backToKw pos (keywordEach kws X.env)).any (·.1.isNone)) = false := by rfl) :
    PE X (.Call (.Name x p) [] kws pos) (tCallK sp gV E0 tNil tk) := by
  obtain ⟨f, fd, F, hm, hK, _, hl⟩ := c.ex
  have hb' : KBinds X.K fd ps ks g gV := kbinds D hm hl hb hrel
  refine ⟨fun pins s σ H Q I h => ?_⟩
  refine wpAny_Call_Name_kw (ld_glob I hg hm ?_ hdb)
  refine PySem.W.callWith_KW0 (h₀ := X.base) I.ok.mod.kin hK hall (thn (hkw.run pos pins s σ H _ I h) fun ws s2 ⟨zs, H2, I2, rz, q2⟩ => ⟨I2.kIn, ?_⟩) hpl
  rw [hks]
  exact run_fnk (F.mono hk) hr hb' pass0 I2 .nil rz q2
/-- a call with places and keywords -/
theorem pe_ownK (c : Cal X.prog X.w X.K X.mg X.base k x ps sp) (D : Df X.K X.mg x st ps) (hr : Room j X.A) (hk : k ≤ j) (hg : Gl X x)
    (hb : ∀ (kV doc pm : Value) (an : Option Addr) (cdv ct : Value) (us ws : List Value), (g us ws).length = ps.length → bindArgs (PySem.W.fnOf x x (defArgs st) (defBody st) (defScope st) .none kV doc pm an cdv ct) ⟨us, ks.zip ws⟩ = pure (ps.zip (g us ws)))
    (hrel : ∀ {vs : List V} {us : List Value} {zs : List V} {ws : List Value}, Vals vs us → Vals zs ws → Vals (gV vs zs) (g us ws)) (ha : PA X (e :: es) t) (hkw : PK X kws tk) (hall : (backToKw pos (keywordEach kws X.env)).all (·.1.isSome) = true := by rfl) (hks : (backToKw pos (keywordEach kws X.env)).filterMap (·.1) = ks := by rfl)
    (hdb : (x == ("__debug__" : Str)) = false := by decide) (he : starEach (e :: es) X.env = (false, eval e X.env) :: starEach es X.env := by rfl)
    (hpl : ((backTo pos (starEach (e :: es) X.env)).any (·.1) || (backToKw pos (keywordEach kws X.env)).any (·.1.isNone)) = false := by rfl) :
    PE X (.Call (.Name x p) (e :: es) kws pos) (tCallK sp gV E0 t tk) := by
  obtain ⟨f, fd, F, hm, hK, _, hl⟩ := c.ex
  exact pe_callK (F.mono hk) hr hg hm hK (kbinds D hm hl hb hrel) pass0 ha hkw hall hks hdb he hpl
end
/-! ### how keywords come to their places -/
def g1 {α : Type} : List α → List α → List α
  | [], [a] => [a]
  | _, _ => []
def g2 {α : Type} : List α → List α → List α
  | [], [a, b] => [a, b]
  | _, _ => []
def g2s {α : Type} : List α → List α → List α
  | [], [a, b] => [b, a]
  | _, _ => []
def g11 {α : Type} : List α → List α → List α
  | [a], [b] => [a, b]
  | _, _ => []
theorem g1_inv {α : Type} {us ws : List α} (h : (g1 us ws).length = 1) : ∃ a, us = [] ∧ ws = [a] := by
  unfold g1 at h
  split at h
  · exact ⟨_, rfl, rfl⟩
  · cases h
theorem g2_inv {α : Type} {us ws : List α} (h : (g2 us ws).length = 2) : ∃ a b, us = [] ∧ ws = [a, b] := by
  unfold g2 at h
  split at h
  · exact ⟨_, _, rfl, rfl⟩
  · cases h
theorem g2s_inv {α : Type} {us ws : List α} (h : (g2s us ws).length = 2) : ∃ a b, us = [] ∧ ws = [a, b] := by
  unfold g2s at h
  split at h
  · exact ⟨_, _, rfl, rfl⟩
  · cases h
theorem g11_inv {α : Type} {us ws : List α} (h : (g11 us ws).length = 2) : ∃ a b, us = [a] ∧ ws = [b] := by
  unfold g11 at h
  split at h
  · exact ⟨_, _, rfl, rfl⟩
  · cases h
theorem g1_rel {vs : List V} {us : List Value} {zs : List V} {ws : List Value} (a : Vals vs us) (b : Vals zs ws) : Vals (g1 vs zs) (g1 us ws) := by
  cases a <;> cases b <;> try exact .nil
  rename_i t
  cases t
  · exact .cons ‹_› .nil
  · exact .nil
theorem g2_rel {vs : List V} {us : List Value} {zs : List V} {ws : List Value} (a : Vals vs us) (b : Vals zs ws) : Vals (g2 vs zs) (g2 us ws) := by
  cases a with
  | cons r t => exact .nil
  | nil =>
    cases b with
    | nil => exact .nil
    | cons r t =>
      cases t with
      | nil => exact .nil
      | cons r2 t =>
        cases t with
        | nil => exact .cons r (.cons r2 .nil)
        | cons _ _ => exact .nil
theorem g2s_rel {vs : List V} {us : List Value} {zs : List V} {ws : List Value} (a : Vals vs us) (b : Vals zs ws) : Vals (g2s vs zs) (g2s us ws) := by
  cases a with
  | cons r t => exact .nil
  | nil =>
    cases b with
    | nil => exact .nil
    | cons r t =>
      cases t with
      | nil => exact .nil
      | cons r2 t =>
        cases t with
        | nil => exact .cons r2 (.cons r .nil)
        | cons _ _ => exact .nil
theorem g11_rel {vs : List V} {us : List Value} {zs : List V} {ws : List Value} (a : Vals vs us) (b : Vals zs ws) : Vals (g11 vs zs) (g11 us ws) := by
  cases a with
  | nil => exact .nil
  | cons r t =>
    cases t with
    | cons _ _ => exact .nil
    | nil =>
      cases b with
      | nil => exact .nil
      | cons r2 t2 =>
        cases t2 with
        | nil => exact .cons r (.cons r2 .nil)
        | cons _ _ => exact .nil
/-! ### heaps -/
/-- all that was tracked, but what stands at r, is as it was -/
def Kp (r : Addr) (H H' : Hp) : Prop := ∀ b o, b ≠ r → H b = some o → H' b = some o
theorem Kp.refl (r : Addr) (H : Hp) : Kp r H H := fun _ _ _ h => h
theorem Kp.trans {r : Addr} {H H1 H2 : Hp} (a : Kp r H H1) (b : Kp r H1 H2) : Kp r H H2 := fun c o n h => b c o n (a c o n h)
theorem Kp.new {r p : Addr} {H : Hp} {o : HO} (h : H p = none) : Kp r H (upd H p o) := fun b u _ e => by
  rw [upd_ne (ne_of_none e h)]
  exact e
theorem Kp.at {r : Addr} {H : Hp} {o : HO} : Kp r H (upd H r o) := fun b u n e => by
  rw [upd_ne n]
  exact e
theorem Kp.free {r p : Addr} {H H' : Hp} (a : Kp r H H') (n : p ≠ r) (h : H' p = none) : H p = none := by
  cases q : H p with
  | none => rfl
  | some o =>
    rw [a p o n q] at h
    cases h
/-- the generator's list at r, its script at l -/
def Rng (H : Hp) (r l : Addr) : Prop := ∃ (ns : List Int) (i d st c : Int), H r = some (.lst [.ref l, .int i, .int d, .int st, .int c]) ∧ H l = some (.lst (ns.map V.int)) ∧ 0 ≤ i ∧ l ≠ r
theorem Rng.new {H : Hp} {r l p : Addr} {o : HO} (g : Rng H r l) (h : H p = none) : Rng (upd H p o) r l := by
  obtain ⟨ns, i, d, st, c, h1, h2, h3, h4⟩ := g
  exact ⟨ns, i, d, st, c, by rw [upd_ne (ne_of_none h1 h)]; exact h1, by rw [upd_ne (ne_of_none h2 h)]; exact h2, h3, h4⟩
theorem Rng.kp {H H' : Hp} {r l : Addr} {x y z : V} (g : Rng H r l) (k : Kp r H H') {v : List V} (h : H' r = H r) : Rng H' r l := by
  obtain ⟨ns, i, d, st, c, h1, h2, h3, h4⟩ := g
  exact ⟨ns, i, d, st, c, h.trans h1, k _ _ h4 h2, h3, h4⟩
end SW

set_option Elab.async false
set_option linter.all false
set_option maxRecDepth 100000
set_option maxHeartbeats 4000000
namespace SW
open PySem PySem.Spec PyProof.Rows L2
/-! ### words as trees -/
inductive W where
  | emp
  | ltr (c : Str)
  | nam (c : Str)
  | join (ws : List W)
  | times (w : W) (n : Int)
  | right (w : W)
  | left (w : W)
mutual
def W.dat : W → PyData
  | .emp => .tuple [.str "empty"]
  | .ltr c => .tuple [.str "letter", .str c]
  | .nam c => .tuple [.str "name", .str c]
  | .join ws => .tuple [.str "join", .tuple (W.dats ws)]
  | .times w n => .tuple [.str "times", w.dat, .int n]
  | .right w => .tuple [.str "right", w.dat]
  | .left w => .tuple [.str "left", w.dat]
def W.dats : List W → List PyData
  | [] => []
  | w :: r => w.dat :: W.dats r
end
mutual
def W.dep : W → Nat
  | .emp => 1
  | .ltr _ => 1
  | .nam _ => 1
  | .join ws => W.deps ws + 1
  | .times w _ => w.dep + 1
  | .right w => w.dep + 1
  | .left w => w.dep + 1
def W.deps : List W → Nat
  | [] => 0
  | w :: r => max w.dep (W.deps r)
end
mutual
/-- letters among L, joins of at most three parts, numbers of copies up to 10 ** 30 -/
def W.Ok (L : List Str) : W → Prop
  | .emp => True
  | .ltr c => c ∈ L
  | .nam _ => False
  | .join ws => ws.length ≤ 16 ∧ W.Oks L ws
  | .times w n => 0 ≤ n ∧ n ≤ 1000000000000000000000000000000 ∧ w.Ok L
  | .right w => w.Ok L
  | .left w => w.Ok L
def W.Oks (L : List Str) : List W → Prop
  | [] => True
  | w :: r => w.Ok L ∧ W.Oks L r
end
mutual
/-- the same with joins of at most three parts, numbers of copies up to 10 ** 30 -/
def W.Ok3 (L : List Str) : W → Prop
  | .emp => True
  | .ltr c => c ∈ L
  | .nam _ => False
  | .join ws => ws.length ≤ 3 ∧ W.Oks3 L ws
  | .times w n => 0 ≤ n ∧ n ≤ 1000000000000000000000000000000 ∧ w.Ok3 L
  | .right w => w.Ok3 L
  | .left w => w.Ok3 L
def W.Oks3 (L : List Str) : List W → Prop
  | [] => True
  | w :: r => w.Ok3 L ∧ W.Oks3 L r
end
abbrev abc : List Str := ["a", "b", "c"]
abbrev abcABC : List Str := ["a", "b", "c", "A", "B", "C"]
def W.kind : W → Str
  | .emp => "empty"
  | .ltr _ => "letter"
  | .nam _ => "name"
  | .join _ => "join"
  | .times _ _ => "times"
  | .right _ => "right"
  | .left _ => "left"
theorem W.dep_pos (w : W) : 1 ≤ w.dep := by cases w <;> unfold W.dep <;> omega
theorem W.deps_mem : ∀ {ws : List W} {w : W}, w ∈ ws → w.dep ≤ W.deps ws
  | x :: r, w, h => by
    unfold W.deps
    rcases List.mem_cons.mp h with e | h
    · subst e
      exact Nat.le_max_left _ _
    · exact Nat.le_trans (W.deps_mem h) (Nat.le_max_right _ _)
theorem W.deps_le : ∀ {ws : List W} {n : Nat}, (∀ w ∈ ws, w.dep ≤ n) → W.deps ws ≤ n
  | [], n, _ => by
    unfold W.deps
    exact Nat.zero_le _
  | x :: r, n, h => by
    unfold W.deps
    exact Nat.max_le.mpr ⟨h x (List.mem_cons_self ..), W.deps_le fun w q => h w (List.mem_cons_of_mem _ q)⟩
theorem W.oks_mem {L : List Str} : ∀ {ws : List W} {w : W}, w ∈ ws → W.Oks L ws → w.Ok L
  | x :: r, w, h, o => by
    unfold W.Oks at o
    rcases List.mem_cons.mp h with e | h
    · subst e
      exact o.1
    · exact W.oks_mem h o.2
theorem W.oks_of {L : List Str} : ∀ {ws : List W}, (∀ w ∈ ws, w.Ok L) → W.Oks L ws
  | [], _ => by
    unfold W.Oks
    trivial
  | x :: r, h => by
    unfold W.Oks
    exact ⟨h x (List.mem_cons_self ..), W.oks_of fun w q => h w (List.mem_cons_of_mem _ q)⟩
theorem W.dats_map : ∀ ws : List W, W.dats ws = ws.map W.dat
  | [] => by
    unfold W.dats
    rfl
  | w :: r => by
    unfold W.dats
    rw [W.dats_map r]
    rfl
theorem W.oks_iff {L : List Str} {ws : List W} : W.Oks L ws ↔ ∀ w ∈ ws, w.Ok L := ⟨fun h w m => W.oks_mem m h, W.oks_of⟩
mutual
theorem W.Ok.mono {L M : List Str} (hs : ∀ c ∈ L, c ∈ M) : ∀ w : W, w.Ok L → w.Ok M
  | .emp, h => by unfold W.Ok; trivial
  | .ltr c, h => by unfold W.Ok at h ⊢; exact hs c h
  | .nam c, h => by unfold W.Ok at h; exact h.elim
  | .join ws, h => by unfold W.Ok at h ⊢; exact ⟨h.1, W.Oks.mono hs ws h.2⟩
  | .times w n, h => by unfold W.Ok at h ⊢; exact ⟨h.1, h.2.1, W.Ok.mono hs w h.2.2⟩
  | .right w, h => by unfold W.Ok at h ⊢; exact W.Ok.mono hs w h
  | .left w, h => by unfold W.Ok at h ⊢; exact W.Ok.mono hs w h
theorem W.Oks.mono {L M : List Str} (hs : ∀ c ∈ L, c ∈ M) : ∀ ws : List W, W.Oks L ws → W.Oks M ws
  | [], h => by unfold W.Oks; trivial
  | w :: r, h => by unfold W.Oks at h ⊢; exact ⟨W.Ok.mono hs w h.1, W.Oks.mono hs r h.2⟩
end
theorem W.oks3_of {L : List Str} : ∀ {ws : List W}, (∀ w ∈ ws, w.Ok3 L) → W.Oks3 L ws
  | [], _ => by
    unfold W.Oks3
    trivial
  | x :: r, h => by
    unfold W.Oks3
    exact ⟨h x (List.mem_cons_self ..), W.oks3_of fun w q => h w (List.mem_cons_of_mem _ q)⟩
theorem W.oks3_mem {L : List Str} : ∀ {ws : List W} {w : W}, w ∈ ws → W.Oks3 L ws → w.Ok3 L
  | x :: r, w, h, o => by
    unfold W.Oks3 at o
    rcases List.mem_cons.mp h with e | h
    · subst e
      exact o.1
    · exact W.oks3_mem h o.2
mutual
theorem W.Ok3.ok {L : List Str} : ∀ w : W, w.Ok3 L → w.Ok L
  | .emp, _ => by unfold W.Ok; trivial
  | .ltr c, h => by unfold W.Ok3 at h; unfold W.Ok; exact h
  | .nam c, h => by unfold W.Ok3 at h; exact h.elim
  | .join ws, h => by unfold W.Ok3 at h; unfold W.Ok; exact ⟨by omega, W.Oks3.ok ws h.2⟩
  | .times w n, h => by unfold W.Ok3 at h; unfold W.Ok; exact ⟨h.1, h.2.1, W.Ok3.ok w h.2.2⟩
  | .right w, h => by unfold W.Ok3 at h; unfold W.Ok; exact W.Ok3.ok w h
  | .left w, h => by unfold W.Ok3 at h; unfold W.Ok; exact W.Ok3.ok w h
theorem W.Oks3.ok {L : List Str} : ∀ ws : List W, W.Oks3 L ws → W.Oks L ws
  | [], _ => by unfold W.Oks; trivial
  | w :: r, h => by unfold W.Oks3 at h; unfold W.Oks; exact ⟨W.Ok3.ok w h.1, W.Oks3.ok r h.2⟩
end
theorem abc_sub : ∀ c ∈ abc, c ∈ abcABC := by
  intro c h
  simp only [abc, abcABC, List.mem_cons, List.not_mem_nil, or_false] at h ⊢
  rcases h with h | h | h <;> simp [h]
/-! ### how the heap bears them -/
abbrev WV (K : PySem.W.Frag) (H : Hp) (v : V) (w : W) : Prop := Dp K H v w.dat
abbrev WVs (K : PySem.W.Frag) (H : Hp) (vs : List V) (ws : List W) : Prop := DpAll K H vs (W.dats ws)
/-- every tuple stays -/
def Tp (H H' : Hp) : Prop := ∀ a xs, Rd H a (.tup xs) → Rd H' a (.tup xs)
theorem Tp.refl (H : Hp) : Tp H H := fun _ _ h => h
theorem Tp.trans {H H1 H2 : Hp} (a : Tp H H1) (b : Tp H1 H2) : Tp H H2 := fun x o h => b x o (a x o h)
theorem Tp.sq {K : PySem.W.Frag} {H H' : Hp} (t : Tp H H') {a : Addr} {xs : List V} (h : SqT K H a xs) : SqT K H' a xs := by
  rcases h with h | h
  · exact .inl (t _ _ h)
  · exact .inr h
theorem Kp.tp {r : Addr} {H H' : Hp} {z : List V} (k : Kp r H H') (h : H r = some (.lst z)) : Tp H H' := fun a xs q => by
  rcases q with q | ⟨o, q⟩
  · exact .inl (k _ _ (ne_of q h (by intro e; cases e)) q)
  · exact .inr ⟨o, k _ _ (ne_of q h (by intro e; cases e)) q⟩
theorem tp_new {p : Addr} {H : Hp} {o : HO} (h : H p = none) : Tp H (upd H p o) := fun a xs q => by
  rcases q with q | ⟨u, q⟩
  · exact .inl (by rw [upd_ne (ne_of_none q h)]; exact q)
  · exact .inr ⟨u, by rw [upd_ne (ne_of_none q h)]; exact q⟩
theorem tp_set {p : Addr} {H : Hp} {o : HO} {z : List V} (h : H p = some (.lst z)) : Tp H (upd H p o) := Kp.tp Kp.at h
theorem tp_same {H H' : Hp} (s : Same H H') : Tp H H' := fun a xs q => by
  rcases q with q | ⟨o, q⟩
  · exact .inl (s _ _ q)
  · exact .inr ⟨o, s _ _ q⟩
mutual
theorem WV.tp {K : PySem.W.Frag} {H H' : Hp} (t : Tp H H') : ∀ (w : W) {v : V}, WV K H v w → WV K H' v w
  | .emp, v, h => by
    unfold WV W.dat at *
    cases h with | tup s a => ?_
    refine .tup (t.sq s) ?_
    cases a with | cons a b => ?_
    cases a
    cases b
    exact .cons (.str _) .nil
  | .ltr c, v, h => by
    unfold WV W.dat at *
    cases h with | tup s a => ?_
    refine .tup (t.sq s) ?_
    cases a with | cons a b => ?_
    cases b with | cons b d => ?_
    cases a
    cases b
    cases d
    exact .cons (.str _) (.cons (.str _) .nil)
  | .nam c, v, h => by
    unfold WV W.dat at *
    cases h with | tup s a => ?_
    refine .tup (t.sq s) ?_
    cases a with | cons a b => ?_
    cases b with | cons b d => ?_
    cases a
    cases b
    cases d
    exact .cons (.str _) (.cons (.str _) .nil)
  | .join ws, v, h => by
    unfold WV W.dat at *
    cases h with | tup s a => ?_
    refine .tup (t.sq s) ?_
    cases a with | cons a b => ?_
    cases b with | cons b d => ?_
    cases a
    cases d
    cases b with | tup s2 b => ?_
    exact .cons (.str _) (.cons (.tup (t.sq s2) (WVs.tp t ws b)) .nil)
  | .times w n, v, h => by
    unfold WV W.dat at *
    cases h with | tup s a => ?_
    refine .tup (t.sq s) ?_
    cases a with | cons a b => ?_
    cases b with | cons b d => ?_
    cases d with | cons d e => ?_
    cases a
    cases d
    cases e
    exact .cons (.str _) (.cons (WV.tp t w b) (.cons (.int _) .nil))
  | .right w, v, h => by
    unfold WV W.dat at *
    cases h with | tup s a => ?_
    refine .tup (t.sq s) ?_
    cases a with | cons a b => ?_
    cases b with | cons b d => ?_
    cases a
    cases d
    exact .cons (.str _) (.cons (WV.tp t w b) .nil)
  | .left w, v, h => by
    unfold WV W.dat at *
    cases h with | tup s a => ?_
    refine .tup (t.sq s) ?_
    cases a with | cons a b => ?_
    cases b with | cons b d => ?_
    cases a
    cases d
    exact .cons (.str _) (.cons (WV.tp t w b) .nil)
theorem WVs.tp {K : PySem.W.Frag} {H H' : Hp} (t : Tp H H') : ∀ (ws : List W) {vs : List V}, WVs K H vs ws → WVs K H' vs ws
  | [], vs, h => by
    unfold WVs W.dats at *
    cases h
    exact .nil
  | w :: r, vs, h => by
    unfold WVs W.dats at *
    cases h with | cons a b => ?_
    exact .cons (WV.tp t w a) (WVs.tp t r b)
end
/-- what stands at a word's address -/
inductive WAt (K : PySem.W.Frag) (H : Hp) (v : V) : W → Prop where
  | emp {a : Addr} (e : v = .ref a) (s : SqT K H a [.str "empty"]) : WAt K H v .emp
  | ltr {a : Addr} {c : Str} (e : v = .ref a) (s : SqT K H a [.str "letter", .str c]) : WAt K H v (.ltr c)
  | nam {a : Addr} {c : Str} (e : v = .ref a) (s : SqT K H a [.str "name", .str c]) : WAt K H v (.nam c)
  | join {a b : Addr} {xs : List V} {ws : List W} (e : v = .ref a) (s : SqT K H a [.str "join", .ref b]) (s2 : SqT K H b xs) (h : WVs K H xs ws) : WAt K H v (.join ws)
  | times {a : Addr} {x : V} {w : W} {n : Int} (e : v = .ref a) (s : SqT K H a [.str "times", x, .int n]) (h : WV K H x w) : WAt K H v (.times w n)
  | right {a : Addr} {x : V} {w : W} (e : v = .ref a) (s : SqT K H a [.str "right", x]) (h : WV K H x w) : WAt K H v (.right w)
  | left {a : Addr} {x : V} {w : W} (e : v = .ref a) (s : SqT K H a [.str "left", x]) (h : WV K H x w) : WAt K H v (.left w)
theorem WV.at {K : PySem.W.Frag} {H : Hp} {v : V} : ∀ {w : W}, WV K H v w → WAt K H v w
  | .emp, h => by
    unfold WV W.dat at h
    cases h with | tup s a => ?_
    cases a with | cons a b => ?_
    cases a
    cases b
    exact .emp rfl s
  | .ltr c, h => by
    unfold WV W.dat at h
    cases h with | tup s a => ?_
    cases a with | cons a b => ?_
    cases b with | cons b d => ?_
    cases a
    cases b
    cases d
    exact .ltr rfl s
  | .nam c, h => by
    unfold WV W.dat at h
    cases h with | tup s a => ?_
    cases a with | cons a b => ?_
    cases b with | cons b d => ?_
    cases a
    cases b
    cases d
    exact .nam rfl s
  | .join ws, h => by
    unfold WV W.dat at h
    cases h with | tup s a => ?_
    cases a with | cons a b => ?_
    cases b with | cons b d => ?_
    cases a
    cases d
    cases b with | tup s2 b => ?_
    exact .join rfl s s2 b
  | .times w n, h => by
    unfold WV W.dat at h
    cases h with | tup s a => ?_
    cases a with | cons a b => ?_
    cases b with | cons b d => ?_
    cases d with | cons d e => ?_
    cases a
    cases d
    cases e
    exact .times rfl s b
  | .right w, h => by
    unfold WV W.dat at h
    cases h with | tup s a => ?_
    cases a with | cons a b => ?_
    cases b with | cons b d => ?_
    cases a
    cases d
    exact .right rfl s b
  | .left w, h => by
    unfold WV W.dat at h
    cases h with | tup s a => ?_
    cases a with | cons a b => ?_
    cases b with | cons b d => ?_
    cases a
    cases d
    exact .left rfl s b
section
variable {K : PySem.W.Frag} {H : Hp} {a b : Addr} {x : V} {w : W}
theorem wv_emp (s : SqT K H a [.str "empty"]) : WV K H (.ref a) .emp := by
  unfold WV W.dat
  exact .tup s (.cons (.str _) .nil)
theorem wv_ltr {c : Str} (s : SqT K H a [.str "letter", .str c]) : WV K H (.ref a) (.ltr c) := by
  unfold WV W.dat
  exact .tup s (.cons (.str _) (.cons (.str _) .nil))
theorem wv_nam {c : Str} (s : SqT K H a [.str "name", .str c]) : WV K H (.ref a) (.nam c) := by
  unfold WV W.dat
  exact .tup s (.cons (.str _) (.cons (.str _) .nil))
theorem wv_join {xs : List V} {ws : List W} (s : SqT K H a [.str "join", .ref b]) (s2 : SqT K H b xs) (h : WVs K H xs ws) : WV K H (.ref a) (.join ws) := by
  unfold WV W.dat
  exact .tup s (.cons (.str _) (.cons (.tup s2 h) .nil))
theorem wv_times {n : Int} (s : SqT K H a [.str "times", x, .int n]) (h : WV K H x w) : WV K H (.ref a) (.times w n) := by
  unfold WV W.dat
  exact .tup s (.cons (.str _) (.cons h (.cons (.int _) .nil)))
theorem wv_right (s : SqT K H a [.str "right", x]) (h : WV K H x w) : WV K H (.ref a) (.right w) := by
  unfold WV W.dat
  exact .tup s (.cons (.str _) (.cons h .nil))
theorem wv_left (s : SqT K H a [.str "left", x]) (h : WV K H x w) : WV K H (.ref a) (.left w) := by
  unfold WV W.dat
  exact .tup s (.cons (.str _) (.cons h .nil))
theorem wvs_nil : WVs K H [] [] := by
  unfold WVs W.dats
  exact .nil
theorem wvs_cons {xs : List V} {ws : List W} (h : WV K H x w) (t : WVs K H xs ws) : WVs K H (x :: xs) (w :: ws) := by
  unfold WVs W.dats
  exact .cons h t
end
theorem WVs.length {K : PySem.W.Frag} {H : Hp} : ∀ {ws : List W} {xs : List V}, WVs K H xs ws → xs.length = ws.length
  | [], xs, h => by
    unfold WVs W.dats at h
    cases h
    rfl
  | w :: r, xs, h => by
    unfold WVs W.dats at h
    cases h with | cons a b => ?_
    rw [List.length_cons, List.length_cons, WVs.length (ws := r) b]
theorem WVs.get {K : PySem.W.Frag} {H : Hp} : ∀ {ws : List W} {xs : List V} {i : Nat} {x : V}, WVs K H xs ws → xs[i]? = some x → ∃ w, ws[i]? = some w ∧ WV K H x w
  | [], xs, i, x, h, e => by
    unfold WVs W.dats at h
    cases h
    simp at e
  | w :: r, xs, 0, x, h, e => by
    unfold WVs W.dats at h
    cases h with | cons a b => ?_
    cases e
    exact ⟨w, rfl, a⟩
  | w :: r, xs, i + 1, x, h, e => by
    unfold WVs W.dats at h
    cases h with | cons a b => ?_
    exact WVs.get (ws := r) (i := i) b e
theorem WVs.app {K : PySem.W.Frag} {H : Hp} {x : V} {w : W} (q : WV K H x w) : ∀ {ws : List W} {xs : List V}, WVs K H xs ws → WVs K H (xs ++ [x]) (ws ++ [w])
  | [], xs, h => by
    unfold WVs W.dats at h
    cases h
    exact wvs_cons q wvs_nil
  | v :: r, xs, h => by
    unfold WVs W.dats at h
    cases h with | cons a b => ?_
    exact wvs_cons a (WVs.app q (ws := r) b)
/-! ### the two lists that a drawing of a tree changes -/
def Kp2 (r k : Addr) (H H' : Hp) : Prop := ∀ b o, b ≠ r → b ≠ k → H b = some o → H' b = some o
theorem Kp2.refl (r k : Addr) (H : Hp) : Kp2 r k H H := fun _ _ _ _ h => h
theorem Kp2.trans {r k : Addr} {H H1 H2 : Hp} (a : Kp2 r k H H1) (b : Kp2 r k H1 H2) : Kp2 r k H H2 := fun c o n m h => b c o n m (a c o n m h)
theorem Kp.two {r k : Addr} {H H' : Hp} (a : Kp r H H') : Kp2 r k H H' := fun c o n _ h => a c o n h
theorem Kp2.at {r k : Addr} {H : Hp} {o : HO} : Kp2 r k H (upd H k o) := fun b u _ n e => by
  rw [upd_ne n]
  exact e
theorem Kp2.tp {r k : Addr} {H H' : Hp} {z y : List V} (q : Kp2 r k H H') (h : H r = some (.lst z)) (g : H k = some (.lst y)) : Tp H H' := fun a xs p => by
  rcases p with p | ⟨o, p⟩
  · exact .inl (q _ _ (ne_of p h (by intro e; cases e)) (ne_of p g (by intro e; cases e)) p)
  · exact .inr ⟨o, q _ _ (ne_of p h (by intro e; cases e)) (ne_of p g (by intro e; cases e)) p⟩
theorem Kp2.fresh {r k : Addr} {H H' : Hp} {o : HO} (h : H k = none) (q : Kp2 r k (upd H k o) H') : Kp r H H' := fun b u n e =>
  q b u n (ne_of_none e h) (by rw [upd_ne (ne_of_none e h)]; exact e)
theorem Rng.lst {H : Hp} {r l : Addr} (g : Rng H r l) : ∃ z, H r = some (.lst z) := by
  obtain ⟨ns, i, d, st, c, h1, _⟩ := g
  exact ⟨_, h1⟩
theorem Rng.ne {H : Hp} {r l : Addr} (g : Rng H r l) : l ≠ r := by
  obtain ⟨ns, i, d, st, c, h1, h2, h3, h4⟩ := g
  exact h4
/-- the generator stays where neither of its lists is touched -/
theorem Rng.of {H H' : Hp} {r l : Addr} (g : Rng H r l) (a : ∀ o, H r = some o → H' r = some o) (b : ∀ o, H l = some o → H' l = some o) : Rng H' r l := by
  obtain ⟨ns, i, d, st, c, h1, h2, h3, h4⟩ := g
  exact ⟨ns, i, d, st, c, a _ h1, b _ h2, h3, h4⟩
theorem Rng.some_l {H : Hp} {r l : Addr} (g : Rng H r l) : ∃ z, H l = some (.lst z) := by
  obtain ⟨ns, i, d, st, c, h1, h2, h3, h4⟩ := g
  exact ⟨_, h2⟩
/-! ### comprehensions of one name without a test -/
theorem lcr {lo : Int} {n j : Nat} {te : TE} {σ : L2.St} {H1 : Hp} {D : Addr} {Qd : Hp → Prop} (Pv : Nat → Hp → Prop) (h0 : Pv 0 (upd H1 D (.lst [])))
    (hs : ∀ i H, i < n → Pv i H → te (σ.set j (some (.int (lo + i)))) H fun y H4 => ∃ acc, H4 D = some (.lst acc) ∧ acc.length < sizeLine ∧ Pv (i + 1) (upd H4 D (.lst (acc ++ [y])))) (hd : ∀ H, Pv n H → Qd H) :
    ∃ W : Nat → Nat → Hp → Prop, (∃ m, W 0 m (upd H1 D (.lst []))) ∧ ∀ i m H, W i m H →
      ((Itr lo n).stop i H ∧ Qd H) ∨ ((Itr lo n).go i H ∧ ∃ Nx : Hp → Prop, (∀ H', Nx H' → ∃ m', m' < m ∧ W (i + 1) m' H') ∧ ∀ x H', (Itr lo n).yld i H x H' → gName j x (wipe σ [j]) H' fun σ2 H2 => wipe σ2 [j] = wipe σ [j] ∧ tYes σ2 H2 fun b H3 =>
        if b = true then te σ2 H3 fun y H4 => ∃ acc, H4 D = some (.lst acc) ∧ acc.length < sizeLine ∧ Nx (upd H4 D (.lst (acc ++ [y]))) else Nx H3) := by
  refine lc_range Pv h0 (fun i H hi p => ?_) hd
  have e1 : wipe σ [j] = σ.set j none := rfl
  have e2 : (wipe σ [j]).set j (some (.int (lo + i))) = σ.set j (some (.int (lo + i))) := by rw [e1, List.set_set]
  unfold gName tYes
  rw [e2]
  dsimp only
  rw [if_pos rfl]
  refine ⟨?_, hs i H hi p⟩
  show (σ.set j (some (.int (lo + i)))).set j none = σ.set j none
  rw [List.set_set]
theorem lcl {K : PySem.W.Frag} {a : Addr} {xs : List V} {j : Nat} {te : TE} {σ : L2.St} {H1 : Hp} {D : Addr} {Qd : Hp → Prop} (Pv : Nat → Hp → Prop) (h0 : Pv 0 (upd H1 D (.lst []))) (hl : ∀ i H, i ≤ xs.length → Pv i H → SqL K H a xs)
    (hs : ∀ i x H, xs[i]? = some x → Pv i H → te (σ.set j (some x)) H fun y H4 => ∃ acc, H4 D = some (.lst acc) ∧ acc.length < sizeLine ∧ Pv (i + 1) (upd H4 D (.lst (acc ++ [y])))) (hd : ∀ H, Pv xs.length H → Qd H) :
    ∃ W : Nat → Nat → Hp → Prop, (∃ m, W 0 m (upd H1 D (.lst []))) ∧ ∀ i m H, W i m H →
      ((Itl K a).stop i H ∧ Qd H) ∨ ((Itl K a).go i H ∧ ∃ Nx : Hp → Prop, (∀ H', Nx H' → ∃ m', m' < m ∧ W (i + 1) m' H') ∧ ∀ x H', (Itl K a).yld i H x H' → gName j x (wipe σ [j]) H' fun σ2 H2 => wipe σ2 [j] = wipe σ [j] ∧ tYes σ2 H2 fun b H3 =>
        if b = true then te σ2 H3 fun y H4 => ∃ acc, H4 D = some (.lst acc) ∧ acc.length < sizeLine ∧ Nx (upd H4 D (.lst (acc ++ [y]))) else Nx H3) := by
  refine lc_list Pv h0 hl (fun i x H hi p => ?_) hd
  have e1 : wipe σ [j] = σ.set j none := rfl
  have e2 : (wipe σ [j]).set j (some x) = σ.set j (some x) := by rw [e1, List.set_set]
  unfold gName tYes
  rw [e2]
  dsimp only
  rw [if_pos rfl]
  refine ⟨?_, hs i x H hi p⟩
  show (σ.set j (some x)).set j none = σ.set j none
  rw [List.set_set]
theorem lct {K : PySem.W.Frag} {a : Addr} {xs : List V} {j : Nat} {te : TE} {σ : L2.St} {H1 : Hp} {D : Addr} {Qd : Hp → Prop} (Pv : Nat → Hp → Prop) (h0 : Pv 0 (upd H1 D (.lst []))) (hl : ∀ i H, i ≤ xs.length → Pv i H → SqT K H a xs)
    (hs : ∀ i x H, xs[i]? = some x → Pv i H → te (σ.set j (some x)) H fun y H4 => ∃ acc, H4 D = some (.lst acc) ∧ acc.length < sizeLine ∧ Pv (i + 1) (upd H4 D (.lst (acc ++ [y])))) (hd : ∀ H, Pv xs.length H → Qd H) :
    ∃ W : Nat → Nat → Hp → Prop, (∃ m, W 0 m (upd H1 D (.lst []))) ∧ ∀ i m H, W i m H →
      ((Itt K a).stop i H ∧ Qd H) ∨ ((Itt K a).go i H ∧ ∃ Nx : Hp → Prop, (∀ H', Nx H' → ∃ m', m' < m ∧ W (i + 1) m' H') ∧ ∀ x H', (Itt K a).yld i H x H' → gName j x (wipe σ [j]) H' fun σ2 H2 => wipe σ2 [j] = wipe σ [j] ∧ tYes σ2 H2 fun b H3 =>
        if b = true then te σ2 H3 fun y H4 => ∃ acc, H4 D = some (.lst acc) ∧ acc.length < sizeLine ∧ Nx (upd H4 D (.lst (acc ++ [y]))) else Nx H3) := by
  refine lc_tup Pv h0 hl (fun i x H hi p => ?_) hd
  have e1 : wipe σ [j] = σ.set j none := rfl
  have e2 : (wipe σ [j]).set j (some x) = σ.set j (some x) := by rw [e1, List.set_set]
  unfold gName tYes
  rw [e2]
  dsimp only
  rw [if_pos rfl]
  refine ⟨?_, hs i x H hi p⟩
  show (σ.set j (some x)).set j none = σ.set j none
  rw [List.set_set]
end SW

set_option Elab.async false
set_option linter.all false
set_option maxRecDepth 100000
set_option maxHeartbeats 4000000
namespace SW
open PySem PySem.Spec PyProof.Rows L2
/-! ### small data: at most n levels, at most 1000 items -/
def atomD : PyData → Prop
  | .none => True
  | .bool _ => True
  | .int _ => True
  | .str _ => True
  | _ => False
def Sm : Nat → PyData → Prop
  | _ + 1, .list ds => ds.length ≤ 1000 ∧ ∀ d, d ∈ ds → Sm ‹Nat› d
  | _ + 1, .tuple ds => ds.length ≤ 1000 ∧ ∀ d, d ∈ ds → Sm ‹Nat› d
  | _, .none => True
  | _, .bool _ => True
  | _, .int _ => True
  | _, .str _ => True
  | _, _ => False
theorem Sm.mono : ∀ {n m : Nat} {d : PyData}, Sm n d → n ≤ m → Sm m d
  | n, m, .none, _, _ => by cases m <;> (unfold Sm; trivial)
  | n, m, .bool _, _, _ => by cases m <;> (unfold Sm; trivial)
  | n, m, .int _, _, _ => by cases m <;> (unfold Sm; trivial)
  | n, m, .str _, _, _ => by cases m <;> (unfold Sm; trivial)
  | n + 1, m + 1, .list ds, h, l => by
    unfold Sm at h ⊢
    exact ⟨h.1, fun d q => (h.2 d q).mono (by omega)⟩
  | n + 1, m + 1, .tuple ds, h, l => by
    unfold Sm at h ⊢
    exact ⟨h.1, fun d q => (h.2 d q).mono (by omega)⟩
  | 0, m, .list ds, h, l => by unfold Sm at h; exact h.elim
  | 0, m, .tuple ds, h, l => by unfold Sm at h; exact h.elim
  | n + 1, 0, .list ds, h, l => by omega
  | n + 1, 0, .tuple ds, h, l => by omega
  | 0, m, .dict ds, h, l => by unfold Sm at h; exact h.elim
  | n + 1, m, .dict ds, h, l => by unfold Sm at h; exact h.elim
mutual
theorem W.sm {L : List Str} : ∀ w : W, w.Ok L → Sm (2 * w.dep) w.dat
  | .emp, h => by
    unfold W.dat W.dep
    show Sm 2 _
    unfold Sm
    refine ⟨by decide, fun d q => ?_⟩
    cases List.mem_singleton.mp q
    unfold Sm
    trivial
  | .ltr c, h => by
    unfold W.dat W.dep
    show Sm 2 _
    unfold Sm
    refine ⟨by show 2 ≤ 1000; decide, fun d q => ?_⟩
    simp only [List.mem_cons, List.not_mem_nil, or_false] at q
    rcases q with rfl | rfl <;> (unfold Sm; trivial)
  | .nam c, h => by
    unfold W.Ok at h
    exact h.elim
  | .join ws, h => by
    unfold W.Ok at h
    unfold W.dat W.dep
    show Sm (2 * W.deps ws + 1 + 1) _
    unfold Sm
    refine ⟨by show 2 ≤ 1000; decide, fun d q => ?_⟩
    simp only [List.mem_cons, List.not_mem_nil, or_false] at q
    rcases q with rfl | rfl
    · unfold Sm
      trivial
    · unfold Sm
      refine ⟨?_, fun d q => ?_⟩
      · rw [W.dats_map, List.length_map]
        omega
      · exact W.sms ws h.2 d q
  | .times w n, h => by
    unfold W.Ok at h
    unfold W.dat W.dep
    show Sm (2 * w.dep + 1 + 1) _
    unfold Sm
    refine ⟨by show 3 ≤ 1000; decide, fun d q => ?_⟩
    simp only [List.mem_cons, List.not_mem_nil, or_false] at q
    rcases q with rfl | rfl | rfl
    · unfold Sm
      trivial
    · exact (W.sm w h.2.2).mono (by omega)
    · unfold Sm
      trivial
  | .right w, h => by
    unfold W.Ok at h
    unfold W.dat W.dep
    show Sm (2 * w.dep + 1 + 1) _
    unfold Sm
    refine ⟨by show 2 ≤ 1000; decide, fun d q => ?_⟩
    simp only [List.mem_cons, List.not_mem_nil, or_false] at q
    rcases q with rfl | rfl
    · unfold Sm
      trivial
    · exact (W.sm w h).mono (by omega)
  | .left w, h => by
    unfold W.Ok at h
    unfold W.dat W.dep
    show Sm (2 * w.dep + 1 + 1) _
    unfold Sm
    refine ⟨by show 2 ≤ 1000; decide, fun d q => ?_⟩
    simp only [List.mem_cons, List.not_mem_nil, or_false] at q
    rcases q with rfl | rfl
    · unfold Sm
      trivial
    · exact (W.sm w h).mono (by omega)
theorem W.sms {L : List Str} : ∀ ws : List W, W.Oks L ws → ∀ d ∈ W.dats ws, Sm (2 * W.deps ws) d
  | [], h, d, q => by
    unfold W.dats at q
    exact (List.not_mem_nil q).elim
  | w :: r, h, d, q => by
    unfold W.Oks at h
    unfold W.dats at q
    unfold W.deps
    rcases List.mem_cons.mp q with rfl | q
    · exact (W.sm w h.1).mono (Nat.mul_le_mul_left 2 (Nat.le_max_left _ _))
    · exact (W.sms r h.2 d q).mono (Nat.mul_le_mul_left 2 (Nat.le_max_right _ _))
end
/-! ### what == asks of data -/
def strsOk (L : List Str) : Prop := ∀ c ∈ L, PyData.canLay0 (.str c) = true
theorem abc_ok : strsOk abcABC := by
  intro c h
  simp only [abcABC, List.mem_cons, List.not_mem_nil, or_false] at h
  rcases h with rfl | rfl | rfl | rfl | rfl | rfl <;> decide +kernel
mutual
theorem W.lay {L : List Str} (hL : strsOk L) : ∀ w : W, w.Ok L → w.dat.canLay0 = true
  | .emp, h => by
    unfold W.dat
    decide +kernel
  | .ltr c, h => by
    unfold W.Ok at h
    unfold W.dat
    have a := hL c h
    simp only [PyData.canLay0, PyData.canLayAll0, Bool.and_true] at a ⊢
    rw [a]
    decide +kernel
  | .nam c, h => by
    unfold W.Ok at h
    exact h.elim
  | .join ws, h => by
    unfold W.Ok at h
    unfold W.dat
    have a := W.lays hL ws h.2
    simp only [PyData.canLay0, PyData.canLayAll0, Bool.and_true]
    rw [a]
    decide +kernel
  | .times w n, h => by
    unfold W.Ok at h
    unfold W.dat
    have a := W.lay hL w h.2.2
    simp only [PyData.canLay0, PyData.canLayAll0, Bool.and_true]
    rw [a]
    decide +kernel
  | .right w, h => by
    unfold W.Ok at h
    unfold W.dat
    have a := W.lay hL w h
    simp only [PyData.canLay0, PyData.canLayAll0, Bool.and_true]
    rw [a]
    decide +kernel
  | .left w, h => by
    unfold W.Ok at h
    unfold W.dat
    have a := W.lay hL w h
    simp only [PyData.canLay0, PyData.canLayAll0, Bool.and_true]
    rw [a]
    decide +kernel
theorem W.lays {L : List Str} (hL : strsOk L) : ∀ ws : List W, W.Oks L ws → PyData.canLayAll0 (W.dats ws) = true
  | [], h => by
    unfold W.dats
    rfl
  | w :: r, h => by
    unfold W.Oks at h
    unfold W.dats
    simp only [PyData.canLayAll0]
    rw [W.lay hL w h.1, W.lays hL r h.2]
    rfl
end
mutual
theorem Sm.depth : ∀ (n : Nat) (d : PyData), Sm n d → d.depth ≤ n + 1
  | n, .none, _ => by simp [PyData.depth]
  | n, .bool _, _ => by simp [PyData.depth]
  | n, .int _, _ => by simp [PyData.depth]
  | n, .str _, _ => by simp [PyData.depth]
  | 0, .list ds, h => by unfold Sm at h; exact h.elim
  | 0, .tuple ds, h => by unfold Sm at h; exact h.elim
  | 0, .dict ds, h => by unfold Sm at h; exact h.elim
  | n + 1, .dict ds, h => by unfold Sm at h; exact h.elim
  | n + 1, .list ds, h => by
    unfold Sm at h
    have := Sm.depths n ds h.2
    unfold PyData.depth
    omega
  | n + 1, .tuple ds, h => by
    unfold Sm at h
    have := Sm.depths n ds h.2
    unfold PyData.depth
    omega
theorem Sm.depths : ∀ (n : Nat) (ds : List PyData), (∀ d ∈ ds, Sm n d) → PyData.depthAll ds ≤ n + 1
  | n, [], _ => by simp [PyData.depthAll]
  | n, d :: r, h => by
    have a := Sm.depth n d (h d (List.mem_cons_self ..))
    have b := Sm.depths n r fun x q => h x (List.mem_cons_of_mem _ q)
    unfold PyData.depthAll
    omega
end
end SW

set_option Elab.async false
set_option linter.all false
set_option maxRecDepth 100000
set_option maxHeartbeats 4000000
namespace SW
open PySem PySem.Spec PyProof.Rows L2
theorem W.shaped {L : List Str} (hL : strsOk L) {w : W} (h : w.Ok L) (hd : w.dep ≤ 30) : SeqAt.shaped w.dat = true := by
  unfold SeqAt.shaped
  rw [W.lay hL w h, decide_eq_true (p := w.dat.depth ≤ 64) (Nat.le_trans (Sm.depth _ _ (W.sm w h)) (by omega))]
  rfl
theorem W.eqv_refl {L : List Str} (hL : strsOk L) {w : W} (h : w.Ok L) : PyData.eqv w.dat w.dat = true := PySem.SeqAt.eqv_refl _ (W.lay hL w h)
/-! ### types of data -/
def tyN : PyData → String
  | .none => "NoneType"
  | .bool _ => "bool"
  | .int _ => "int"
  | .str _ => "str"
  | .list _ => "list"
  | .tuple _ => "tuple"
  | .dict _ => "dict"
theorem SqL.ty {K : PySem.W.Frag} {H : Hp} {a : Addr} {xs : List V} (h : SqL K H a xs) : TyX K H (.ref a) (.type "list") := by
  rcases h with (h | ⟨o, h⟩) | ⟨o, its, n, h, c, _⟩
  · exact .base (.lst h)
  · exact .base (.frz h)
  · exact .kList h c
theorem SqT.ty {K : PySem.W.Frag} {H : Hp} {a : Addr} {xs : List V} (h : SqT K H a xs) : TyX K H (.ref a) (.type "tuple") := by
  rcases h with (h | ⟨o, h⟩) | ⟨o, its, n, h, c, _⟩
  · exact .base (.tup h)
  · exact .fTuple h
  · exact .kTuple h c
theorem Dp.ty {K : PySem.W.Frag} {H : Hp} {v : V} {d : PyData} (h : Dp K H v d) : TyX K H v (.type (tyN d)) := by
  cases h with
  | non => exact .base .non
  | bl b => exact .base (.bl b)
  | int i => exact .base (.int i)
  | str x => exact .base (.str x)
  | lst s _ => exact SqL.ty s
  | tup s _ => exact SqT.ty s
/-- isinstance(x, T) of data at a slot -/
theorem rd_isi {K : PySem.W.Frag} {σ : L2.St} {H : Hp} {i : Nat} {v : V} {d : PyData} {n : String} {b : Bool} {Q : VK} (hσ : σ[i]? = some (some v)) (h : Dp K H v d) (k : kitB (tyN d) n = some b) (q : Q (.bl b) H) :
    tCB (rIsi K) (tCons (tVar i) (tCons (tC (.ty n)) tNil)) σ H Q := ⟨v, hσ, v, .ty n, _, _, b, rfl, .ty n, Dp.ty h, kit_ty k, q⟩
theorem walk_zipT {K : PySem.W.Frag} {a b : Addr} {xs ys : List V} {n : Nat} (hn : n = min xs.length ys.length) : Walk (RZ.ItzT K a b) n (fun H => SqT K H a xs ∧ SqT K H b ys) (YPair (fun i => xs[i]?) (fun i => ys[i]?)) := by
  subst hn
  refine ⟨fun i _ hi q => ?_, fun _ q => ⟨xs, ys, q.1, q.2, by omega⟩, fun i H v H' _ q y => ?_⟩
  · have h1 : i < xs.length := by omega
    have h2 : i < ys.length := by omega
    exact ⟨xs, ys, xs[i], ys[i], q.1, q.2, by simp [h1], by simp [h2]⟩
  · obtain ⟨T, x, z, h1, h2, h3, h4, h5⟩ := y
    exact ⟨T, x, z, h1, h2, h3, h4 xs q.1, h5 ys q.2⟩
/-- a comprehension over pairs -/
theorem lcz {K : PySem.W.Frag} {J : It} {n : Nat} {G : Hp → Prop} {fx fy : Nat → Option V} (w : Walk J n G (YPair fx fy)) {j1 j2 : Nat} (hj : j1 ≠ j2) {te : TE} {σ : L2.St} {H1 : Hp} {D : Addr} {Qd : Hp → Prop} (Pv : Nat → Hp → Prop) (h0 : Pv 0 (upd H1 D (.lst []))) (hG : ∀ i H, i ≤ n → Pv i H → G H)
    (hs : ∀ i x y T H, i < n → fx i = some x → fy i = some y → Pv i H → H T = none → te ((σ.set j1 (some x)).set j2 (some y)) (upd H T (.tup [x, y])) fun z H4 => ∃ acc, H4 D = some (.lst acc) ∧ acc.length < sizeLine ∧ Pv (i + 1) (upd H4 D (.lst (acc ++ [z])))) (hd : ∀ H, Pv n H → Qd H) :
    ∃ W : Nat → Nat → Hp → Prop, (∃ m, W 0 m (upd H1 D (.lst []))) ∧ ∀ i m H, W i m H →
      (J.stop i H ∧ Qd H) ∨ (J.go i H ∧ ∃ Nx : Hp → Prop, (∀ H', Nx H' → ∃ m', m' < m ∧ W (i + 1) m' H') ∧ ∀ x H', J.yld i H x H' → gTup K 2 (gCons (gName j1) (gCons (gName j2) gNil)) x (wipe σ [j1, j2]) H' fun σ2 H2 => wipe σ2 [j1, j2] = wipe σ [j1, j2] ∧ tYes σ2 H2 fun b H3 =>
        if b = true then te σ2 H3 fun y H4 => ∃ acc, H4 D = some (.lst acc) ∧ acc.length < sizeLine ∧ Nx (upd H4 D (.lst (acc ++ [y]))) else Nx H3) := by
  refine lc_it w Pv h0 hG (fun i v H H' hi p y => ?_) hd
  obtain ⟨T, x, y, rfl, hT, rfl, h1, h2⟩ := y
  have e0 : wipe σ [j1, j2] = (σ.set j2 none).set j1 none := rfl
  have e1 : ((wipe σ [j1, j2]).set j1 (some x)).set j2 (some y) = (σ.set j1 (some x)).set j2 (some y) := by
    rw [e0, List.set_set, List.set_comm _ _ hj.symm, List.set_set]
  refine ⟨T, [x, y], rfl, SqT.of upd_same, rfl, x, [y], rfl, y, [], rfl, rfl, ?_, ?_⟩
  · rw [e1]
    show ((((σ.set j1 (some x)).set j2 (some y))).set j2 none).set j1 none = (σ.set j2 none).set j1 none
    rw [List.set_set, List.set_comm _ _ hj, List.set_set]
  · rw [e1]
    unfold tYes
    dsimp only
    rw [if_pos rfl]
    exact hs i x y T H hi h1 h2 p hT
theorem DpAll.length {K : PySem.W.Frag} {H : Hp} : ∀ {ds : List PyData} {xs : List V}, DpAll K H xs ds → xs.length = ds.length
  | [], _, .nil => rfl
  | _ :: r, _, .cons _ t => by rw [List.length_cons, List.length_cons, DpAll.length t]
theorem DpAll.get {K : PySem.W.Frag} {H : Hp} : ∀ {ds : List PyData} {xs : List V} {i : Nat} {x : V}, DpAll K H xs ds → xs[i]? = some x → ∃ d, ds[i]? = some d ∧ Dp K H x d
  | [], _, i, x, .nil, e => by simp at e
  | d :: r, _, 0, x, .cons a t, e => by
    cases e
    exact ⟨d, rfl, a⟩
  | d :: r, _, i + 1, x, .cons a t, e => DpAll.get (i := i) t e
mutual
theorem Dp.same {K : PySem.W.Frag} {H H' : Hp} (s : Same H H') : ∀ (d : PyData) {v : V}, Dp K H v d → Dp K H' v d
  | .none, _, .non => .non
  | .bool b, _, .bl _ => .bl b
  | .int i, _, .int _ => .int i
  | .str x, _, .str _ => .str x
  | .list ds, _, .lst h a => .lst (s.seq h) (DpAll.same s ds a)
  | .tuple ds, _, .tup h a => .tup ((tp_same s).sq h) (DpAll.same s ds a)
theorem DpAll.same {K : PySem.W.Frag} {H H' : Hp} (s : Same H H') : ∀ (ds : List PyData) {vs : List V}, DpAll K H vs ds → DpAll K H' vs ds
  | [], _, .nil => .nil
  | d :: r, _, .cons a b => .cons (Dp.same s d a) (DpAll.same s r b)
end
theorem same_new {H : Hp} {p : Addr} {o : HO} (h : H p = none) : Same H (upd H p o) := fun b u e => by
  rw [upd_ne (ne_of_none e h)]
  exact e
theorem Same.kp {r : Addr} {H H' : Hp} (s : Same H H') : Kp r H H' := fun b o _ e => s b o e
/-- all of a row of True -/
theorem all_true (n : Nat) : (List.replicate n true).all id = true := by
  induction n with
  | zero => rfl
  | succ n ih => rw [List.replicate_succ, List.all_cons, ih]; rfl
theorem rep_snoc (n : Nat) : (List.replicate n true).map V.bl ++ [V.bl true] = (List.replicate (n + 1) true).map V.bl := by
  rw [List.replicate_succ', List.map_append]
  rfl
end SW

set_option Elab.async false
set_option linter.all false
set_option maxRecDepth 100000
set_option maxHeartbeats 4000000
namespace SW
open PySem PySem.Spec PyProof.Rows L2
/-! ### a starred text in a display -/
def signs (z : Str) : List V := z.cps.toList.map fun c => V.str ⟨#[c]⟩
theorem vals_of : ∀ {xs : List V} {us : List Value}, xs.length = us.length → (∀ (i : Nat) x u, xs[i]? = some x → us[i]? = some u → RelV x u) → Vals xs us
  | [], [], _, _ => .nil
  | x :: xs, u :: us, hl, h => .cons (h 0 x u rfl rfl) (vals_of (by simpa using hl) fun i a b p q => h (i + 1) a b p q)
section
variable {X : Cx} {pins : List (Addr × Obj)} {σ : L2.St} {H : Hp} {s : Shared}
theorem star_str {z : Str} {t : Tok} {E : Value → Shared → Prop} {Q : List Value → Shared → Prop} (hc : X.calm = true) (I : Inv X pins σ H s) (hz : z.cps.size ≤ sizeLine) (hQ : ∀ us s', Inv X pins σ H s' → Vals (signs z) us → Q us s') :
    PySem.W.StarOf (model X.prog X.w) X.A E (.str z t) Q s := by
  have z1 : wpAny (model X.prog X.w) X.A (collect (.str z t)) Q E s := by
    refine wpAny_collect_str (I.ok.hd hc) z t (fun s' acc hk hg hd ho hit => ?_) hz
    have e : s' = { s with heap := s'.heap, toks := s'.toks } := by
      cases s'
      cases s
      simp only at hg hd ho
      subst hg hd ho
      rfl
    rw [e]
    refine hQ acc.toList _ (I.kept (t' := s'.toks) hk) (vals_of ?_ fun i x u p q => ?_)
    · unfold signs
      rw [List.length_map, Array.length_toList, Array.length_toList]
      exact hit.1.symm
    · have q' : acc[i]? = some u := by rw [Array.getElem?_toList] at q; exact q
      obtain ⟨c, tk, h1, h2⟩ := hit.2 i u q'
      unfold signs at p
      rw [List.getElem?_map, Array.getElem?_toList, h1] at p
      cases p
      exact ⟨tk, h2⟩
  unfold PySem.W.StarOf notIterableAtAll
  exact wpAny_bind (wpAny_specialOf (T := "str") (v := .str z t) rfl PySem.F.slot_str_iter.lookup (wpAny_pure ⟨rfl, z1⟩))
end
def tStarS (te : TE) (t : TA) : TA := fun σ H Q => te σ H fun x H1 => ∃ z, x = V.str z ∧ z.cps.size ≤ sizeLine ∧ t σ H1 fun ys H2 => Q (signs z ++ ys) H2
theorem pa_starS {X : Cx} {e : Expr} {es : List Expr} {te : TE} {t : TA} {p : Pos} (hc : X.calm = true) (he : PE X e te) (hr : PA X es t) (hs : starEach (.Starred e p :: es) X.env = (true, eval e X.env) :: starEach es X.env := by rfl) : PA X (.Starred e p :: es) (tStarS te t) := by
  refine ⟨fun pos pins s σ H Q I h => ?_⟩
  refine PySem.W.items_star (thn (he.run pins s σ H _ I h) fun v s1 ⟨y, H1, I1, ry, z, ey, hz, q⟩ => ?_) hs
  subst ey
  obtain ⟨tk, rfl⟩ := (show ∃ t, v = Value.str z t from ry)
  refine star_str hc I1 hz fun us s2 I2 rv => ?_
  exact thn (hr.run pos pins s2 σ H1 _ I2 q) fun ws s3 ⟨vs, H3, I3, r3, q3⟩ => ⟨signs z ++ vs, H3, I3, rv.append r3, q3⟩
/-! ### tests of texts -/
theorem eq_no {a b : Str} {A B : Prop} (h : a ≠ b) (q : B) : ∃ k, V.bl (decide (V.str a = V.str b)) = V.bl k ∧ if k = true then A else B :=
  ⟨false, by rw [decide_eq_false]; intro e; exact h (V.str.inj e), q⟩
theorem eq_yes {a b : Str} {A B : Prop} (h : a = b) (q : A) : ∃ k, V.bl (decide (V.str a = V.str b)) = V.bl k ∧ if k = true then A else B :=
  ⟨true, by rw [h, decide_eq_true rfl], q⟩
/-- membership of a text among texts -/
theorem inV_str {c : Str} : ∀ {L : List Str}, inV (.str c) (L.map V.str) = decide (c ∈ L)
  | [] => rfl
  | a :: r => by
    have ih := inV_str (c := c) (L := r)
    unfold inV at ih ⊢
    rw [List.map_cons, List.any_cons, ih]
    show ((a == c) || decide (c ∈ r)) = _
    by_cases h : a = c
    · subst h
      simp
    · have h' : ¬ c = a := fun e => h e.symm
      simp [h, h']
theorem in_no {c : Str} (L : List Str) {A B : Prop} (h : c ∉ L) (q : B) : ∃ k, V.bl (if false = true then !inV (.str c) (L.map V.str) else inV (.str c) (L.map V.str)) = V.bl k ∧ if k = true then A else B := by
  refine ⟨false, ?_, q⟩
  rw [if_neg (by decide), inV_str, decide_eq_false h]
theorem in_yes {c : Str} (L : List Str) {A B : Prop} (h : c ∈ L) (q : A) : ∃ k, V.bl (if false = true then !inV (.str c) (L.map V.str) else inV (.str c) (L.map V.str)) = V.bl k ∧ if k = true then A else B := by
  refine ⟨true, ?_, q⟩
  rw [if_neg (by decide), inV_str, decide_eq_true h]
/-! ### counts -/
mutual
def W.cnt (L : List Str) : W → Option Int
  | .emp => some 0
  | .ltr c => some (if c ∈ L then 1 else 0)
  | .nam _ => some 0
  | .join ws => W.cnts L ws
  | .times w n => if 0 < n then (w.cnt L).map (· * n) else some 0
  | .right w => if w.cnt L = some 0 then some 0 else none
  | .left w => if w.cnt L = some 0 then some 0 else none
def W.cnts (L : List Str) : List W → Option Int
  | [] => some 0
  | w :: r => match w.cnt L, W.cnts L r with
    | some a, some b => some (a + b)
    | _, _ => none
end
def toV : Option Int → V
  | none => .non
  | some m => .int m
def toL : Option Int → Int
  | none => -1
  | some m => m
theorem cnt_emp {L : List Str} : W.cnt L .emp = some 0 := by rw [W.cnt]
theorem cnt_ltr {L : List Str} {c : Str} : W.cnt L (.ltr c) = some (if c ∈ L then 1 else 0) := by rw [W.cnt]
theorem cnt_join {L : List Str} {ws : List W} : W.cnt L (.join ws) = W.cnts L ws := by rw [W.cnt]
theorem cnt_times {L : List Str} {t : W} {n : Int} : W.cnt L (.times t n) = if 0 < n then (t.cnt L).map (· * n) else some 0 := by rw [W.cnt]
theorem cnt_right {L : List Str} {t : W} : W.cnt L (.right t) = if t.cnt L = some 0 then some 0 else none := by rw [W.cnt]
theorem cnt_left {L : List Str} {t : W} : W.cnt L (.left t) = if t.cnt L = some 0 then some 0 else none := by rw [W.cnt]
theorem W.cnts_none {L : List Str} : ∀ {ws : List W}, none ∈ ws.map (W.cnt L) → W.cnts L ws = none
  | w :: r, h => by
    unfold W.cnts
    rcases List.mem_cons.mp h with e | h
    · rw [← e]
    · rw [W.cnts_none h]
      split <;> simp_all
theorem W.cnts_some {L : List Str} : ∀ {ws : List W}, none ∉ ws.map (W.cnt L) → W.cnts L ws = some ((ws.map fun w => toL (w.cnt L)).sum)
  | [], _ => by
    unfold W.cnts
    rfl
  | w :: r, h => by
    unfold W.cnts
    rw [List.map_cons, List.mem_cons, not_or] at h
    rw [W.cnts_some h.2, List.map_cons, List.sum_cons]
    cases e : w.cnt L with
    | none => exact absurd e.symm h.1
    | some a => rfl
mutual
theorem W.cnt_bd {M L : List Str} : ∀ (w : W) {m : Int}, w.Ok M → w.cnt L = some m → 0 ≤ m ∧ m < 2 ^ (110 * w.dep)
  | .emp, m, o, e => by
    unfold W.cnt at e
    cases e
    exact ⟨by decide, by unfold W.dep; decide⟩
  | .ltr c, m, o, e => by
    unfold W.cnt at e
    unfold W.dep
    split at e <;> (cases e; exact ⟨by decide, by decide⟩)
  | .nam c, m, o, e => by
    unfold W.Ok at o
    exact o.elim
  | .join ws, m, o, e => by
    unfold W.Ok at o
    unfold W.cnt at e
    have h := W.cnts_bd ws o.2 e
    unfold W.dep
    refine ⟨h.1, ?_⟩
    have h2 : m ≤ (ws.length : Int) * 2 ^ (110 * W.deps ws) := h.2
    have h3 : (2 : Int) ^ (110 * (W.deps ws + 1)) = 2 ^ (110 * W.deps ws) * 2 ^ 110 := by rw [← Int.pow_add]; rfl
    have h4 : (0 : Int) < 2 ^ (110 * W.deps ws) := Int.pow_pos (by decide)
    have h5 : (ws.length : Int) * 2 ^ (110 * W.deps ws) ≤ 16 * 2 ^ (110 * W.deps ws) := Int.mul_le_mul_of_nonneg_right (by omega) (Int.le_of_lt h4)
    have h6 : (2 : Int) ^ 110 = 1298074214633706907132624082305024 := by decide
    rw [h3, h6]
    generalize (2 : Int) ^ (110 * W.deps ws) = z at *
    omega
  | .times w n, m, o, e => by
    unfold W.Ok at o
    unfold W.cnt at e
    unfold W.dep
    have h4 : (0 : Int) < 2 ^ (110 * w.dep) := Int.pow_pos (by decide)
    have h3 : (2 : Int) ^ (110 * (w.dep + 1)) = 2 ^ (110 * w.dep) * 2 ^ 110 := by rw [← Int.pow_add]; rfl
    have h6 : (2 : Int) ^ 110 = 1298074214633706907132624082305024 := by decide
    rw [h3, h6]
    split at e
    · cases g : w.cnt L with
      | none =>
        rw [g] at e
        cases e
      | some a =>
        rw [g] at e
        have e' : a * n = m := Option.some.inj e
        have h := W.cnt_bd w o.2.2 g
        subst e'
        refine ⟨Int.mul_nonneg h.1 o.1, ?_⟩
        have a1 : a * n ≤ a * 1000000000000000000000000000000 := Int.mul_le_mul_of_nonneg_left o.2.1 h.1
        generalize (2 : Int) ^ (110 * w.dep) = z at *
        have := h.2
        omega
    · cases e
      generalize (2 : Int) ^ (110 * w.dep) = z at *
      omega
  | .right w, m, o, e => by
    unfold W.cnt at e
    split at e
    · cases e
      exact ⟨by decide, Int.pow_pos (by decide)⟩
    · cases e
  | .left w, m, o, e => by
    unfold W.cnt at e
    split at e
    · cases e
      exact ⟨by decide, Int.pow_pos (by decide)⟩
    · cases e
theorem W.cnts_bd {M L : List Str} : ∀ (ws : List W) {m : Int}, W.Oks M ws → W.cnts L ws = some m → 0 ≤ m ∧ m ≤ (ws.length : Int) * 2 ^ (110 * W.deps ws)
  | [], m, o, e => by
    unfold W.cnts at e
    cases e
    exact ⟨by decide, by simp⟩
  | w :: r, m, o, e => by
    unfold W.Oks at o
    unfold W.cnts at e
    unfold W.deps
    split at e
    · rename_i a b ea eb
      have e' : a + b = m := Option.some.inj e
      have h1 := W.cnt_bd w o.1 ea
      have h2 := W.cnts_bd r o.2 eb
      subst e'
      refine ⟨by omega, ?_⟩
      have p1 : (2 : Int) ^ (110 * w.dep) ≤ 2 ^ (110 * max w.dep (W.deps r)) := by
        have := Nat.pow_le_pow_right (n := 2) (by decide) (Nat.mul_le_mul_left 110 (Nat.le_max_left w.dep (W.deps r)))
        exact_mod_cast this
      have p2 : (2 : Int) ^ (110 * W.deps r) ≤ 2 ^ (110 * max w.dep (W.deps r)) := by
        have := Nat.pow_le_pow_right (n := 2) (by decide) (Nat.mul_le_mul_left 110 (Nat.le_max_right w.dep (W.deps r)))
        exact_mod_cast this
      have p3 : (r.length : Int) * 2 ^ (110 * W.deps r) ≤ (r.length : Int) * 2 ^ (110 * max w.dep (W.deps r)) := Int.mul_le_mul_of_nonneg_left p2 (by omega)
      have p4 : (((w :: r).length : Nat) : Int) * 2 ^ (110 * max w.dep (W.deps r)) = (r.length : Int) * 2 ^ (110 * max w.dep (W.deps r)) + 2 ^ (110 * max w.dep (W.deps r)) := by
        rw [List.length_cons]
        push_cast
        rw [Int.add_mul, Int.one_mul]
      rw [p4]
      omega
    · cases e
end
theorem W.cnt_abs {M L : List Str} {w : W} {m : Int} (o : w.Ok M) (e : w.cnt L = some m) : m.natAbs < 2 ^ (110 * w.dep) := by
  have h := W.cnt_bd w o e
  have : ((m.natAbs : Nat) : Int) < ((2 ^ (110 * w.dep) : Nat) : Int) := by
    rw [Int.natAbs_of_nonneg h.1]
    push_cast
    exact h.2
  exact_mod_cast this
theorem flat_strs (L : List Str) : (L.map V.str).all flatV = true := by
  rw [List.all_map]
  exact List.all_eq_true.mpr fun x _ => rfl
theorem inV_non : ∀ {cs : List (Option Int)}, inV .non (cs.map toV) = decide (none ∈ cs)
  | [] => rfl
  | c :: r => by
    have ih := inV_non (cs := r)
    unfold inV at ih ⊢
    rw [List.map_cons, List.any_cons, ih]
    cases c with
    | none =>
      show (true || _) = _
      simp
    | some m =>
      show (false || _) = _
      simp
theorem flat_toV (cs : List (Option Int)) : (cs.map toV).all flatV = true := by
  rw [List.all_map]
  exact List.all_eq_true.mpr fun x _ => by cases x <;> rfl
theorem toV_ints : ∀ {cs : List (Option Int)}, none ∉ cs → cs.map toV = (cs.map toL).map V.int
  | [], _ => rfl
  | c :: r, h => by
    rw [List.mem_cons, not_or] at h
    rw [List.map_cons, List.map_cons, List.map_cons, toV_ints h.2]
    cases c with
    | none => exact absurd rfl h.1
    | some m => rfl
theorem inV_int {m : Int} : ∀ {ns : List Int}, inV (.int m) (ns.map V.int) = decide (m ∈ ns)
  | [] => rfl
  | a :: r => by
    have ih := inV_int (m := m) (ns := r)
    unfold inV at ih ⊢
    rw [List.map_cons, List.any_cons, ih]
    show ((a == m) || decide (m ∈ r)) = _
    by_cases h : a = m
    · subst h
      simp
    · have h' : ¬ m = a := fun e => h e.symm
      simp [h, h']
theorem flat_ints (ns : List Int) : (ns.map V.int).all flatV = true := by
  rw [List.all_map]
  exact List.all_eq_true.mpr fun x _ => rfl
end SW

set_option Elab.async false
set_option linter.all false
set_option maxRecDepth 100000
set_option maxHeartbeats 4000000
namespace SW
open PySem PySem.Spec PyProof.Rows L2
def W.parts : W → List W
  | .join ws => ws
  | .times w _ => [w]
  | .right w => [w]
  | .left w => [w]
  | _ => []
theorem W.parts_mem {L : List Str} {t x : W} (o : t.Ok L) (h : x ∈ t.parts) : x.Ok L ∧ x.dep + 1 ≤ t.dep := by
  cases t with
  | join ws =>
    unfold W.Ok at o
    have := W.deps_mem (ws := ws) h
    refine ⟨W.oks_mem h o.2, ?_⟩
    rw [W.dep]
    omega
  | times w n =>
    unfold W.Ok at o
    cases List.mem_singleton.mp h
    exact ⟨o.2.2, by rw [W.dep]; omega⟩
  | right w =>
    unfold W.Ok at o
    cases List.mem_singleton.mp h
    exact ⟨o, by rw [W.dep]; omega⟩
  | left w =>
    unfold W.Ok at o
    cases List.mem_singleton.mp h
    exact ⟨o, by rw [W.dep]; omega⟩
  | emp => exact (List.not_mem_nil h).elim
  | ltr c => exact (List.not_mem_nil h).elim
  | nam c => exact (List.not_mem_nil h).elim
theorem W.parts_len {L : List Str} {t : W} (o : t.Ok L) : t.parts.length ≤ 16 := by
  cases t with
  | join ws =>
    unfold W.Ok at o
    exact o.1
  | _ => simp [W.parts]
/-- the law's counts of the parts -/
def W.cs (L : List Str) (t : W) : List Int := t.parts.map fun x => toL (x.cnt L)
theorem toL_neg {M L : List Str} {x : W} (o : x.Ok M) : toL (x.cnt L) = -1 ↔ x.cnt L = none := by
  cases e : x.cnt L with
  | none => exact ⟨fun _ => rfl, fun _ => rfl⟩
  | some m =>
    have h := (W.cnt_bd x o e).1
    refine ⟨fun q => ?_, fun q => by cases q⟩
    have q' : m = -1 := q
    omega
theorem cs_neg {M L : List Str} {t : W} (o : t.Ok M) (hl : ∀ c, t ≠ .ltr c) (ht : ∀ x n, t = .times x n → n ≠ 0) (h : (-1 : Int) ∈ t.cs L) : toL (t.cnt L) = -1 := by
  unfold W.cs at h
  obtain ⟨x, hx, e⟩ := List.mem_map.mp h
  have ox := (W.parts_mem o hx).1
  have en := (toL_neg ox).mp e
  cases t with
  | join ws =>
    rw [cnt_join, W.cnts_none (ws := ws) (List.mem_map.mpr ⟨x, hx, en⟩)]
    rfl
  | times w n =>
    unfold W.Ok at o
    cases List.mem_singleton.mp hx
    have := ht _ n rfl
    rw [cnt_times, if_pos (by omega), en]
    rfl
  | right w =>
    cases List.mem_singleton.mp hx
    rw [cnt_right, en, if_neg (by intro h; cases h)]
    rfl
  | left w =>
    cases List.mem_singleton.mp hx
    rw [cnt_left, en, if_neg (by intro h; cases h)]
    rfl
  | emp => exact (List.not_mem_nil hx).elim
  | ltr c => exact (List.not_mem_nil hx).elim
  | nam c => exact (List.not_mem_nil hx).elim
theorem cs_join {M L : List Str} {ws : List W} (o : (W.join ws).Ok M) (h : ¬ (-1 : Int) ∈ (W.join ws).cs L) : toL ((W.join ws).cnt L) = ((W.join ws).cs L).sum := by
  have hn : none ∉ ws.map (W.cnt L) := fun q => by
    obtain ⟨x, hx, e⟩ := List.mem_map.mp q
    exact h (List.mem_map.mpr ⟨x, hx, (toL_neg (W.parts_mem o hx).1).mpr e⟩)
  rw [cnt_join, W.cnts_some hn]
  rfl
theorem cs_times {M L : List Str} {x : W} {n : Int} (o : (W.times x n).Ok M) (hn : n ≠ 0) (h : ¬ (-1 : Int) ∈ (W.times x n).cs L) : toL ((W.times x n).cnt L) = toL (x.cnt L) * n := by
  unfold W.Ok at o
  have h1 : x.cnt L ≠ none := fun q => h (List.mem_map.mpr ⟨x, List.mem_singleton.mpr rfl, (toL_neg o.2.2).mpr q⟩)
  rw [cnt_times, if_pos (by omega)]
  cases e : x.cnt L with
  | none => exact absurd e h1
  | some m => rfl
theorem cs_end {M L : List Str} {x : W} (o : x.Ok M) : toL (if x.cnt L = some 0 then some 0 else none) = if toL (x.cnt L) = 0 then 0 else -1 := by
  cases e : x.cnt L with
  | none => rw [if_neg (by intro h; cases h), if_neg (by decide)]; rfl
  | some m =>
    show _ = if m = 0 then 0 else -1
    by_cases h : m = 0
    · subst h
      rw [if_pos rfl, if_pos rfl]
      rfl
    · rw [if_neg (by intro q; cases q; exact h rfl), if_neg h]
      rfl
theorem toL_abs {M L : List Str} {x : W} (o : x.Ok M) : (toL (x.cnt L)).natAbs < 2 ^ (110 * x.dep) := by
  cases e : x.cnt L with
  | none =>
    show (1 : Nat) < _
    have := x.dep_pos
    exact Nat.one_lt_two_pow (by omega)
  | some m => exact W.cnt_abs o e
/-! ### letters in lowercase -/
mutual
def W.low : W → W
  | .emp => .emp
  | .ltr c => .ltr (Txt.lower c)
  | .nam c => .nam c
  | .join ws => .join (W.lows ws)
  | .times w n => .times w.low n
  | .right w => .right w.low
  | .left w => .left w.low
def W.lows : List W → List W
  | [] => []
  | w :: r => w.low :: W.lows r
end
theorem lows_map : ∀ ws : List W, W.lows ws = ws.map W.low
  | [] => by rw [W.lows]; rfl
  | w :: r => by rw [W.lows, lows_map r]; rfl
theorem low_abc : ∀ c ∈ abcABC, Txt.lower c ∈ abc := by
  intro c h
  simp only [abcABC, List.mem_cons, List.not_mem_nil, or_false] at h
  rcases h with rfl | rfl | rfl | rfl | rfl | rfl <;> decide +kernel
theorem low_same : ∀ c ∈ abc, Txt.lower c = c := by
  intro c h
  simp only [abc, List.mem_cons, List.not_mem_nil, or_false] at h
  rcases h with rfl | rfl | rfl <;> decide +kernel
theorem len_abc : ∀ c ∈ abcABC, c.length ≤ 5592405 := by
  intro c h
  simp only [abcABC, List.mem_cons, List.not_mem_nil, or_false] at h
  rcases h with rfl | rfl | rfl | rfl | rfl | rfl <;> decide +kernel
mutual
theorem W.low_ok : ∀ w : W, w.Ok abcABC → w.low.Ok abc
  | .emp, h => by rw [W.low]; unfold W.Ok; trivial
  | .ltr c, h => by rw [W.low]; unfold W.Ok at h ⊢; exact low_abc c h
  | .nam c, h => by unfold W.Ok at h; exact h.elim
  | .join ws, h => by
    rw [W.low]
    unfold W.Ok at h ⊢
    exact ⟨by rw [lows_map, List.length_map]; exact h.1, W.lows_ok ws h.2⟩
  | .times w n, h => by rw [W.low]; unfold W.Ok at h ⊢; exact ⟨h.1, h.2.1, W.low_ok w h.2.2⟩
  | .right w, h => by rw [W.low]; unfold W.Ok at h ⊢; exact W.low_ok w h
  | .left w, h => by rw [W.low]; unfold W.Ok at h ⊢; exact W.low_ok w h
theorem W.lows_ok : ∀ ws : List W, W.Oks abcABC ws → W.Oks abc (W.lows ws)
  | [], h => by rw [W.lows]; unfold W.Oks; trivial
  | w :: r, h => by rw [W.lows]; unfold W.Oks at h ⊢; exact ⟨W.low_ok w h.1, W.lows_ok r h.2⟩
theorem W.low_id : ∀ w : W, w.Ok abc → w.low = w
  | .emp, h => by rw [W.low]
  | .ltr c, h => by unfold W.Ok at h; rw [W.low, low_same c h]
  | .nam c, h => by rw [W.low]
  | .join ws, h => by unfold W.Ok at h; rw [W.low, W.lows_id ws h.2]
  | .times w n, h => by unfold W.Ok at h; rw [W.low, W.low_id w h.2.2]
  | .right w, h => by unfold W.Ok at h; rw [W.low, W.low_id w h]
  | .left w, h => by unfold W.Ok at h; rw [W.low, W.low_id w h]
theorem W.lows_id : ∀ ws : List W, W.Oks abc ws → W.lows ws = ws
  | [], h => by rw [W.lows]
  | w :: r, h => by unfold W.Oks at h; rw [W.lows, W.low_id w h.1, W.lows_id r h.2]
end
mutual
theorem W.low_dep : ∀ w : W, w.low.dep = w.dep
  | .emp => by rw [W.low]
  | .ltr c => by rw [W.low, W.dep, W.dep]
  | .nam c => by rw [W.low]
  | .join ws => by rw [W.low, W.dep, W.dep, W.lows_dep ws]
  | .times w n => by rw [W.low, W.dep, W.dep, W.low_dep w]
  | .right w => by rw [W.low, W.dep, W.dep, W.low_dep w]
  | .left w => by rw [W.low, W.dep, W.dep, W.low_dep w]
theorem W.lows_dep : ∀ ws : List W, W.deps (W.lows ws) = W.deps ws
  | [] => by rw [W.lows]
  | w :: r => by rw [W.lows, W.deps, W.deps, W.low_dep w, W.lows_dep r]
end
end SW

set_option Elab.async false
set_option linter.all false
set_option maxRecDepth 100000
set_option maxHeartbeats 4000000
namespace SW
open PySem PySem.Spec PyProof.Rows L2
theorem int_eqv {a b : Int} : PyData.eqv (.list [.int a]) (.list [.int b]) = decide (a = b) := by
  simp only [PyData.eqv, PyData.eqvAll, Bool.and_true]
  rfl
theorem int_shaped {a : Int} : SeqAt.shaped (.list [.int a]) = true := by
  unfold SeqAt.shaped
  simp [PyData.canLay0, PyData.canLayAll0, PyData.depth, PyData.depthAll]
theorem ne_yes {a b : Str} {A B : Prop} (h : a ≠ b) (q : A) : ∃ k, V.bl (!decide (V.str a = V.str b)) = V.bl k ∧ if k = true then A else B :=
  ⟨true, by rw [decide_eq_false (fun e => h (V.str.inj e))]; rfl, q⟩
theorem ne_no {a b : Str} {A B : Prop} (h : a = b) (q : B) : ∃ k, V.bl (!decide (V.str a = V.str b)) = V.bl k ∧ if k = true then A else B :=
  ⟨false, by rw [h, decide_eq_true rfl]; rfl, q⟩
theorem up_abc : ∀ c ∈ abc, Txt.upper c ∈ abcABC := by
  intro c h
  simp only [abc, List.mem_cons, List.not_mem_nil, or_false] at h
  rcases h with rfl | rfl | rfl <;> decide +kernel
theorem low_emp : W.low .emp = .emp := by rw [W.low]
theorem low_ltr {c : Str} : W.low (.ltr c) = .ltr (Txt.lower c) := by rw [W.low]
theorem low_join {ws : List W} : W.low (.join ws) = .join (ws.map W.low) := by rw [W.low, lows_map]
theorem low_times {t : W} {n : Int} : W.low (.times t n) = .times t.low n := by rw [W.low]
theorem low_right {t : W} : W.low (.right t) = .right t.low := by rw [W.low]
theorem low_left {t : W} : W.low (.left t) = .left t.low := by rw [W.low]
theorem wvs_snoc {K : PySem.W.Frag} {H : Hp} {f : W → W} {ws : List W} {acc : List V} {i : Nat} {y : V} {t : W} (e : ws[i]? = some t) (h : WVs K H acc ((ws.take i).map f)) (hy : WV K H y (f t)) : WVs K H (acc ++ [y]) ((ws.take (i + 1)).map f) := by
  rw [List.take_add_one, e]
  show WVs K H (acc ++ [y]) ((ws.take i ++ [t]).map f)
  rw [List.map_append]
  exact WVs.app hy h
theorem cutV_ints (ns : List Int) (lo hi : Option Int) : ∃ ms : List Int, cutV (ns.map V.int) lo hi = ms.map V.int := by
  unfold cutV
  exact ⟨(ns.drop (HT.sIx (ns.map V.int).length 0 lo)).take (HT.sIx (ns.map V.int).length (ns.map V.int).length hi - HT.sIx (ns.map V.int).length 0 lo), by rw [List.map_take, List.map_drop]⟩
/-! ### numbers and lists of them as data -/
def toD : Option Int → PyData
  | none => .none
  | some m => .int m
theorem toD_v {K : PySem.W.Frag} {H : Hp} (o : Option Int) : Dp K H (toV o) (toD o) := by
  cases o with
  | none => exact .non
  | some m => exact .int m
theorem toD_sm (o : Option Int) (n : Nat) : Sm n (toD o) := by
  cases o with
  | none => cases n <;> (unfold toD Sm; trivial)
  | some m => cases n <;> (unfold toD Sm; trivial)
theorem cnt_nonneg {M L : List Str} {t : W} (o : t.Ok M) : ∀ m, t.cnt L = some m → 0 ≤ m := fun m e => (W.cnt_bd t o e).1
theorem ints_sm {ds : List Int} {n : Nat} (h : ds.length ≤ 1000) : Sm (n + 1) (.list (ds.map PyData.int)) := by
  unfold Sm
  refine ⟨by rw [List.length_map]; exact h, fun d q => ?_⟩
  obtain ⟨i, _, rfl⟩ := List.mem_map.mp q
  cases n <;> (unfold Sm; trivial)
theorem ints_dp {K : PySem.W.Frag} {H : Hp} : ∀ ds : List Int, DpAll K H (ds.map V.int) (ds.map PyData.int)
  | [] => .nil
  | d :: r => .cons (.int d) (ints_dp r)
/-! ### a comprehension of one name over any walk of given items -/
theorem lcw {J : It} {n : Nat} {G : Hp → Prop} {xs : List V} (w : Walk J n G (YAt xs)) {j : Nat} {te : TE} {σ : L2.St} {H1 : Hp} {D : Addr} {Qd : Hp → Prop} (Pv : Nat → Hp → Prop) (h0 : Pv 0 (upd H1 D (.lst []))) (hG : ∀ i H, i ≤ n → Pv i H → G H)
    (hs : ∀ i x H, i < n → xs[i]? = some x → Pv i H → te (σ.set j (some x)) H fun y H4 => ∃ acc, H4 D = some (.lst acc) ∧ acc.length < sizeLine ∧ Pv (i + 1) (upd H4 D (.lst (acc ++ [y])))) (hd : ∀ H, Pv n H → Qd H) :
    ∃ W : Nat → Nat → Hp → Prop, (∃ m, W 0 m (upd H1 D (.lst []))) ∧ ∀ i m H, W i m H →
      (J.stop i H ∧ Qd H) ∨ (J.go i H ∧ ∃ Nx : Hp → Prop, (∀ H', Nx H' → ∃ m', m' < m ∧ W (i + 1) m' H') ∧ ∀ x H', J.yld i H x H' → gName j x (wipe σ [j]) H' fun σ2 H2 => wipe σ2 [j] = wipe σ [j] ∧ tYes σ2 H2 fun b H3 =>
        if b = true then te σ2 H3 fun y H4 => ∃ acc, H4 D = some (.lst acc) ∧ acc.length < sizeLine ∧ Nx (upd H4 D (.lst (acc ++ [y]))) else Nx H3) := by
  refine lc_it w Pv h0 hG (fun i x H H' hi p y => ?_) hd
  obtain ⟨rfl, e⟩ := y
  have e1 : wipe σ [j] = σ.set j none := rfl
  have e2 : (wipe σ [j]).set j (some x) = σ.set j (some x) := by rw [e1, List.set_set]
  unfold gName tYes
  rw [e2]
  dsimp only
  rw [if_pos rfl]
  refine ⟨?_, hs i x H' hi e p⟩
  show (σ.set j (some x)).set j none = σ.set j none
  rw [List.set_set]
theorem walk_revT {K : PySem.W.Frag} {a : Addr} {xs : List V} : Walk (RT.ItvT K a xs.length) xs.length (fun H => SqT K H a xs) (YAt xs.reverse) := by
  refine ⟨fun i H hi q => ⟨hi, xs, xs[xs.length - 1 - i], q, by rw [List.getElem?_eq_getElem (by omega)]⟩, fun H q => Nat.le_refl _, fun i H x H' hi q y => ?_⟩
  obtain ⟨e, f⟩ := y
  refine ⟨e, ?_⟩
  rw [List.getElem?_reverse hi]
  exact f xs q
/-! ### a tuple read backwards by a slice -/
section
variable {prog : Program} {w : World} {A : Around} {E : Value → Shared → Prop} {s : Shared}
theorem back_applied {sl : Addr} {vs : Value} {n : Nat} {Q : Int × Int × Nat → Shared → Prop} (hs : s.heap.IsSliceOf sl .none .none vs) (ps : IsPart vs (some (-1))) (h : Q ((n : Int) - 1, -1, n) s) :
    wpAny (model prog w) A (Builtin.Slice.sliceApplied (.ref sl) (pure (n : Int))) Q E s := by
  obtain ⟨ob, ho, hc, hd⟩ := id hs
  unfold Builtin.Slice.sliceApplied Builtin.Slice.sliceFields
  refine wpAny_bind (wpAny_bind (wpAny_field ho hd (x := .none) rfl (wpAny_bind (wpAny_field ho hd (x := .none) rfl (wpAny_bind (wpAny_field ho hd (x := vs) rfl (wpAny_pure ?_)))))))
  refine wpAny_bind (HT.slicePart_ ps ?_)
  show wpAny _ _ (if ((-1 : Int) == 0) = true then _ else _) _ _ s
  rw [if_neg (by decide)]
  refine wpAny_bind (slicePart_none (wpAny_bind (slicePart_none (wpAny_bind (wpAny_pure ?_)))))
  have e : Builtin.Slice.slicePlaces ((n : Int) - 1) (-1) (-1) = n := by
    unfold Builtin.Slice.slicePlaces
    have h1 : ¬ ((-1 : Int) > 0) := by decide
    have h2 : (- -1 : Int) = 1 := by decide
    simp only [h1, if_false, h2, Int.ediv_one]
    split <;> omega
  show wpAny _ _ (pure ((n : Int) - 1, (-1 : Int), Builtin.Slice.slicePlaces ((n : Int) - 1) (-1) (-1))) _ _ s
  rw [e]
  exact wpAny_pure h
theorem fmap_same {α β : Type} {f g : α → Option β} : ∀ {l : List α}, (∀ x ∈ l, f x = g x) → l.filterMap f = l.filterMap g
  | [], _ => rfl
  | x :: r, h => by
    have ih := fmap_same (f := f) (g := g) (l := r) fun y q => h y (List.mem_cons_of_mem _ q)
    rw [List.filterMap_cons, List.filterMap_cons, h x (List.mem_cons_self ..), ih]
theorem back_pick (xs : Array Value) : ((List.range xs.size).filterMap fun (m : Nat) => xs[(((xs.size : Int) - 1) + (m : Int) * -1).toNat]?).toArray = xs.toList.reverse.toArray := by
  have e : (List.range xs.size).filterMap (fun (m : Nat) => xs[(((xs.size : Int) - 1) + (m : Int) * -1).toNat]?) = ((List.range xs.size).map fun k => xs.size - 1 - k).filterMap (xs[·]?) := by
    rw [List.filterMap_map]
    refine fmap_same fun m hm => ?_
    have := List.mem_range.mp hm
    have q : (((xs.size : Int) - 1) + (m : Int) * -1).toNat = xs.size - 1 - m := by omega
    rw [q]
    rfl
  rw [e, PySem.W.krv_range, List.filterMap_reverse, PySem.W.krv_all]
theorem back_tuple {t sl : Addr} {items : Array Value} {vs : Value} {Q : Value → Shared → Prop} (hT : IsTup s.heap t items) (hs : s.heap.IsSliceOf sl .none .none vs) (ps : IsPart vs (some (-1)))
    (h : Q (.ref s.heap.objs.size) { s with heap := s.heap.push { cls := .type "tuple", data := .seq items.toList.reverse.toArray } }) (hz : items.size ≤ sizeLine) : wpAny (model prog w) A (getItem (.ref t) (.ref sl)) Q E s := by
  have hk : sizeOk (.seq items.toList.reverse.toArray) := by
    show items.toList.reverse.toArray.size ≤ sizeLine
    rw [List.size_toArray, List.length_reverse, Array.length_toList]
    exact hz
  obtain ⟨ob, ho, hc, hd⟩ := id hs
  have hS : s.TypeIs (.ref sl) "slice" := ⟨ob, ho, hc⟩
  unfold getItem
  try with_reducible refine wpAny_holding ?_
  first | refine wpAny_bind (wpAny_pure ?_) | skip
  refine wpAny_bind (wpAny_sequenceKey hT.typeIs (by decide) ?_)
  refine wpAny_bind (wpAny_callSpecial?_slot (name := Str.ofString "__getitem__") hT.typeIs PyProof.Rows.slot_tuple_getitem (wpAny_call_entry PyProof.Rows.slot_tuple_getitem hT.typeIs entry_tuple_getitem ?_ (args_tuple_getitem _ _)))
  show wpAny _ _ (Builtin.Tuple.tupleItemsOf (.ref t) >>= _) _ _ s
  refine wpAny_bind (tupleItemsOf_ hT ?_)
  refine wpAny_bind (wpAny_typeOf hS ?_)
  rw [if_pos (by decide)]
  refine wpAny_bind (back_applied hs ps ?_)
  have hno : ¬ ((((items.size : Int) - 1) == 0 && (-1 : Int) == 1 && items.size == items.size) = true) := by
    intro q
    rw [Bool.and_eq_true, Bool.and_eq_true] at q
    exact absurd (eq_of_beq q.1.2) (by decide)
  show wpAny _ _ (if (((items.size : Int) - 1) == 0 && (-1 : Int) == 1 && items.size == items.size) = true then _ else _) _ _ s
  rw [if_neg hno, back_pick]
  first
    | exact wpAny_bind (m := Builtin.Tuple.tupleExact _) (wpAny_newObj_type (wpAny_pure ⟨_, rfl, wpAny_pure h⟩) hk)
    | exact wpAny_bind (m := Builtin.Tuple.tupleExact _) (wpAny_newObj_type (wpAny_bind (wpAny_pure (wpAny_pure ⟨_, rfl, wpAny_pure h⟩))) hk)
    | exact wpAny_bind (wpAny_bind (m := Builtin.Tuple.tupleExact _) (wpAny_newObj_type (wpAny_pure (wpAny_pure ⟨_, rfl, wpAny_pure h⟩)) hk))
    | exact wpAny_bind (wpAny_bind (m := Builtin.Tuple.tupleExact _) (wpAny_newObj_type (wpAny_pure ⟨_, rfl, wpAny_pure h⟩) hk))
end
def tRevT (K : PySem.W.Frag) (te : TE) : TE := fun σ H Q => te σ H fun x H1 => ∃ a xs, x = .ref a ∧ SqT K H1 a xs ∧ ∀ p, H1 p = none → Q (.ref p) (upd H1 p (.tup xs.reverse))
theorem pe_revT {X : Cx} {e : Expr} {te : TE} {k : Nat} {p1 p2 p3 pos : Pos} (he : PE X e te) : PE X (.Subscript e (.Slice none none (some (.UnaryOp .USub (.Constant (.int 1) k p1) p2)) p3) pos) (tRevT X.K te) := by
  refine ⟨fun pins s σ H Q I h => ?_⟩
  refine Subscript_ (thn (he.run pins s σ H _ I h) fun v s1 ⟨x, H1, I1, r1, q1⟩ => ?_)
  obtain ⟨a, xs, rfl, hx, q⟩ := q1
  cases r1
  have hst : PO X (some (.UnaryOp .USub (.Constant (.int 1) k p1) p2)) (tPart (tUn (rU fun i => .int (-i)) (tC (.int 1)))) := po_some (pe_un un_neg pe_int)
  refine wpAny_Slice (thn (po_none.run pins s1 σ H1 (fun o H2 => o = none ∧ H2 = H1) I1 ⟨rfl, rfl⟩) fun vl s2 ⟨l, H2, I2, pl, el, e2⟩ => ?_)
  subst el e2
  refine thn (po_none.run pins s2 σ H2 (fun o H3 => o = none ∧ H3 = H2) I2 ⟨rfl, rfl⟩) fun vu s3 ⟨u, H3, I3, pu, eu, e3⟩ => ?_
  subst eu e3
  refine thn (hst.run pins s3 σ H3 (fun o H4 => o = some (-1) ∧ H4 = H3) I3 ⟨1, rfl, -1, rfl, rfl, rfl⟩) fun vs s4 ⟨o, H4, I4, ps, eo, e4⟩ => ?_
  subst eo e4
  cases pl
  cases pu
  have I5 : Inv X pins σ H4 { s4 with heap := s4.heap.push { cls := .type "slice", data := .fields #[.none, .none, vs] } } := I4.kept (t' := s4.toks) fun b ob q => Heap.get?_push_of_some _ q
  obtain ⟨its, r, hT, hz⟩ := I5.tuple hx
  have hl := r.length
  refine tail_any (ops := [.ref a, .ref s4.heap.objs.size]) hT.typeIs PyProof.Rows.slot_tuple_getitem.lookup ?_ (by with_unfolding_all rfl)
  refine back_tuple hT (Heap.IsSliceOf.new _ .none .none vs) ps ?_ (by rw [List.size_toArray]; omega)
  refine ⟨.ref _, _, I5.laid (t' := s4.toks) (o := .tup xs.reverse) (fun b ob q => Heap.get?_push_of_some _ q) (Nat.le_refl _) ?_, rfl, q _ (I5.hok.fresh (Nat.le_refl _))⟩
  refine ⟨by rw [List.length_reverse]; exact hz, its.reverse, r.reverse, ?_⟩
  have e : its.toArray.toList.reverse = its.reverse := by simp
  rw [e]
  exact IsTup.new _ _
theorem WVs.rev {K : PySem.W.Frag} {H : Hp} : ∀ {ws : List W} {xs : List V}, WVs K H xs ws → WVs K H xs.reverse ws.reverse
  | [], xs, h => by
    unfold WVs W.dats at h
    cases h
    exact wvs_nil
  | w :: r, xs, h => by
    unfold WVs W.dats at h
    cases h with | cons a b => ?_
    rw [List.reverse_cons, List.reverse_cons]
    exact WVs.app a (WVs.rev (ws := r) b)
/-! ### words turned round -/
mutual
def W.mir : W → W
  | .emp => .emp
  | .ltr c => .ltr c
  | .nam c => .nam c
  | .join ws => .join (W.mirs ws).reverse
  | .times w n => .times w.mir n
  | .right w => .left w.mir
  | .left w => .right w.mir
def W.mirs : List W → List W
  | [] => []
  | w :: r => w.mir :: W.mirs r
end
theorem mirs_map : ∀ ws : List W, W.mirs ws = ws.map W.mir
  | [] => by rw [W.mirs]; rfl
  | w :: r => by rw [W.mirs, mirs_map r]; rfl
theorem mir_emp : W.mir .emp = .emp := by rw [W.mir]
theorem mir_ltr {c : Str} : W.mir (.ltr c) = .ltr c := by rw [W.mir]
theorem mir_join {ws : List W} : W.mir (.join ws) = .join (ws.reverse.map W.mir) := by rw [W.mir, mirs_map, List.map_reverse]
theorem mir_times {t : W} {n : Int} : W.mir (.times t n) = .times t.mir n := by rw [W.mir]
theorem mir_right {t : W} : W.mir (.right t) = .left t.mir := by rw [W.mir]
theorem mir_left {t : W} : W.mir (.left t) = .right t.mir := by rw [W.mir]
mutual
theorem W.mir_mir : ∀ w : W, w.mir.mir = w
  | .emp => by rw [mir_emp, mir_emp]
  | .ltr c => by rw [mir_ltr, mir_ltr]
  | .nam c => by rw [W.mir, W.mir]
  | .join ws => by
    rw [mir_join, mir_join, ← List.map_reverse, List.reverse_reverse, List.map_map]
    have := W.mirs_mirs ws
    rw [mirs_map, mirs_map, List.map_map] at this
    rw [this]
  | .times w n => by rw [mir_times, mir_times, W.mir_mir w]
  | .right w => by rw [mir_right, mir_left, W.mir_mir w]
  | .left w => by rw [mir_left, mir_right, W.mir_mir w]
theorem W.mirs_mirs : ∀ ws : List W, W.mirs (W.mirs ws) = ws
  | [] => by rw [W.mirs, W.mirs]
  | w :: r => by rw [W.mirs, W.mirs, W.mir_mir w, W.mirs_mirs r]
end
mutual
theorem W.mir_ok {L : List Str} : ∀ w : W, w.Ok L → w.mir.Ok L
  | .emp, h => by rw [mir_emp]; exact h
  | .ltr c, h => by rw [mir_ltr]; exact h
  | .nam c, h => by unfold W.Ok at h; exact h.elim
  | .join ws, h => by
    rw [W.mir]
    unfold W.Ok at h ⊢
    refine ⟨by rw [List.length_reverse, mirs_map, List.length_map]; exact h.1, W.oks_of fun t q => ?_⟩
    exact W.oks_mem (List.mem_reverse.mp q) (W.mirs_ok ws h.2)
  | .times w n, h => by rw [mir_times]; unfold W.Ok at h ⊢; exact ⟨h.1, h.2.1, W.mir_ok w h.2.2⟩
  | .right w, h => by rw [mir_right]; unfold W.Ok at h ⊢; exact W.mir_ok w h
  | .left w, h => by rw [mir_left]; unfold W.Ok at h ⊢; exact W.mir_ok w h
theorem W.mirs_ok {L : List Str} : ∀ ws : List W, W.Oks L ws → W.Oks L (W.mirs ws)
  | [], h => by rw [W.mirs]; exact h
  | w :: r, h => by rw [W.mirs]; unfold W.Oks at h ⊢; exact ⟨W.mir_ok w h.1, W.mirs_ok r h.2⟩
end
theorem deps_rev {ws : List W} : W.deps ws.reverse = W.deps ws := by
  refine Nat.le_antisymm (W.deps_le fun w h => W.deps_mem (List.mem_reverse.mp h)) (W.deps_le fun w h => W.deps_mem (List.mem_reverse.mpr h))
mutual
theorem W.mir_dep : ∀ w : W, w.mir.dep = w.dep
  | .emp => by rw [mir_emp]
  | .ltr c => by rw [mir_ltr]
  | .nam c => by rw [W.mir]
  | .join ws => by rw [W.mir, W.dep, W.dep, deps_rev, W.mirs_dep ws]
  | .times w n => by rw [mir_times, W.dep, W.dep, W.mir_dep w]
  | .right w => by rw [mir_right, W.dep, W.dep, W.mir_dep w]
  | .left w => by rw [mir_left, W.dep, W.dep, W.mir_dep w]
theorem W.mirs_dep : ∀ ws : List W, W.deps (W.mirs ws) = W.deps ws
  | [] => by rw [W.mirs]
  | w :: r => by rw [W.mirs, W.deps, W.deps, W.mir_dep w, W.mirs_dep r]
end
theorem cnts_rev {L : List Str} {ws : List W} : W.cnts L ws.reverse = W.cnts L ws := by
  by_cases h : none ∈ ws.map (W.cnt L)
  · rw [W.cnts_none h, W.cnts_none (by rw [List.map_reverse]; exact List.mem_reverse.mpr h)]
  · rw [W.cnts_some h, W.cnts_some (by rw [List.map_reverse]; exact fun q => h (List.mem_reverse.mp q)), List.map_reverse, List.sum_reverse]
mutual
theorem W.mir_cnt {L : List Str} : ∀ w : W, w.mir.cnt L = w.cnt L
  | .emp => by rw [mir_emp]
  | .ltr c => by rw [mir_ltr]
  | .nam c => by rw [W.mir]
  | .join ws => by rw [W.mir, cnt_join, cnt_join, cnts_rev, W.mirs_cnt ws]
  | .times w n => by rw [mir_times, cnt_times, cnt_times, W.mir_cnt w]
  | .right w => by rw [mir_right, cnt_right, cnt_left, W.mir_cnt w]
  | .left w => by rw [mir_left, cnt_left, cnt_right, W.mir_cnt w]
theorem W.mirs_cnt {L : List Str} : ∀ ws : List W, W.cnts L (W.mirs ws) = W.cnts L ws
  | [] => by rw [W.mirs]
  | w :: r => by rw [W.mirs, W.cnts, W.cnts, W.mir_cnt w, W.mirs_cnt r]
end
end SW

set_option Elab.async false
set_option linter.all false
set_option maxRecDepth 100000
set_option maxHeartbeats 4000000
namespace SW
open PySem PySem.Spec PyProof.Rows L2
/-! ### defs of any number of arguments -/
structure DfS (K : PySem.W.Frag) (mg : Str → Option Value) (x : Str) (st : Stmt) : Prop where
  ex : ∃ f fd, Fun K x x st f fd ∧ mg x = some (.ref f)
structure CalR (P : Program) (w : World) (K : PySem.W.Frag) (mg : Str → Option Value) (base : Heap) (k : Nat) (x : Str) (sp : Sp) : Prop where
  ex : ∃ f, FnR P w K mg base CX0 k f sp ∧ mg x = some (.ref f) ∧ PySem.W.keepIn K (.ref f) = true
theorem dfs_mk {K : PySem.W.Frag} {mg : Str → Option Value} {h : Heap} {x : Str} {st : Stmt} {f : Addr} {od an : Option Addr} {sl : Array (Option Value)} {oc kV dc pm cd ct : Value} (X : K.In h) (G : h.Ns mainGlobals mg)
    (a : PySem.W.nsIn K mainGlobals x = some (some (.ref f))) (l : K.lookup f = some ⟨oc, od, .func (PySem.W.fnOf x x (defArgs st) (defBody st) (defScope st) .none kV dc pm an cd ct), sl⟩) (c : PySem.W.codeIn K cd x = true) (k : PySem.W.keepIn K (.ref f) = true) : DfS K mg x st :=
  ⟨f, _, fun_mk (st := st) l c k, PySem.W.mg_of X G a⟩
theorem DfS.ok {P : Program} {w : World} {K : PySem.W.Frag} {mg : Str → Option Value} {base : Heap} {x pv : Str} {st : Stmt} {N : List Str} {k : Nat} {sp : Sp} (D : DfS K mg x st) (S : FnScope N [pv] (defScope st))
    (hb : ∀ (kV doc pm : Value) (an : Option Addr) (cdv ct : Value) (rest : List Value), bindArgs (PySem.W.fnOf x x (defArgs st) (defBody st) (defScope st) .none kV doc pm an cdv ct) ⟨rest, []⟩ = (newTuple rest >>= fun t => pure [(pv, t)]))
    (hbody : ∀ (f : Addr) (cdv : Value) (A : Around) (outer : List Env) (s : Shared) (H : Hp) (vs : List V) (Q : VK) (E : XK), Room k (A.deeper (envOfC x (defScope st) s.heap.objs.size f cdv)) → sp vs H Q E →
      ∃ t, PSs (cxOf CX0 P w K mg base N x (defScope st) f cdv A outer s H E).nox (defBody st) t ∧ t { nx := fun _ H' => Q .non H', rt := Q } (start N vs) H) :
    CalR P w K mg base (k + 1) x (fun vs H Q E => vs.length ≤ sizeLine ∧ ∀ p, H p = none → sp [.ref p] (upd H p (.tup vs)) Q E) := by
  obtain ⟨f, fd, F, m⟩ := D.ex
  obtain ⟨oc, od, kV, doc, pm, an, cdv, ct, osl, rfl, lk, hcd⟩ := F.ex
  refine ⟨f, FnR.imp (StX.fn_star (ps := []) (pv := pv) (k := k) (sp := sp) lk hcd S StX.cxUp_none (fun us rest hl => ?_) (fun A outer s H vs Q E hr h => ?_)) (fun vs H Q E h => ⟨[], vs, rfl, rfl, h.1, h.2⟩), m, F.kp⟩
  · have e : us = [] := List.eq_nil_of_length_eq_zero hl
    subst e
    exact hb kV doc pm an cdv ct rest
  · obtain ⟨t, ht, hq⟩ := hbody f cdv A outer s H vs Q E hr h
    exact ⟨t, ht.nox, hq⟩
section
variable {X : Cx} {k j : Nat} {x : Str} {sp : Sp} {p pos : Pos} {e : Expr} {es : List Expr} {t : TA}
theorem pe_ownR (c : CalR X.prog X.w X.K X.mg X.base k x sp) (hr : Room j X.A) (hk : k ≤ j) (hg : Gl X x) (ha : PA X (e :: es) t) (hdb : (x == ("__debug__" : Str)) = false := by decide)
    (he : starEach (e :: es) X.env = (false, eval e X.env) :: starEach es X.env := by rfl) (hpl : (backTo pos (starEach es X.env)).any (·.1) = false := by rfl) :
    PE X (.Call (.Name x p) (e :: es) [] pos) (fun σ H Q => t σ H fun vs H1 => sp vs H1 Q E0) := by
  obtain ⟨f, F, hm, hK⟩ := c.ex
  refine ⟨fun pins s σ H Q I h => ?_⟩
  refine wpAny_Call_Name_kw (ld_glob I hg hm ?_ hdb)
  refine PySem.W.callWith_K (h₀ := X.base) I.ok.mod.kin hK (thn (ha.run pos pins s σ H _ I h) fun us s1 ⟨vs, H1, I1, r, q⟩ => ⟨I1.kIn, ?_⟩) he hpl
  exact wpAny_call (run_fnR (FnR.mono F hk) hr pass0 I1 r q)
theorem pe_ownR0 (c : CalR X.prog X.w X.K X.mg X.base k x sp) (hr : Room j X.A) (hk : k ≤ j) (hg : Gl X x) (hdb : (x == ("__debug__" : Str)) = false := by decide) :
    PE X (.Call (.Name x p) [] [] pos) (fun _ H Q => sp [] H Q E0) := by
  obtain ⟨f, F, hm, hK⟩ := c.ex
  refine ⟨fun pins s σ H Q I h => ?_⟩
  refine wpAny_Call_Name_kw (ld_glob I hg hm ?_ hdb)
  exact PySem.W.callWith_K0 I.kIn hK (wpAny_call (run_fnR (FnR.mono F hk) hr pass0 I .nil h))
end
/-! ### a comprehension with a test -/
theorem lcwT {J : It} {n : Nat} {G : Hp → Prop} {xs : List V} (w : Walk J n G (YAt xs)) {j : Nat} {tt : TT} {te : TE} {σ : L2.St} {H1 : Hp} {D : Addr} {Qd : Hp → Prop} (Pv : Nat → Hp → Prop) (h0 : Pv 0 (upd H1 D (.lst []))) (hG : ∀ i H, i ≤ n → Pv i H → G H)
    (hs : ∀ i x H, i < n → xs[i]? = some x → Pv i H → tt (σ.set j (some x)) H fun b H3 => if b = true then te (σ.set j (some x)) H3 fun y H4 => ∃ acc, H4 D = some (.lst acc) ∧ acc.length < sizeLine ∧ Pv (i + 1) (upd H4 D (.lst (acc ++ [y]))) else Pv (i + 1) H3) (hd : ∀ H, Pv n H → Qd H) :
    ∃ W : Nat → Nat → Hp → Prop, (∃ m, W 0 m (upd H1 D (.lst []))) ∧ ∀ i m H, W i m H →
      (J.stop i H ∧ Qd H) ∨ (J.go i H ∧ ∃ Nx : Hp → Prop, (∀ H', Nx H' → ∃ m', m' < m ∧ W (i + 1) m' H') ∧ ∀ x H', J.yld i H x H' → gName j x (wipe σ [j]) H' fun σ2 H2 => wipe σ2 [j] = wipe σ [j] ∧ tt σ2 H2 fun b H3 =>
        if b = true then te σ2 H3 fun y H4 => ∃ acc, H4 D = some (.lst acc) ∧ acc.length < sizeLine ∧ Nx (upd H4 D (.lst (acc ++ [y]))) else Nx H3) := by
  refine lc_it w Pv h0 hG (fun i x H H' hi p y => ?_) hd
  obtain ⟨rfl, e⟩ := y
  have e1 : wipe σ [j] = σ.set j none := rfl
  have e2 : (wipe σ [j]).set j (some x) = σ.set j (some x) := by rw [e1, List.set_set]
  unfold gName
  rw [e2]
  refine ⟨?_, hs i x H' hi e p⟩
  show (σ.set j (some x)).set j none = σ.set j none
  rw [List.set_set]
/-! ### words joined -/
def W.isE : W → Bool
  | .emp => true
  | _ => false
theorem eqv_emp (t : W) : PyData.eqv t.dat (W.dat .emp) = t.isE := by
  cases t <;> simp [W.dat, W.isE, PyData.eqv, PyData.eqvAll]
theorem emp_shaped : SeqAt.shaped (W.dat .emp) = true := W.shaped (L := abcABC) abc_ok (by unfold W.Ok; trivial) (by decide +kernel)
def W.kept (ws : List W) : List W := ws.filter fun t => !t.isE
theorem kept_snoc {ws : List W} {i : Nat} {t : W} (e : ws[i]? = some t) : W.kept (ws.take (i + 1)) = if (!t.isE) = true then W.kept (ws.take i) ++ [t] else W.kept (ws.take i) := by
  rw [List.take_add_one, e]
  unfold W.kept
  rw [List.filter_append]
  show _ ++ List.filter _ [t] = _
  rw [List.filter_cons]
  split <;> simp
theorem kept_len (ws : List W) : (W.kept ws).length ≤ ws.length := List.length_filter_le _ _
theorem kept_mem {ws : List W} {t : W} (h : t ∈ W.kept ws) : t ∈ ws := (List.mem_filter.mp h).1
def joinW : List W → W
  | [] => .emp
  | [t] => t
  | ws => .join ws
theorem joinW_many {ws : List W} (h : 1 < ws.length) : joinW ws = .join ws := by
  match ws, h with
  | _ :: _ :: _, _ => rfl
theorem joinW_sm {L : List Str} {ws : List W} {n : Nat} (h : ∀ t ∈ ws, t.Ok L ∧ 2 * t.dep ≤ n) (hl : ws.length ≤ 1000) : Sm (n + 2) (joinW ws).dat := by
  match ws, h, hl with
  | [], _, _ =>
    show Sm (n + 1 + 1) (W.dat .emp)
    unfold W.dat Sm
    refine ⟨by decide, fun d q => ?_⟩
    cases List.mem_singleton.mp q
    unfold Sm
    trivial
  | [t], h, _ => exact (W.sm t (h t (List.mem_singleton.mpr rfl)).1).mono (by have := (h t (List.mem_singleton.mpr rfl)).2; omega)
  | a :: b :: r, h, hl =>
    show Sm (n + 1 + 1) (W.dat (.join (a :: b :: r)))
    unfold W.dat Sm
    refine ⟨by show 2 ≤ 1000; decide, fun d q => ?_⟩
    simp only [List.mem_cons, List.not_mem_nil, or_false] at q
    rcases q with rfl | rfl
    · unfold Sm
      trivial
    · unfold Sm
      rw [W.dats_map]
      refine ⟨by rw [List.length_map]; exact hl, fun d q => ?_⟩
      obtain ⟨t, ht, rfl⟩ := List.mem_map.mp q
      exact (W.sm t (h t ht).1).mono (h t ht).2
theorem cut_to (xs : List V) (i : Nat) : cutV xs none (some (i : Int)) = xs.take i := by
  unfold cutV
  rw [HT.sIx_none, HT.sIx_nat]
  show (xs.drop 0).take (min i xs.length - 0) = xs.take i
  rw [List.drop_zero, Nat.sub_zero]
  rcases Nat.le_total i xs.length with h | h
  · rw [Nat.min_eq_left h]
  · rw [Nat.min_eq_right h, List.take_length, List.take_of_length_le h]
theorem WVs.take {K : PySem.W.Frag} {H : Hp} : ∀ (i : Nat) {ws : List W} {xs : List V}, WVs K H xs ws → WVs K H (xs.take i) (ws.take i)
  | 0, ws, xs, _ => by
    rw [List.take_zero, List.take_zero]
    exact wvs_nil
  | i + 1, [], xs, h => by
    unfold WVs W.dats at h
    cases h
    exact wvs_nil
  | i + 1, v :: r, xs, h => by
    unfold WVs W.dats at h
    cases h with | cons a b => ?_
    exact wvs_cons a (WVs.take i (ws := r) b)
end SW

set_option Elab.async false
set_option linter.all false
set_option maxRecDepth 100000
set_option maxHeartbeats 4000000
namespace SW
open PySem PySem.Spec PyProof.Rows L2
section
variable {P : Program} {w : World} {K : PySem.W.Frag} {mg : Str → Option Value} {h : Heap}
theorem df_mk {x : Str} {st : Stmt} {ps : List Str} {f : Addr} {od an : Option Addr} {sl : Array (Option Value)} {oc kV dc pm cd ct : Value} (X : K.In h) (G : h.Ns mainGlobals mg)
    (a : PySem.W.nsIn K mainGlobals x = some (some (.ref f))) (l : K.lookup f = some ⟨oc, od, .func (PySem.W.fnOf x x (defArgs st) (defBody st) (defScope st) .none kV dc pm an cd ct), sl⟩) (c : PySem.W.codeIn K cd x = true) (k : PySem.W.keepIn K (.ref f) = true)
    (hb : ∀ (kV doc pm : Value) (an : Option Addr) (cdv ct : Value) (us : List Value), us.length = ps.length → bindArgs (PySem.W.fnOf x x (defArgs st) (defBody st) (defScope st) .none kV doc pm an cdv ct) ⟨us, []⟩ = pure (ps.zip us)) : Df K mg x st ps := by
  have F := fun_mk (st := st) l c k
  exact ⟨f, _, F, PySem.W.mg_of X G a, F.binds (ps := ps) hb⟩
theorem law_end {st : Stmt} {fa : Addr} {k : Nat} {sp : Sp} (D : Df K mg "law" st ["_law_script"]) (hmg : mg "law" = some (.ref fa))
    (hb : ∀ (kV doc pm : Value) (an : Option Addr) (cdv ct : Value) (v : Value), bindArgs (PySem.W.fnOf "law" "law" (defArgs st) (defBody st) (defScope st) .none kV doc pm an cdv ct) ⟨[v], []⟩ = pure [(("_law_script" : Str), v)])
    (c : ∀ base : Heap, K.In base → base.Ns mainGlobals mg → Cal P w K mg base k "law" ["_law_script"] sp) :
    ∃ fd : FuncData, (∀ (s : Shared) (v : Value), BindsTo s fd ⟨[v], []⟩ [("_law_script", v)]) ∧ ∀ base : Heap, K.In base → base.Ns mainGlobals mg → FnOk P w K mg base CX0 k fa fd ["_law_script"] sp := by
  obtain ⟨f, fd, F, m, b⟩ := D.ex
  have e : f = fa := by
    rw [hmg] at m
    cases m
    rfl
  subst e
  obtain ⟨oc, od, kV, doc, pm, an, cdv, ct, osl, rfl, lk, _⟩ := F.ex
  refine ⟨_, fun s v => .of_eq (hb kV doc pm an cdv ct v), fun base h1 h2 => ?_⟩
  obtain ⟨f', fd', F', m', _, _, oc', od', osl', lk'⟩ := (c base h1 h2).ex
  have e : f' = f := by
    rw [m] at m'
    cases m'
    rfl
  subst e
  rw [lk] at lk'
  cases lk'
  exact F'
theorem sqt_mk {a : Addr} {o : Obj} {its : Array Value} {n : Nat} {xs : List V} (l : K.lookup a = some o) (hc : o.cls = .type "tuple") (hd : o.data = .seq its n) (hs : its.size ≤ sizeLine) (r : Vals xs its.toList) : ∀ H, SqT K H a xs :=
  fun _ => .inr ⟨o, its, n, l, hc, hd, hs, r⟩
end
theorem relstr {z y : Str} {tk : Tok} (h : z = y) : L2.RelV (.str z) (.str y tk) := ⟨tk, by rw [h]⟩
/-- what a law's def promises -/
def spLaw (K : PySem.W.Frag) : Sp := fun vs H Q _ => ∃ (a : Addr) (ns : List Int), vs = [.ref a] ∧ SqL K H a (ns.map V.int) ∧ ∀ H', Q (.bl true) H'
theorem walk {l : PySem.W.OpenLaw} {q : Program} {loose : List Str} {XP : (Str → Option Value) → Heap → Prop} {YP : World → Heap → Prop} {d : DefRec} {K : Params → PySem.W.Frag} {k : Nat} (hr : Room k callerA) (hn : l.most = some 63) (hdf : d.params.defaults = [])
    (hY : ∀ (w : World) (h : Heap), YP w h → (K w.params).In h)
    (F : ∀ (w : World) (mg : Str → Option Value) (fa : Addr) (h : Heap), (K w.params).In h → h.Ns mainGlobals mg → mg d.name = some (.ref fa) →
      ∃ fd : FuncData, (∀ (s : Shared) (u : Value), BindsTo s fd ⟨[u], []⟩ [("_law_script", u)]) ∧ ∀ base : Heap, (K w.params).In base → base.Ns mainGlobals mg → FnOk l.prog w (K w.params) mg base CX0 k fa fd ["_law_script"] (spLaw (K w.params))) :
    PySem.W.WalkO q loose XP YP l.row.toRowW d [] (fun f vs => PySem.call f vs) :=
  L2.walk_of (n := 63) (k := k) (x := "_law_script") (CX := fun _ => CX0) (sp := fun w => spLaw (K w.params)) hn (by decide) hdf hr hY F (fun _ _ a ns hl _ hS => ⟨a, ns, rfl, hS, fun _ => rfl⟩) fun _ _ _ _ _ z => z
end SW

set_option Elab.async false
set_option linter.all false
set_option maxRecDepth 100000
set_option maxHeartbeats 4000000
namespace SW
open PySem PySem.Spec PyProof.Rows L2
/-! ### addresses -/
abbrev big : Int := 1000000000000000000000000000000
/-- the word that a number leads to -/
def W.stp : W → Int → Option W
  | .join ws, i => if 0 ≤ i ∧ i < ws.length then ws[i.toNat]? else none
  | .times w n, i => if 0 ≤ i ∧ i < n then some w else none
  | .right w, i => if 0 ≤ i ∧ i ≤ big then some w else none
  | .left w, i => if 0 ≤ i ∧ i ≤ big then some w else none
  | _, _ => none
theorem stpJ {ws : List W} {i : Int} : (W.join ws).stp i = if 0 ≤ i ∧ i < ws.length then ws[i.toNat]? else none := rfl
theorem stpT {w : W} {n i : Int} : (W.times w n).stp i = if 0 ≤ i ∧ i < n then some w else none := rfl
theorem stpR {w : W} {i : Int} : (W.right w).stp i = if 0 ≤ i ∧ i ≤ big then some w else none := rfl
theorem stpL {w : W} {i : Int} : (W.left w).stp i = if 0 ≤ i ∧ i ≤ big then some w else none := rfl
def W.go : W → List Int → Option W
  | t, [] => some t
  | t, i :: r => match t.stp i with
    | some u => u.go r
    | none => none
def W.isL : W → Bool
  | .ltr _ => true
  | _ => false
/-- ns is the address of a place in t -/
def Vd (t : W) (ns : List Int) : Prop := ∃ c, t.go ns = some (.ltr c)
theorem go_nil (t : W) : t.go [] = some t := by rw [W.go]
theorem go_cons {t u : W} {i : Int} {r : List Int} (h : t.stp i = some u) : t.go (i :: r) = u.go r := by rw [W.go, h]
theorem go_none {t : W} {i : Int} {r : List Int} (h : t.stp i = none) : t.go (i :: r) = none := by rw [W.go, h]
theorem go_app : ∀ (p q : List Int) (t : W), t.go (p ++ q) = match t.go p with
    | some u => u.go q
    | none => none
  | [], q, t => by rw [go_nil]; rfl
  | i :: p, q, t => by
    cases h : t.stp i with
    | none => rw [List.cons_append, go_none h, go_none h]
    | some u => rw [List.cons_append, go_cons h, go_cons h, go_app p q u]
theorem go_app_some {p q : List Int} {t u : W} (h : t.go p = some u) : t.go (p ++ q) = u.go q := by rw [go_app, h]
theorem stp_ok {L : List Str} {t u : W} {i : Int} (o : t.Ok L) (h : t.stp i = some u) : u.Ok L ∧ u.dep + 1 ≤ t.dep := by
  refine W.parts_mem o ?_
  cases t with
  | join ws =>
    rw [stpJ] at h
    split at h
    · exact List.mem_of_getElem? h
    · cases h
  | times w n =>
    rw [stpT] at h
    split at h
    · cases h
      exact List.mem_singleton.mpr rfl
    · cases h
  | right w =>
    rw [stpR] at h
    split at h
    · cases h
      exact List.mem_singleton.mpr rfl
    · cases h
  | left w =>
    rw [stpL] at h
    split at h
    · cases h
      exact List.mem_singleton.mpr rfl
    · cases h
  | emp => cases h
  | ltr c => cases h
  | nam c => cases h
theorem go_ok {L : List Str} : ∀ (ns : List Int) {t u : W}, t.Ok L → t.go ns = some u → u.Ok L ∧ u.dep + ns.length ≤ t.dep
  | [], t, u, o, h => by
    rw [go_nil] at h
    cases h
    exact ⟨o, Nat.le_refl _⟩
  | i :: r, t, u, o, h => by
    cases e : t.stp i with
    | none => rw [go_none e] at h; cases h
    | some v =>
      rw [go_cons e] at h
      have a := stp_ok o e
      have b := go_ok r a.1 h
      refine ⟨b.1, ?_⟩
      rw [List.length_cons]
      omega
theorem vd_nil {c : Str} : Vd (.ltr c) [] := ⟨c, go_nil _⟩
theorem vd_ltr {c : Str} {ns : List Int} (h : Vd (.ltr c) ns) : ns = [] := by
  obtain ⟨d, h⟩ := h
  cases ns with
  | nil => rfl
  | cons i r => rw [go_none (by rfl)] at h; cases h
theorem vd_cons {t u : W} {i : Int} {r : List Int} (h : t.stp i = some u) (v : Vd u r) : Vd t (i :: r) := by
  obtain ⟨c, v⟩ := v
  exact ⟨c, by rw [go_cons h]; exact v⟩
theorem vd_inv {t : W} {ns : List Int} (v : Vd t ns) (h : t.isL = false) : ∃ i r u, ns = i :: r ∧ t.stp i = some u ∧ Vd u r := by
  obtain ⟨c, v⟩ := v
  cases ns with
  | nil =>
    rw [go_nil] at v
    cases v
    cases h
  | cons i r =>
    cases e : t.stp i with
    | none => rw [go_none e] at v; cases v
    | some u =>
      rw [go_cons e] at v
      exact ⟨i, r, u, rfl, e, c, v⟩
theorem stp_join {ws : List W} {k : Nat} {x : W} (h : ws[k]? = some x) : (W.join ws).stp (k : Int) = some x := by
  have hl := (List.getElem?_eq_some_iff.mp h).1
  rw [stpJ]
  rw [if_pos ⟨by omega, by omega⟩]
  exact h
theorem stp_times {w : W} {n i : Int} (h : 0 ≤ i) (h2 : i < n) : (W.times w n).stp i = some w := by
  rw [stpT]
  rw [if_pos ⟨h, h2⟩]
theorem stp_right {w : W} {i : Int} (h : 0 ≤ i) (h2 : i ≤ big) : (W.right w).stp i = some w := by
  rw [stpR]
  rw [if_pos ⟨h, h2⟩]
theorem stp_left {w : W} {i : Int} (h : 0 ≤ i) (h2 : i ≤ big) : (W.left w).stp i = some w := by
  rw [stpL]
  rw [if_pos ⟨h, h2⟩]
/-- how many numbers lead on -/
def W.tot : W → Int
  | .join ws => ws.length
  | .times _ n => n
  | _ => big + 1
theorem stp_tot {t : W} : t.stp t.tot = none := by
  cases t with
  | join ws =>
    show (if 0 ≤ (ws.length : Int) ∧ (ws.length : Int) < ws.length then ws[(ws.length : Int).toNat]? else none) = none
    rw [if_neg (by omega)]
  | times w n =>
    show (if 0 ≤ n ∧ n < n then some w else none) = none
    rw [if_neg (by omega)]
  | right w => rfl
  | left w => rfl
  | emp => rfl
  | ltr c => rfl
  | nam c => rfl
theorem stp_neg {t : W} {i : Int} (h : i < 0) : t.stp i = none := by
  cases t with
  | join ws =>
    rw [stpJ]
    rw [if_neg (by omega)]
  | times w n =>
    rw [stpT]
    rw [if_neg (by omega)]
  | right w =>
    rw [stpR]
    rw [if_neg (by omega)]
  | left w =>
    rw [stpL]
    rw [if_neg (by omega)]
  | emp => rfl
  | ltr c => rfl
  | nam c => rfl
/-- no place stands there -/
def Bad (t : W) (ns : List Int) : Prop := ∀ c, t.go ns ≠ some (.ltr c)
theorem bad_of_none {t : W} {ns : List Int} (h : t.go ns = none) : Bad t ns := fun c e => by rw [h] at e; cases e
theorem bad_of {t u : W} {ns : List Int} (h : t.go ns = some u) (n : u.isL = false) : Bad t ns := fun c e => by
  rw [h] at e
  cases e
  cases n
/-- behind the place -/
theorem bad_more {t : W} {ns : List Int} {i : Int} {r : List Int} (v : Vd t ns) : Bad t (ns ++ i :: r) := by
  obtain ⟨c, v⟩ := v
  refine bad_of_none ?_
  rw [go_app_some v]
  exact go_none (by rfl)
theorem bad_at {t u : W} {p r : List Int} {i : Int} (h : t.go p = some u) (n : u.stp i = none) : Bad t (p ++ i :: r) := by
  refine bad_of_none ?_
  rw [go_app_some h]
  exact go_none n
theorem vd_take {t : W} {ns : List Int} (v : Vd t ns) (k : Nat) : ∃ u, t.go (ns.take k) = some u := by
  obtain ⟨c, v⟩ := v
  rw [← List.take_append_drop k ns, go_app] at v
  cases h : t.go (ns.take k) with
  | none => rw [h] at v; cases v
  | some u => exact ⟨u, rfl⟩
theorem vd_take_isL {t u : W} {ns : List Int} {k : Nat} (v : Vd t ns) (h : t.go (ns.take k) = some u) (hk : k < ns.length) : u.isL = false := by
  obtain ⟨c, v⟩ := v
  rw [← List.take_append_drop k ns, go_app_some h] at v
  have e : ns.drop k = ns[k] :: ns.drop (k + 1) := List.drop_eq_getElem_cons hk
  rw [e] at v
  cases u with
  | ltr d => rw [go_none (by rfl)] at v; cases v
  | _ => rfl
theorem W.cnts_zero {M L : List Str} : ∀ {ws : List W} {x : W}, W.Oks M ws → W.cnts L ws = some 0 → x ∈ ws → x.cnt L = some 0
  | w :: r, x, o, e, h => by
    unfold W.Oks at o
    unfold W.cnts at e
    split at e
    · rename_i a b ea eb
      have e' : a + b = 0 := Option.some.inj e
      have h1 := (W.cnt_bd w o.1 ea).1
      have h2 := (W.cnts_bd r o.2 eb).1
      have ha : a = 0 := by omega
      have hb : b = 0 := by omega
      subst ha
      subst hb
      rcases List.mem_cons.mp h with q | q
      · rw [q]
        exact ea
      · exact W.cnts_zero o.2 eb q
    · cases e
theorem W.cnts_zero_of {L : List Str} : ∀ {ws : List W}, (∀ x ∈ ws, x.cnt L = some 0) → W.cnts L ws = some 0
  | [], _ => by rw [W.cnts]
  | w :: r, h => by
    rw [W.cnts, h w (List.mem_cons_self ..), W.cnts_zero_of fun x q => h x (List.mem_cons_of_mem _ q)]
    rfl
/-- an address has a place: the word is not empty -/
theorem vd_cnt {t : W} (o : t.Ok abc) {ns : List Int} : Vd t ns → t.cnt abcABC ≠ some 0 := by
  induction ns generalizing t with
  | nil =>
    rintro ⟨c, v⟩ e
    rw [go_nil] at v
    cases v
    unfold W.Ok at o
    rw [cnt_ltr, if_pos (abc_sub c o)] at e
    cases e
  | cons i r ih =>
    intro v e
    obtain ⟨c, v'⟩ := v
    cases es : t.stp i with
    | none => rw [go_none es] at v'; cases v'
    | some u =>
      rw [go_cons es] at v'
      have ou := (stp_ok o es).1
      have hu := ih ou ⟨c, v'⟩
      cases t with
      | join ws =>
        rw [stpJ] at es
        split at es
        · have m := List.mem_of_getElem? es
          rw [cnt_join] at e
          unfold W.Ok at o
          exact hu (W.cnts_zero o.2 e m)
        · cases es
      | times w n =>
        rw [stpT] at es
        split at es
        · rename_i hh
          cases es
          unfold W.Ok at o
          rw [cnt_times, if_pos (by omega)] at e
          cases eu : u.cnt abcABC with
          | none => rw [eu] at e; cases e
          | some m =>
            rw [eu] at e
            have e2 : m * n = 0 := Option.some.inj e
            rcases Int.mul_eq_zero.mp e2 with z | z
            · rw [z] at eu
              exact hu eu
            · omega
        · cases es
      | right w =>
        rw [stpR] at es
        split at es
        · cases es
          rw [cnt_right, if_neg hu] at e
          cases e
        · cases es
      | left w =>
        rw [stpL] at es
        split at es
        · cases es
          rw [cnt_left, if_neg hu] at e
          cases e
        · cases es
      | emp => cases es
      | ltr c => cases es
      | nam c => cases es
/-! ### how the heap bears them -/
def AdV (K : PySem.W.Frag) (H : Hp) (v : V) (ns : List Int) : Prop := ∃ a, v = .ref a ∧ SqT K H a (ns.map V.int)
theorem AdV.tp {K : PySem.W.Frag} {H H' : Hp} {v : V} {ns : List Int} (t : Tp H H') (h : AdV K H v ns) : AdV K H' v ns := by
  obtain ⟨a, e, s⟩ := h
  exact ⟨a, e, t.sq s⟩
end SW

set_option Elab.async false
set_option linter.all false
set_option maxRecDepth 100000
set_option maxHeartbeats 4000000
namespace SW
open PySem PySem.Spec PyProof.Rows L2
theorem atI_last {xs : List V} {x : V} : atI (xs ++ [x]) (-1) = some x := by
  unfold atI
  have h : ixN (xs ++ [x]).length (-1) = some xs.length := by
    unfold ixN
    rw [if_neg (by decide), List.length_append, if_pos (by show -(((xs.length + 1 : Nat)) : Int) ≤ -1; omega)]
    congr 1
    show ((-1 : Int) + ((xs.length + 1 : Nat) : Int)).toNat = xs.length
    omega
  rw [h]
  show (xs ++ [x])[xs.length]? = some x
  rw [List.getElem?_append_right (Nat.le_refl _), Nat.sub_self]
  rfl
theorem stp_parts {t u : W} {i : Int} (h : t.stp i = some u) : (∃ ws, t = .join ws ∧ 0 ≤ i ∧ ws[i.toNat]? = some u) ∨ (∃ n, t = .times u n) ∨ t = .right u ∨ t = .left u := by
  cases t with
  | join ws =>
    rw [stpJ] at h
    split at h
    · rename_i hh
      exact .inl ⟨ws, rfl, hh.1, h⟩
    · cases h
  | times w n =>
    rw [stpT] at h
    split at h
    · cases h
      exact .inr (.inl ⟨n, rfl⟩)
    · cases h
  | right w =>
    rw [stpR] at h
    split at h
    · cases h
      exact .inr (.inr (.inl rfl))
    · cases h
  | left w =>
    rw [stpL] at h
    split at h
    · cases h
      exact .inr (.inr (.inr rfl))
    · cases h
  | emp => cases h
  | ltr c => cases h
  | nam c => cases h
/-- here[1][number] if here is a join, else here[1] -/
def tStep (K : PySem.W.Frag) (i j : Nat) : TE := tIf (tTest (tOp rEq (tOp (rIxT K) (tVar i) (tC (.int 0))) (tC (.str "join")))) (tOp (rIxT K) (tOp (rIxT K) (tVar i) (tC (.int 1))) (tVar j)) (tOp (rIxT K) (tVar i) (tC (.int 1)))
theorem walk_step {K : PySem.W.Frag} {i j : Nat} {H : Hp} {x : V} {u u2 : W} {k : Int} {σ : L2.St} {Q : VK} (hx : WV K H x u) (h : u.stp k = some u2) (hi : σ[i]? = some (some x)) (hj : σ[j]? = some (some (.int k))) (q : ∀ y, WV K H y u2 → Q y H) : tStep K i j σ H Q := by
  have at_ := hx.at
  rcases stp_parts h with ⟨ws, rfl, h0, h1⟩ | ⟨n, rfl⟩ | rfl | rfl
  · cases at_ with | @join a b xs ws e s s2 hw => ?_
    cases e
    have hk : k.toNat < xs.length := by rw [hw.length]; exact (List.getElem?_eq_some_iff.mp h1).1
    obtain ⟨u3, e3, hu3⟩ := hw.get (List.getElem?_eq_getElem hk)
    rw [h1] at e3
    cases e3
    exact ⟨_, hi, _, _, _, _, rfl, rfl, s, rfl, rfl, eq_yes rfl ⟨_, hi, _, _, _, _, rfl, rfl, s, rfl, _, hj, _, _, _, _, rfl, rfl, s2, at_of (j := k.toNat) (by omega) (List.getElem?_eq_getElem hk), q _ hu3⟩⟩
  · cases at_ with | times e s hw => ?_
    cases e
    exact ⟨_, hi, _, _, _, _, rfl, rfl, s, rfl, rfl, eq_no (by decide +kernel) ⟨_, hi, _, _, _, _, rfl, rfl, s, rfl, q _ hw⟩⟩
  · cases at_ with | right e s hw => ?_
    cases e
    exact ⟨_, hi, _, _, _, _, rfl, rfl, s, rfl, rfl, eq_no (by decide +kernel) ⟨_, hi, _, _, _, _, rfl, rfl, s, rfl, q _ hw⟩⟩
  · cases at_ with | left e s hw => ?_
    cases e
    exact ⟨_, hi, _, _, _, _, rfl, rfl, s, rfl, rfl, eq_no (by decide +kernel) ⟨_, hi, _, _, _, _, rfl, rfl, s, rfl, q _ hw⟩⟩
theorem cat_one {H : Hp} {K : PySem.W.Frag} {a b : Addr} {i : Int} {ns : List Int} {Q : VK} (ha : SqT K H a [.int i]) (hb : SqT K H b (ns.map V.int)) (hl : ns.length ≤ 1000) (q : ∀ p H', SqT K H' p ((i :: ns).map V.int) → Same H H' → Q (.ref p) H') : rCatT K (.ref a) (.ref b) H Q := by
  refine ⟨a, b, [.int i], ns.map V.int, rfl, rfl, ha, hb, by simp, ?_, fun e => ?_, fun _ p hp => ?_⟩
  · rw [List.length_map]
    exact Nat.le_trans (show 1 + ns.length ≤ 2000 by omega) (by decide)
  · cases ns with
    | nil => exact q a H ha (Same.refl H)
    | cons x r => cases e
  · exact q p _ (SqT.of upd_same) (same_new hp)

/-! ### parts of an address -/
theorem sl_pre {K : PySem.W.Frag} {H : Hp} {a : Addr} {ns : List Int} {i : Int} {k : Nat} {Q : VK} (hi : i = (k : Int)) (ha : SqT K H a (ns.map V.int)) (q : ∀ b H', SqT K H' b ((ns.take k).map V.int) → Same H H' → Q (.ref b) H') : rSlA K (.ref a) none (some i) H Q := by
  subst hi
  have e : cutV (ns.map V.int) none (some (k : Int)) = (ns.take k).map V.int := by rw [cut_to, List.map_take]
  refine ⟨a, _, rfl, ha, fun h => q a H ?_ (Same.refl H), fun _ p hp => q p _ (by rw [e]; exact SqT.of upd_same) (same_new hp)⟩
  have h2 := h.2
  rw [HT.sIx_nat, List.length_map] at h2
  rw [List.take_of_length_le (by omega)]
  exact ha
theorem sl_suf0 {K : PySem.W.Frag} {H : Hp} {a : Addr} {ns : List Int} {i : Int} {k : Nat} {Q : VK} (hi : i = (k : Int)) (ha : SqT K H a (ns.map V.int)) (q : ∀ b H', SqT K H' b ((ns.drop k).map V.int) → Same H H' → Q (.ref b) H') : rSlA K (.ref a) (some i) none H Q := by
  subst hi
  have e : cutV (ns.map V.int) (some (k : Int)) none = (ns.drop k).map V.int := by
    unfold cutV
    rw [HT.sIx_nat, HT.sIx_none, List.length_map, List.map_drop]
    by_cases hk : k ≤ ns.length
    · rw [Nat.min_eq_left hk]
      exact List.take_of_length_le (by rw [List.length_drop, List.length_map]; omega)
    · rw [Nat.min_eq_right (by omega), Nat.sub_self, List.take_zero, List.drop_eq_nil_of_le (by rw [List.length_map]; omega)]
  refine ⟨a, _, rfl, ha, fun h => q a H ?_ (Same.refl H), fun _ p hp => q p _ (by rw [e]; exact SqT.of upd_same) (same_new hp)⟩
  have h2 := h.1
  rw [HT.sIx_nat, List.length_map] at h2
  have h3 : ns.drop k = ns := by
    by_cases hk : k = 0
    · rw [hk, List.drop_zero]
    · have : ns.length = 0 := by omega
      rw [List.length_eq_zero_iff.mp this, List.drop_nil]
  rw [h3]
  exact ha
theorem sl_suf {K : PySem.W.Frag} {σ : L2.St} {H : Hp} {a : Addr} {ns : List Int} {i : Int} {k : Nat} {Q : VK} (hi : i = (k : Int)) (ha : SqT K H a (ns.map V.int)) (q : ∀ b H', SqT K H' b ((ns.drop k).map V.int) → Same H H' → Q (.ref b) H') : tNoPart σ H fun u H3 => rSlA K (.ref a) (some i) u H3 Q :=
  sl_suf0 hi ha q
theorem cat_any {K : PySem.W.Frag} {H : Hp} {a b : Addr} {ns ms : List Int} {Q : VK} (ha : SqT K H a (ns.map V.int)) (hb : SqT K H b (ms.map V.int)) (h1 : ns.length ≤ 1000) (h2 : ms.length ≤ 1000)
    (q : ∀ p H', SqT K H' p ((ns ++ ms).map V.int) → Same H H' → Q (.ref p) H') : rCatA K (.ref a) (.ref b) H Q := by
  refine ⟨a, b, ns.map V.int, ms.map V.int, rfl, rfl, ha, hb, ?_, fun e => ?_, fun _ e => ?_, fun _ _ p hp => ?_⟩
  · rw [List.length_map, List.length_map]
    exact Nat.le_trans (show ns.length + ms.length ≤ 2000 by omega) (by decide)
  · cases ns with
    | nil => exact q b H hb (Same.refl H)
    | cons x r => cases e
  · cases ms with
    | nil => exact q a H (by rw [List.append_nil]; exact ha) (Same.refl H)
    | cons x r => cases e
  · exact q p _ (by rw [List.map_append]; exact SqT.of upd_same) (same_new hp)
/-- what is one tuple of one number -/
theorem one_int {K : PySem.W.Frag} {H : Hp} {p : Addr} {i : Int} (h : SqT K H p [.int i]) : SqT K H p (([i] : List Int).map V.int) := h
theorem kp_same {r : Addr} {H H' : Hp} (s : Same H H') : Kp r H H' := fun b o _ h => s _ _ h
theorem Rng.same {H H' : Hp} {r l : Addr} (g : Rng H r l) (s : Same H H') : Rng H' r l := g.of (fun o h => s _ _ h) (fun o h => s _ _ h)
/-! ### comprehensions of one name with a test -/
theorem lcrT {lo : Int} {n j : Nat} {tt : TT} {te : TE} {σ : L2.St} {H1 : Hp} {D : Addr} {Qd : Hp → Prop} (Pv : Nat → Hp → Prop) (h0 : Pv 0 (upd H1 D (.lst [])))
    (hs : ∀ i H, i < n → Pv i H → tt (σ.set j (some (.int (lo + i)))) H fun b H3 => if b = true then te (σ.set j (some (.int (lo + i)))) H3 fun y H4 => ∃ acc, H4 D = some (.lst acc) ∧ acc.length < sizeLine ∧ Pv (i + 1) (upd H4 D (.lst (acc ++ [y]))) else Pv (i + 1) H3)
    (hd : ∀ H, Pv n H → Qd H) :
    ∃ W : Nat → Nat → Hp → Prop, (∃ m, W 0 m (upd H1 D (.lst []))) ∧ ∀ i m H, W i m H →
      ((Itr lo n).stop i H ∧ Qd H) ∨ ((Itr lo n).go i H ∧ ∃ Nx : Hp → Prop, (∀ H', Nx H' → ∃ m', m' < m ∧ W (i + 1) m' H') ∧ ∀ x H', (Itr lo n).yld i H x H' → gName j x (wipe σ [j]) H' fun σ2 H2 => wipe σ2 [j] = wipe σ [j] ∧ tt σ2 H2 fun b H3 =>
        if b = true then te σ2 H3 fun y H4 => ∃ acc, H4 D = some (.lst acc) ∧ acc.length < sizeLine ∧ Nx (upd H4 D (.lst (acc ++ [y]))) else Nx H3) := by
  refine lc_range Pv h0 (fun i H hi p => ?_) hd
  have e1 : wipe σ [j] = σ.set j none := rfl
  have e2 : (wipe σ [j]).set j (some (.int (lo + i))) = σ.set j (some (.int (lo + i))) := by rw [e1, List.set_set]
  unfold gName
  rw [e2]
  refine ⟨?_, hs i H hi p⟩
  show (σ.set j (some (.int (lo + i)))).set j none = σ.set j none
  rw [List.set_set]
theorem toL_zero {o : Option Int} : toL o = 0 ↔ o = some 0 := by
  cases o with
  | none => exact ⟨fun h => absurd h (by show ¬ (-1 : Int) = 0; decide), fun h => nomatch h⟩
  | some m => exact ⟨fun h => congrArg some h, fun h => Option.some.inj h⟩
/-- == 0 of a count -/
theorem eq0 {o : Option Int} {A B : Prop} (a : o = some 0 → A) (b : o ≠ some 0 → B) : ∃ k, V.bl (decide (V.int (toL o) = V.int 0)) = V.bl k ∧ if k = true then A else B := by
  by_cases h : o = some 0
  · exact ⟨true, by rw [h]; rfl, a h⟩
  · refine ⟨false, ?_, b h⟩
    rw [decide_eq_false]
    intro e
    exact h (toL_zero.mp (V.int.inj e))
/-- != 0 of a count -/
theorem ne0 {o : Option Int} {A B : Prop} (a : o ≠ some 0 → A) (b : o = some 0 → B) : ∃ k, V.bl (!decide (V.int (toL o) = V.int 0)) = V.bl k ∧ if k = true then A else B := by
  by_cases h : o = some 0
  · exact ⟨false, by rw [h]; rfl, b h⟩
  · refine ⟨true, ?_, a h⟩
    rw [decide_eq_false]
    · rfl
    · intro e
      exact h (toL_zero.mp (V.int.inj e))
theorem log_big {m : Int} (h0 : 0 ≤ m) (h : m ≤ 1000000000000000000000000000001) : m.natAbs.log2 < 9000 := by
  refine Nat.lt_of_lt_of_le (PySem.Flt.log2_lt_of (k := 110) (by decide) ?_) (by decide)
  have : m.natAbs ≤ 1000000000000000000000000000001 := by omega
  exact Nat.lt_of_le_of_lt this (by decide)
end SW

set_option Elab.async false
set_option linter.all false
set_option maxRecDepth 100000
set_option maxHeartbeats 4000000
namespace SW
open PySem PySem.Spec PyProof.Rows L2
/-! ### range(a, b) of numbers of any size -/
theorem long_turn {P : Program} {w : World} {K : PySem.W.Frag} {tg : Expr} (z : Addr) (a : Int) (k : Nat) : Turn P w K tg (Itr a k) [z] z (fun j hp => IsLongIter hp z (a + (j : Nat) * 1) ((k : Int) - (j : Nat)) 1) where
  mem := List.mem_singleton.mpr rfl
  obj := fun j hp st b hb => by
    obtain rfl := List.mem_singleton.mp hb
    exact ⟨_, st, fun v q => nomatch (show Data.fields _ = Data.cell v from q)⟩
  keep := fun j hp hp' st kp => kp z (List.mem_singleton.mpr rfl) _ st
  self := fun _ _ _ _ _ st q => wpAny_pyIter_longiter st q
  item := by
    intro X hP hw hK calm j pins s σ H E I fps st going
    subst hP hw hK
    obtain ⟨p0, p1, p2, p3, p4, p5⟩ := fps z (List.mem_singleton.mpr rfl)
    have walks := Walks.longrange (prog := X.prog) (w := X.w) (I.ok.hd calm) z a 1 k
    refine walks.item j s _ _ going st (fun v hp' tk hv st' kept => ?_)
    obtain ⟨t, rfl⟩ := hv
    have J : Inv X pins σ H { s with heap := hp', toks := tk } := I.turned (fun b o hb e => kept b o (by simpa using hb) e) p0 p1 p3 p4 p5
    refine ⟨_, rfl, go_of (s := { s with heap := hp', toks := tk }) (n := "longrange_iterator") st' rfl rfl (by decide) ⟨.int (a + j), H, J, ⟨t, ?_⟩, ⟨rfl, rfl⟩, st', fun b hb => (fps b hb).1⟩⟩
    rw [Int.mul_one]
  done := by
    intro X hP hw hK calm j pins s σ H E I fps st over
    subst hP hw hK
    obtain ⟨p0, p1, p2, p3, p4, p5⟩ := fps z (List.mem_singleton.mpr rfl)
    refine wpAny_pyNext_long_end (I.ok.hd calm) st (by have : k ≤ j := over; omega) (fun hp' eb => ⟨rfl, ?_⟩)
    exact I.turned (t' := s.toks) (fun b o hb e => eb b o hb e) p0 p1 p3 p4 p5
section
variable {X : Cx} {tg : Expr}
theorem walk_range {pins : List (Addr × Obj)} {σ : L2.St} {H : Hp} {s : Shared} {R : It → Hp → Prop} {E : Value → Shared → Prop} {a b : Int} {t u v : Tok} {tk : Nat} (I : Inv X pins σ H s) (q : R (Itr a (b - a).toNat) H) :
    wpAny (model X.prog X.w) X.A (pyIter (.ref s.heap.objs.size)) (PIE X pins σ tg R) E { s with heap := s.heap.push { cls := .type "range", data := .fields #[.int a t, .int b u, .int 1 v] }, toks := tk } := by
  have I1 : Inv X pins σ H { s with heap := s.heap.push { cls := .type "range", data := .fields #[.int a t, .int b u, .int 1 v] }, toks := tk } := I.kept fun c o e => Heap.get?_push_of_some _ e
  have e1 : a + ((0 : Nat) : Int) * 1 = a := by simp
  have e2 : (((b - a).toNat : Nat) : Int) - ((0 : Nat) : Int) = Builtin.Range.rangeSize a b 1 := by
    rw [rangeSize_one]
    split <;> omega
  have fps : ∀ c ∈ [(s.heap.push { cls := .type "range", data := .fields #[.int a t, .int b u, .int 1 v] }).objs.size], FpOk X pins H c := fun c hc => by
    obtain rfl := List.mem_singleton.mp hc
    exact I1.fpOk (Nat.le_refl _) (I1.hok.fresh (Nat.le_refl _))
  cases hs : Builtin.Range.small a b 1 with
  | true =>
    refine wpAny_pyIter_range (IsRange.new ..) hs ?_
    refine ⟨(s.heap.push { cls := .type "range", data := .fields #[.int a t, .int b u, .int 1 v] }).objs.size, [(s.heap.push { cls := .type "range", data := .fields #[.int a t, .int b u, .int 1 v] }).objs.size], _, _, H, rfl, I1.kept (t' := tk) (fun c o e => Heap.get?_push_of_some _ e), turn_range _ a (b - a).toNat, ?_, fps, q⟩
    show IsRangeIter _ _ (a + ((0 : Nat) : Int) * 1) ((((b - a).toNat : Nat) : Int) - ((0 : Nat) : Int)) 1
    rw [e1, e2]
    exact Heap.get?_push_size _ rfl
  | false =>
    refine wpAny_pyIter_longrange (IsRange.new ..) hs ?_
    refine ⟨(s.heap.push { cls := .type "range", data := .fields #[.int a t, .int b u, .int 1 v] }).objs.size, [(s.heap.push { cls := .type "range", data := .fields #[.int a t, .int b u, .int 1 v] }).objs.size], _, _, H, rfl, I1.kept (t' := tk) (fun c o e => Heap.get?_push_of_some _ e), long_turn _ a (b - a).toNat, ?_, fps, q⟩
    show IsLongIter _ _ (a + ((0 : Nat) : Int) * 1) ((((b - a).toNat : Nat) : Int) - ((0 : Nat) : Int)) 1
    rw [e1, e2]
    exact Heap.get?_push_size _ rfl
def iRgW (ta : TA) : TI := fun σ H R => ta σ H fun vs H1 => ∃ a b : Int, vs = [.int a, .int b] ∧ R (Itr a (b - a).toNat) H1
theorem pi_rgW {e1 e2 : Expr} {ta : TA} {p pos : Pos} (hg : Gl X "range") (hm : X.mg "range" = none) (ha : PA X [e1, e2] ta) (hs : starEach [e1, e2] X.env = [(false, eval e1 X.env), (false, eval e2 X.env)] := by rfl) (hs2 : starEach [e2] X.env = [(false, eval e2 X.env)] := by rfl) :
    PI X tg (.Call (.Name "range" p) [e1, e2] [] pos) (iRgW ta) := by
  constructor
  intro pins s σ H R I h
  refine Call_ (ld_blt I hg hm boot_range (PyProof.Rows.callWith_type1 (thn (ha.run pos pins s σ H _ I h) fun us s1 got => ?_) (by rw [hs, hs2]) (by rw [hs2]; rfl)))
  obtain ⟨vs, H1, I1, rel, a, b, e, q⟩ := got
  subst e
  match us, rel with
  | [_, _], .cons ⟨t, rfl⟩ (.cons ⟨t', rfl⟩ .nil) => exact call_range_2 (walk_range I1 q)
end
end SW

set_option Elab.async false
set_option linter.all false
set_option maxRecDepth 100000
set_option maxHeartbeats 4000000
namespace SW
open PySem PySem.Spec PyProof.Rows L2
/-! ### max of a tuple of numbers -/
theorem ints_read {h : Heap} : ∀ {ns : List Int} {us : List Value}, Vals (ns.map V.int) us → ReadsAll h us (ns.map PyData.int) []
  | [], _, .nil => .nil
  | n :: r, _, .cons a b => by
    obtain ⟨t, rfl⟩ := a
    exact ReadsAll.cons (as := []) (bs := []) (Reads.int _ _) (ints_read b)
theorem ints_alike (ns : List Int) : PySem.W.AlikeAll (ns.map PyData.int) := by
  refine ⟨fun x hx y hy => ?_, fun x hx => ?_⟩
  · obtain ⟨a, _, rfl⟩ := List.mem_map.mp hx
    obtain ⟨b, _, rfl⟩ := List.mem_map.mp hy
    rfl
  · obtain ⟨a, _, rfl⟩ := List.mem_map.mp hx
    intro e
    cases e
theorem ints_depth (ns : List Int) : PyData.depthAll (ns.map PyData.int) ≤ 1 := by
  induction ns with
  | nil => simp [PyData.depthAll]
  | cons n r ih =>
    rw [List.map_cons]
    unfold PyData.depthAll
    have : PyData.depth (.int n) ≤ 1 := by simp [PyData.depth]
    omega
theorem fold_max (n : Int) (ns : List Int) : ∀ y ∈ n :: ns, y ≤ ns.foldl max n := by
  induction ns generalizing n with
  | nil =>
    intro y hy
    rw [List.mem_singleton.mp hy]
    exact Int.le_refl _
  | cons k r ih =>
    intro y hy
    rw [List.foldl_cons]
    rcases List.mem_cons.mp hy with rfl | hy
    · exact Int.le_trans (Int.le_max_left _ _) (ih (max y k) _ (List.mem_cons_self ..))
    · rcases List.mem_cons.mp hy with rfl | hy
      · exact Int.le_trans (Int.le_max_right _ _) (ih (max n y) _ (List.mem_cons_self ..))
      · exact ih (max n k) y (List.mem_cons_of_mem _ hy)
def rMaxT (K : PySem.W.Frag) : List V → Hp → VK → Prop := fun vs H Q => ∃ (a : Addr) (n : Int) (ns : List Int), vs = [V.ref a] ∧ SqT K H a ((n :: ns).map V.int) ∧ ∀ m, (∀ y ∈ n :: ns, y ≤ m) → Q (.int m) H
theorem cr_maxT {X : Cx} (hc : X.calm = true) (hu : X.A.units + 64 < cLine) : CallR X (.builtin "max") (rMaxT X.K) := by
  intro pins s σ H vs us Q I r h
  obtain ⟨a, n, ns, rfl, hs, q⟩ := h
  obtain ⟨its, rv, hl, _⟩ := I.tuple hs
  rw [Vals.ref1 r]
  have hd := ints_depth (n :: ns)
  refine PySem.W.max_tuple_data (x := .int n) (xs := ns.map PyData.int) (I.ok.hd hc) (show s.heap.IsTuple a its.toArray from hl) (ints_read rv) (ints_alike (n :: ns)) (by have : PyData.depthAll (.int n :: ns.map PyData.int) ≤ 1 := hd; omega) (fun i v h' tk bs _ hr hk => ?_)
  rw [PySem.W.maxD_ints] at hr
  cases hr
  exact ⟨.int _, H, I.kept (t' := tk) hk, ⟨_, rfl⟩, q _ (fold_max n ns)⟩
/-! ### zip of a list and two tuples -/
def Itz3 (K : PySem.W.Frag) (l a b : Addr) : It :=
  ⟨fun i H => ∃ (xs ys zs : List V) (x y z : V), SqL K H l xs ∧ SqT K H a ys ∧ SqT K H b zs ∧ xs[i]? = some x ∧ ys[i]? = some y ∧ zs[i]? = some z,
    fun i H v H' => ∃ T x y z, v = .ref T ∧ H T = none ∧ H' = upd H T (.tup [x, y, z]) ∧ (∀ xs, SqL K H l xs → xs[i]? = some x) ∧ (∀ ys, SqT K H a ys → ys[i]? = some y) ∧ ∀ zs, SqT K H b zs → zs[i]? = some z,
    fun i H => ∃ xs ys zs : List V, SqL K H l xs ∧ SqT K H a ys ∧ SqT K H b zs ∧ i = min (min xs.length ys.length) zs.length⟩
theorem turn_zip3 {P : Program} {w : World} {K : PySem.W.Frag} {elts : List Expr} {kk : Nat} {tpos : Pos} {l a b z TI TO i1 i2 i3 : Addr} (S : ZipSep3 z TI TO i1 i2 i3 [i1, l] [i2, a] [i3, b]) (n1 : l ≠ i1) (n2 : a ≠ i2) (n3 : b ≠ i3) :
    Turn P w K (.Tuple elts kk tpos) (Itz3 K l a b) [z, TI, TO, i1, i2, i3] z
      (fun i h => IsZip h z TI TO .none ∧ IsTupOf3 h TI (.ref i1) (.ref i2) (.ref i3) ∧ (∃ x y u, IsTupOf3 h TO x y u) ∧ h.IsListIter i1 l i ∧ h.IsTupleIter i2 a i ∧ h.IsTupleIter i3 b i) where
  mem := List.mem_cons_self ..
  obj := fun i h st c hc => by
    obtain ⟨hz, hTI, ⟨x, y, u, hTO⟩, ⟨o1, e1, _, d1⟩, ⟨o2, e2, _, d2⟩, ⟨o3, e3, _, d3⟩⟩ := st
    have e' : c = z ∨ c = TI ∨ c = TO ∨ c = i1 ∨ c = i2 ∨ c = i3 := by simpa using hc
    rcases e' with q | q | q | q | q | q
    · rw [q]; exact ⟨_, hz, fun v q => nomatch q⟩
    · rw [q]; exact ⟨_, hTI, fun v q => nomatch q⟩
    · rw [q]; exact ⟨_, hTO, fun v q => nomatch q⟩
    · rw [q]; exact ⟨o1, e1, fun v q => by rw [d1] at q; cases q⟩
    · rw [q]; exact ⟨o2, e2, fun v q => by rw [d2] at q; cases q⟩
    · rw [q]; exact ⟨o3, e3, fun v q => by rw [d3] at q; cases q⟩
  keep := fun i h h' st k => by
    obtain ⟨hz, hTI, ⟨x, y, u, hTO⟩, h1, h2, h3⟩ := st
    exact ⟨k z (by simp) _ hz, k TI (by simp) _ hTI, ⟨x, y, u, k TO (by simp) _ hTO⟩, h1.at fun o q => k i1 (by simp) o q, h2.at fun o q => k i2 (by simp) o q, h3.at fun o q => k i3 (by simp) o q⟩
  self := fun A i s Q E st h => wpAny_pyIter_zip st.1 h
  item := by
    intro X hP hw hK calm i pins s σ H E I fps st going
    subst hP hw hK
    obtain ⟨hz, hTI, hTO, h1, h2, h3⟩ := st
    obtain ⟨xs, ys, zs, x, y, u, hl, ha, hb, hx, hy, hu⟩ := going
    obtain ⟨its1, r1, p1, _⟩ := I.list hl
    obtain ⟨its2, r2, p2, _⟩ := I.tuple ha
    obtain ⟨its3, r3, p3, _⟩ := I.tuple hb
    obtain ⟨v1, hv1, q1⟩ := r1.get hx
    obtain ⟨v2, hv2, q2⟩ := r2.get hy
    obtain ⟨v3, hv3, q3⟩ := r3.get hu
    have hd : X.A.in1.handled = none := I.ok.hd calm
    have W := WalksT.zipD3 (A := X.A) S (Draws.list (prog := X.prog) (w := X.w) hd i1 l n1 its1.toArray) (Draws.tuple hd i2 a n2 its2.toArray) (Draws.tuple hd i3 b n3 its3.toArray)
    have L1 : i < its1.toArray.size := by rw [List.size_toArray]; exact (List.getElem?_eq_some_iff.mp hv1).1
    have L2 : i < its2.toArray.size := by rw [List.size_toArray]; exact (List.getElem?_eq_some_iff.mp hv2).1
    have L3 : i < its3.toArray.size := by rw [List.size_toArray]; exact (List.getElem?_eq_some_iff.mp hv3).1
    refine W.item i s _ _ (by omega) ⟨hz, hTI, hTO, ⟨h1, p1.isList⟩, ⟨h2, show s.heap.IsTuple a its2.toArray from p2⟩, ⟨h3, show s.heap.IsTuple b its3.toArray from p3⟩⟩ (fun T vals h' tk hvals hT hTup mid kept => ?_)
    obtain ⟨w1, w2, w3, e1, e2, e3, rfl⟩ := hvals
    have a1 : w1 = v1 := by
      have : its1[i]? = some w1 := by simpa using e1
      rw [hv1] at this
      exact (Option.some.inj this).symm
    have a2 : w2 = v2 := by
      have : its2[i]? = some w2 := by simpa using e2
      rw [hv2] at this
      exact (Option.some.inj this).symm
    have a3 : w3 = v3 := by
      have : its3[i]? = some w3 := by simpa using e3
      rw [hv3] at this
      exact (Option.some.inj this).symm
    subst a1 a2 a3
    have apart := W.apart i T h' mid
    refine ⟨_, rfl, W.go elts kk tpos i T { s with heap := h', toks := tk } _ _ mid (fun h'' st' kept2 => ?_)⟩
    have hTup2 : h''.IsTuple T #[w1, w2, w3] := hTup.at fun o q => kept2 T o apart q
    have new : ObjOk X.prog X.w (upd H T (.tup [x, y, u])) h'' T (.tup [x, y, u]) := ⟨by show 3 ≤ sizeLine; decide, [w1, w2, w3], .cons q1 (.cons q2 (.cons q3 .nil)), hTup2⟩
    have sub : ∀ c ∈ [z, TO, i1, i2, i3], FpOk X pins H c := fun c hc => fps c (by
      have e' : c = z ∨ c = TO ∨ c = i1 ∨ c = i2 ∨ c = i3 := by simpa using hc
      rcases e' with q | q | q | q | q <;> rw [q] <;> simp)
    have J : Inv X pins σ (upd H T (.tup [x, y, u])) { s with heap := h'', toks := tk } :=
      I.turnedNew (t' := tk) (ch := [z, TO, i1, i2, i3]) (fun c o hc q => kept2 c o hc (kept c o hc q)) sub hT new
    obtain ⟨gz, gTI, gTO, g1, g2, g3⟩ := st'
    refine ⟨.ref T, _, J, rfl, ⟨T, x, y, u, rfl, I.hok.fresh hT, rfl, fun l' hl' => by rw [I.list_inj hl' hl]; exact hx, fun l' hl' => by rw [I.tuple_inj hl' ha]; exact hy, fun l' hl' => by rw [I.tuple_inj hl' hb]; exact hu⟩, ⟨gz, gTI, gTO, g1.1, g2.1, g3.1⟩, fun c hc => ?_⟩
    have hcl : c < s.heap.objs.size := by
      have e' : c = z ∨ c = TI ∨ c = TO ∨ c = i1 ∨ c = i2 ∨ c = i3 := by simpa using hc
      obtain ⟨x0, y0, u0, hTO⟩ := hTO
      rcases e' with q | q | q | q | q | q
      · rw [q]; exact Heap.lt_size hz
      · rw [q]; exact Heap.lt_size hTI
      · rw [q]; exact Heap.lt_size hTO
      · rw [q]; obtain ⟨_, e1, _⟩ := h1; exact Heap.lt_size e1
      · rw [q]; obtain ⟨_, e1, _⟩ := h2; exact Heap.lt_size e1
      · rw [q]; obtain ⟨_, e1, _⟩ := h3; exact Heap.lt_size e1
    rw [upd_ne (Nat.ne_of_lt (Nat.lt_of_lt_of_le hcl hT))]
    exact (fps c hc).1
  done := by
    intro X hP hw hK calm i pins s σ H E I fps st over
    subst hP hw hK
    obtain ⟨hz, hTI, hTO, h1, h2, h3⟩ := st
    obtain ⟨xs, ys, zs, hl, ha, hb, hi⟩ := over
    obtain ⟨its1, r1, p1, _⟩ := I.list hl
    obtain ⟨its2, r2, p2, _⟩ := I.tuple ha
    obtain ⟨its3, r3, p3, _⟩ := I.tuple hb
    have hd : X.A.in1.handled = none := I.ok.hd calm
    have W := WalksT.zipD3 (A := X.A) S (Draws.list (prog := X.prog) (w := X.w) hd i1 l n1 its1.toArray) (Draws.tuple hd i2 a n2 its2.toArray) (Draws.tuple hd i3 b n3 its3.toArray)
    have e : i = min (min its1.toArray.size its2.toArray.size) its3.toArray.size := by
      rw [List.size_toArray, List.size_toArray, List.size_toArray, ← r1.length, ← r2.length, ← r3.length]
      exact hi
    have sub : ∀ c ∈ [z, TO, i1, i2, i3], FpOk X pins H c := fun c hc => fps c (by
      have e' : c = z ∨ c = TO ∨ c = i1 ∨ c = i2 ∨ c = i3 := by simpa using hc
      rcases e' with q | q | q | q | q <;> rw [q] <;> simp)
    subst e
    exact W.done s _ _ ⟨hz, hTI, hTO, ⟨h1, p1.isList⟩, ⟨h2, show s.heap.IsTuple a its2.toArray from p2⟩, ⟨h3, show s.heap.IsTuple b its3.toArray from p3⟩⟩ (fun h' tk kept => ⟨rfl, I.turnedL (t' := tk) (ch := [z, TO, i1, i2, i3]) (fun c o hc q => kept c o hc q) sub⟩)
def iZip3 (K : PySem.W.Frag) (ta : TA) : TI := fun σ H R => ta σ H fun vs H1 => ∃ l a b xs ys zs, vs = [.ref l, .ref a, .ref b] ∧ SqL K H1 l xs ∧ SqT K H1 a ys ∧ SqT K H1 b zs ∧ R (Itz3 K l a b) H1
theorem pi_zip3 {X : Cx} {e1 e2 e3 : Expr} {ta : TA} {p pos tpos : Pos} {elts : List Expr} {kk : Nat} (hg : Gl X "zip") (hm : X.mg "zip" = none) (ha : PA X [e1, e2, e3] ta)
    (hs : starEach [e1, e2, e3] X.env = (false, eval e1 X.env) :: starEach [e2, e3] X.env := by rfl) (hpl : (backTo pos (starEach [e2, e3] X.env)).any (·.1) = false := by rfl) :
    PI X (.Tuple elts kk tpos) (.Call (.Name "zip" p) [e1, e2, e3] [] pos) (iZip3 X.K ta) := by
  constructor
  intro pins s σ H R I h
  refine Call_ (ld_blt I hg hm PyProof.Rows.boot_zip (PyProof.Rows.callWith_type1 (thn (ha.run pos pins s σ H _ I h) fun us s1 got => ?_) hs hpl))
  obtain ⟨vs, H1, I1, rel, l, a, b, xs, ys, zs, rfl, hl, ht, ht2, q⟩ := got
  match us, rel with
  | [_, _, _], .cons e1 (.cons e2 (.cons e3 .nil)) =>
    cases e1
    cases e2
    cases e3
    obtain ⟨its1, r1, p1, _⟩ := I1.list hl
    obtain ⟨its2, r2, p2, _⟩ := I1.tuple ht
    obtain ⟨its3, r3, p3, _⟩ := I1.tuple ht2
    have p2' : s1.heap.IsTuple a its2.toArray := p2
    have p3' : s1.heap.IsTuple b its3.toArray := p3
    have ll : l < s1.heap.objs.size := by obtain ⟨o, ho, _⟩ := p1.isList; exact Heap.lt_size ho
    have la : a < s1.heap.objs.size := by obtain ⟨o, ho, _⟩ := p2'; exact Heap.lt_size ho
    have lb : b < s1.heap.objs.size := by obtain ⟨o, ho, _⟩ := p3'; exact Heap.lt_size ho
    refine zip_begins3 (begins_list l its1.toArray) (begins_tuple a its2.toArray) (begins_tuple b its3.toArray) p1.isList p2' p3' (fun h' hz hTI hTO g1 g2 g3 hsz hk => wpAny_pyIter_zip hz ?_)
    have I2 : Inv X pins σ H1 { s1 with heap := h' } := I1.kept (t' := s1.toks) hk
    have S := zip_sep3 (N := s1.heap.objs.size) (fp1 := [l]) (fp2 := [a]) (fp3 := [b]) (fun c hc => by rw [List.mem_singleton.mp hc]; exact ll) (fun c hc => by rw [List.mem_singleton.mp hc]; exact la) (fun c hc => by rw [List.mem_singleton.mp hc]; exact lb)
    refine ⟨s1.heap.objs.size + 5, [s1.heap.objs.size + 5, s1.heap.objs.size + 3, s1.heap.objs.size + 4, s1.heap.objs.size, s1.heap.objs.size + 1, s1.heap.objs.size + 2], _, _, H1, rfl, I2,
      turn_zip3 S (Nat.ne_of_lt ll) (Nat.ne_of_lt (Nat.lt_succ_of_lt la)) (Nat.ne_of_lt (Nat.lt_succ_of_lt (Nat.lt_succ_of_lt lb))), ⟨hz, hTI, ⟨_, _, _, hTO⟩, ⟨_, g1, rfl, rfl⟩, ⟨_, g2, rfl, rfl⟩, ⟨_, g3, rfl, rfl⟩⟩, fun c hc => ?_, q⟩
    have hle : s1.heap.objs.size ≤ c := by
      have e' : c = s1.heap.objs.size + 5 ∨ c = s1.heap.objs.size + 3 ∨ c = s1.heap.objs.size + 4 ∨ c = s1.heap.objs.size ∨ c = s1.heap.objs.size + 1 ∨ c = s1.heap.objs.size + 2 := by simpa using hc
      rcases e' with q | q | q | q | q | q <;> rw [q]
      · exact Nat.le_add_right _ _
      · exact Nat.le_add_right _ _
      · exact Nat.le_add_right _ _
      · exact Nat.le_refl _
      · exact Nat.le_add_right _ _
      · exact Nat.le_add_right _ _
    exact I1.fpOk hle (I1.hok.fresh hle)
/-- a loop over it -/
theorem for_zip3 {K : PySem.W.Frag} {l a b : Addr} {xs ys zs : List V} {g : TG} {tb : TS} {D : Ends} {σ : L2.St} {H : Hp} {n : Nat} (hn : n = min (min xs.length ys.length) zs.length) (Pv : Nat → L2.St → Hp → Prop) (h0 : Pv 0 σ H) (hq : ∀ i σ H, Pv i σ H → SqL K H l xs ∧ SqT K H a ys ∧ SqT K H b zs)
    (hs : ∀ (i : Nat) (x y u : V) (T : Addr) (σ : L2.St) (H : Hp), xs[i]? = some x → ys[i]? = some y → zs[i]? = some u → Pv i σ H → H T = none → g (.ref T) σ (upd H T (.tup [x, y, u])) fun σ2 H2 => tb { D with nx := Pv (i + 1), ct := Pv (i + 1), bk := D.nx } σ2 H2) (hd : ∀ σ H, Pv n σ H → D.nx σ H) :
    ∃ W : Nat → Nat → L2.St → Hp → Prop, (∃ m, W 0 m σ H) ∧ ∀ i m σ H, W i m σ H →
      ((Itz3 K l a b).stop i H ∧ D.nx σ H) ∨ ((Itz3 K l a b).go i H ∧ ∃ N : L2.St → Hp → Prop, (∀ σ' H', N σ' H' → ∃ m', m' < m ∧ W (i + 1) m' σ' H') ∧ ∀ v H', (Itz3 K l a b).yld i H v H' → g v σ H' fun σ2 H2 => tb { D with nx := N, ct := N, bk := D.nx } σ2 H2) := by
  refine ⟨fun i m σ H => m = n - i ∧ i ≤ n ∧ Pv i σ H, ⟨n, rfl, Nat.zero_le _, h0⟩, ?_⟩
  rintro i m σ H ⟨rfl, hi, p⟩
  obtain ⟨qx, qy, qz⟩ := hq i σ H p
  by_cases hlt : i < n
  · have h1 : xs[i]? = some xs[i] := List.getElem?_eq_getElem (by omega)
    have h2 : ys[i]? = some ys[i] := List.getElem?_eq_getElem (by omega)
    have h3 : zs[i]? = some zs[i] := List.getElem?_eq_getElem (by omega)
    refine .inr ⟨⟨xs, ys, zs, _, _, _, qx, qy, qz, h1, h2, h3⟩, Pv (i + 1), fun σ' H' p' => ⟨n - (i + 1), by omega, rfl, hlt, p'⟩, fun v H' y => ?_⟩
    obtain ⟨T, x', y', u', rfl, hT, rfl, f1, f2, f3⟩ := y
    exact hs i x' y' u' T σ H (f1 xs qx) (f2 ys qy) (f3 zs qz) p hT
  · have e : i = n := by omega
    subst e
    exact .inl ⟨⟨xs, ys, zs, qx, qy, qz, hn⟩, hd σ H p⟩
/-- a loop over zip of two tuples of any lengths -/
theorem for_zipTm {K : PySem.W.Frag} {a b : Addr} {xs ys : List V} {g : TG} {tb : TS} {D : Ends} {σ : L2.St} {H : Hp} {n : Nat} (hn : n = min xs.length ys.length) (Pv : Nat → L2.St → Hp → Prop) (h0 : Pv 0 σ H) (hq : ∀ i σ H, Pv i σ H → SqT K H a xs ∧ SqT K H b ys)
    (hs : ∀ (i : Nat) (x y : V) (T : Addr) (σ : L2.St) (H : Hp), xs[i]? = some x → ys[i]? = some y → Pv i σ H → H T = none → g (.ref T) σ (upd H T (.tup [x, y])) fun σ2 H2 => tb { D with nx := Pv (i + 1), ct := Pv (i + 1), bk := D.nx } σ2 H2) (hd : ∀ σ H, Pv n σ H → D.nx σ H) :
    ∃ W : Nat → Nat → L2.St → Hp → Prop, (∃ m, W 0 m σ H) ∧ ∀ i m σ H, W i m σ H →
      ((RZ.ItzT K a b).stop i H ∧ D.nx σ H) ∨ ((RZ.ItzT K a b).go i H ∧ ∃ N : L2.St → Hp → Prop, (∀ σ' H', N σ' H' → ∃ m', m' < m ∧ W (i + 1) m' σ' H') ∧ ∀ v H', (RZ.ItzT K a b).yld i H v H' → g v σ H' fun σ2 H2 => tb { D with nx := N, ct := N, bk := D.nx } σ2 H2) := by
  refine ⟨fun i m σ H => m = n - i ∧ i ≤ n ∧ Pv i σ H, ⟨n, rfl, Nat.zero_le _, h0⟩, ?_⟩
  rintro i m σ H ⟨rfl, hi, p⟩
  obtain ⟨qx, qy⟩ := hq i σ H p
  by_cases hlt : i < n
  · have h1 : xs[i]? = some xs[i] := List.getElem?_eq_getElem (by omega)
    have h2 : ys[i]? = some ys[i] := List.getElem?_eq_getElem (by omega)
    refine .inr ⟨⟨xs, ys, _, _, qx, qy, h1, h2⟩, Pv (i + 1), fun σ' H' p' => ⟨n - (i + 1), by omega, rfl, hlt, p'⟩, fun v H' y => ?_⟩
    obtain ⟨T, x', y', rfl, hT, rfl, f1, f2⟩ := y
    exact hs i x' y' T σ H (f1 xs qx) (f2 ys qy) p hT
  · have e : i = n := by omega
    subst e
    exact .inl ⟨⟨xs, ys, qx, qy, by omega⟩, hd σ H p⟩
end SW

set_option Elab.async false
set_option linter.all false
set_option maxRecDepth 100000
set_option maxHeartbeats 4000000
namespace SW
open PySem PySem.Spec PyProof.Rows L2
/-! ### the first letters of a word -/
/-- of k copies -/
def cpl (f : Nat → List Str) (e : Bool) : Nat → Nat → List Str
  | 0, _ => []
  | k + 1, m => if e = true then f m else f m ++ cpl f e k (m - (f m).length)
def W.noEnd (w : W) : Bool := decide (w.cnt abcABC = none)
mutual
def W.op : W → Nat → List Str
  | .emp, _ => []
  | .ltr c, m => if m = 0 then [] else [c]
  | .nam _, _ => []
  | .join ws, m => if m = 0 ∨ (W.join ws).cnt abcABC = some 0 then [] else W.ops ws m
  | .times w n, m => if m = 0 ∨ (W.times w n).cnt abcABC = some 0 then [] else cpl w.op w.noEnd (min n.toNat (m + 60)) m
  | .right w, m => if m = 0 ∨ (W.right w).cnt abcABC = some 0 then [] else cpl w.op w.noEnd m m
  | .left _, _ => []
def W.ops : List W → Nat → List Str
  | [], _ => []
  | w :: r, m => if w.noEnd = true then W.op w m else W.op w m ++ W.ops r (m - (W.op w m).length)
end
theorem op_emp {m : Nat} : W.op .emp m = [] := by rw [W.op]
theorem op_ltr {c : Str} {m : Nat} : W.op (.ltr c) m = if m = 0 then [] else [c] := by rw [W.op]
theorem op_left {w : W} {m : Nat} : W.op (.left w) m = [] := by rw [W.op]
theorem op_join {ws : List W} {m : Nat} : W.op (.join ws) m = if m = 0 ∨ (W.join ws).cnt abcABC = some 0 then [] else W.ops ws m := by rw [W.op]
theorem op_times {w : W} {n : Int} {m : Nat} : W.op (.times w n) m = if m = 0 ∨ (W.times w n).cnt abcABC = some 0 then [] else cpl w.op w.noEnd (min n.toNat (m + 60)) m := by rw [W.op]
theorem op_right {w : W} {m : Nat} : W.op (.right w) m = if m = 0 ∨ (W.right w).cnt abcABC = some 0 then [] else cpl w.op w.noEnd m m := by rw [W.op]
theorem ops_nil {m : Nat} : W.ops [] m = [] := by rw [W.ops]
theorem ops_cons {w : W} {r : List W} {m : Nat} : W.ops (w :: r) m = if w.noEnd = true then W.op w m else W.op w m ++ W.ops r (m - (W.op w m).length) := by rw [W.ops]
theorem cpl_len {f : Nat → List Str} {e : Bool} (hf : ∀ m, (f m).length ≤ m) : ∀ k m, (cpl f e k m).length ≤ m
  | 0, m => by rw [cpl]; exact Nat.zero_le _
  | k + 1, m => by
    rw [cpl]
    split
    · exact hf m
    · rw [List.length_append]
      have h1 := hf m
      have h2 := cpl_len hf (e := e) k (m - (f m).length)
      omega
mutual
theorem op_len : ∀ (w : W) (m : Nat), (w.op m).length ≤ m
  | .emp, m => by rw [op_emp]; exact Nat.zero_le _
  | .nam c, m => by rw [W.op]; exact Nat.zero_le _
  | .ltr c, m => by
    rw [op_ltr]
    split
    · exact Nat.zero_le _
    · show 1 ≤ m
      omega
  | .left w, m => by rw [op_left]; exact Nat.zero_le _
  | .join ws, m => by
    rw [op_join]
    split
    · exact Nat.zero_le _
    · exact ops_len ws m
  | .times w n, m => by
    rw [op_times]
    split
    · exact Nat.zero_le _
    · exact cpl_len (op_len w) _ m
  | .right w, m => by
    rw [op_right]
    split
    · exact Nat.zero_le _
    · exact cpl_len (op_len w) _ m
theorem ops_len : ∀ (ws : List W) (m : Nat), (W.ops ws m).length ≤ m
  | [], m => by rw [ops_nil]; exact Nat.zero_le _
  | w :: r, m => by
    rw [ops_cons]
    have h1 := op_len w m
    split
    · exact h1
    · rw [List.length_append]
      have h2 := ops_len r (m - (w.op m).length)
      omega
end
theorem op_zero (w : W) : w.op 0 = [] := List.length_eq_zero_iff.mp (Nat.le_zero.mp (op_len w 0))
theorem ops_zero (ws : List W) : W.ops ws 0 = [] := List.length_eq_zero_iff.mp (Nat.le_zero.mp (ops_len ws 0))
/-- no places, no letters -/
theorem op_none {w : W} (o : w.Ok abc) (h : w.cnt abcABC = some 0) (m : Nat) : w.op m = [] := by
  cases w with
  | emp => exact op_emp
  | nam c => rw [W.op]
  | left w => exact op_left
  | ltr c =>
    unfold W.Ok at o
    rw [cnt_ltr, if_pos (abc_sub c o)] at h
    cases h
  | join ws => rw [op_join, if_pos (.inr h)]
  | times w n => rw [op_times, if_pos (.inr h)]
  | right w => rw [op_right, if_pos (.inr h)]
theorem ops_none : ∀ {ws : List W}, W.Oks abc ws → W.cnts abcABC ws = some 0 → ∀ m, W.ops ws m = []
  | [], _, _, m => ops_nil
  | w :: r, o, h, m => by
    have hw := W.cnts_zero o h (List.mem_cons_self ..)
    have o' := o
    unfold W.Oks at o'
    rw [ops_cons, if_neg (by unfold W.noEnd; rw [hw]; decide), op_none o'.1 hw, List.nil_append]
    refine ops_none o'.2 (W.cnts_zero_of fun x hx => W.cnts_zero o h (List.mem_cons_of_mem _ hx)) _
theorem op_join' {ws : List W} (o : W.Oks abc ws) (m : Nat) : W.op (.join ws) m = W.ops ws m := by
  rw [op_join]
  split
  · rename_i h
    rcases h with h | h
    · rw [h, ops_zero]
    · rw [cnt_join] at h
      rw [ops_none o h]
  · rfl
/-! ### words of the same letters -/
structure El (a b : W) : Prop where
  op : ∀ m, a.op m = b.op m
  mop : ∀ m, a.mir.op m = b.mir.op m
  cnt : ∀ L, a.cnt L = b.cnt L
theorem El.refl (a : W) : El a a := ⟨fun _ => rfl, fun _ => rfl, fun _ => rfl⟩
def Els : List W → List W → Prop
  | [], [] => True
  | a :: r, b :: s => El a b ∧ Els r s
  | _, _ => False
theorem els_refl : ∀ ws, Els ws ws
  | [] => trivial
  | w :: r => ⟨El.refl w, els_refl r⟩
theorem els_app : ∀ {a b c d : List W}, Els a b → Els c d → Els (a ++ c) (b ++ d)
  | [], [], _, _, _, g => g
  | x :: r, y :: s, _, _, h, g => ⟨h.1, els_app h.2 g⟩
  | [], _ :: _, _, _, h, _ => h.elim
  | _ :: _, [], _, _, h, _ => h.elim
theorem els_ops : ∀ {a b : List W}, Els a b → ∀ m, W.ops a m = W.ops b m
  | [], [], _, _ => rfl
  | x :: r, y :: s, h, m => by
    have e : x.noEnd = y.noEnd := by unfold W.noEnd; rw [h.1.cnt]
    rw [ops_cons, ops_cons, h.1.op, e, els_ops h.2]
  | [], _ :: _, h, _ => h.elim
  | _ :: _, [], h, _ => h.elim
theorem els_cnts {L : List Str} : ∀ {a b : List W}, Els a b → W.cnts L a = W.cnts L b
  | [], [], _ => rfl
  | x :: r, y :: s, h => by rw [W.cnts, W.cnts, h.1.cnt, els_cnts h.2]
  | [], _ :: _, h => h.elim
  | _ :: _, [], h => h.elim
/-- the words mirrored, the last one first -/
def mrs (ws : List W) : List W := (ws.map W.mir).reverse
theorem els_mrs {a b : List W} (h : Els a b) : ∀ m, W.ops (mrs a) m = W.ops (mrs b) m := by
  suffices H : Els (mrs a) (mrs b) ∨ ∀ m, W.ops (mrs a) m = W.ops (mrs b) m by
    rcases H with H | H
    · exact els_ops H
    · exact H
  right
  have : ∀ {a b : List W}, Els a b → ∀ (c d : List W), (∀ m, W.ops c m = W.ops d m) → ∀ m, W.ops (mrs a ++ c) m = W.ops (mrs b ++ d) m := by
    intro a
    induction a with
    | nil =>
      intro b h c d g
      cases b with
      | nil => exact g
      | cons y s => exact h.elim
    | cons x r ih =>
      intro b h c d g
      cases b with
      | nil => exact h.elim
      | cons y s =>
        have e1 : mrs (x :: r) ++ c = mrs r ++ (x.mir :: c) := by unfold mrs; rw [List.map_cons, List.reverse_cons, List.append_assoc]; rfl
        have e2 : mrs (y :: s) ++ d = mrs s ++ (y.mir :: d) := by unfold mrs; rw [List.map_cons, List.reverse_cons, List.append_assoc]; rfl
        rw [e1, e2]
        refine ih h.2 _ _ (fun m => ?_)
        have e : x.mir.noEnd = y.mir.noEnd := by unfold W.noEnd; rw [W.mir_cnt, W.mir_cnt, h.1.cnt]
        rw [ops_cons, ops_cons, h.1.mop, e, g]
  intro m
  have := this h [] [] (fun _ => rfl) m
  rwa [List.append_nil, List.append_nil] at this
/-- what the program drops -/
def W.isEmp : W → Bool
  | .emp => true
  | _ => false
def noEmp (ws : List W) : List W := ws.filter fun w => !w.isEmp
theorem ops_noEmp : ∀ (ws : List W) (m : Nat), W.ops (noEmp ws) m = W.ops ws m
  | [], m => rfl
  | w :: r, m => by
    cases w with
    | emp =>
      have e : noEmp (.emp :: r) = noEmp r := rfl
      rw [e, ops_noEmp r, ops_cons, op_emp, if_neg (by unfold W.noEnd; rw [cnt_emp]; decide)]
      rfl
    | _ =>
      rename_i x
      have e : ∀ z : W, z.isEmp = false → noEmp (z :: r) = z :: noEmp r := fun z hz => by
        unfold noEmp
        rw [List.filter_cons_of_pos (by rw [hz]; rfl)]
      rw [e _ rfl, ops_cons, ops_cons, ops_noEmp r]
theorem cnts_noEmp {L : List Str} : ∀ ws : List W, W.cnts L (noEmp ws) = W.cnts L ws
  | [] => rfl
  | w :: r => by
    cases w with
    | emp =>
      have e : noEmp (.emp :: r) = noEmp r := rfl
      rw [e, cnts_noEmp r, W.cnts, cnt_emp]
      cases W.cnts L r with
      | none => rfl
      | some b => show some b = some (0 + b); rw [Int.zero_add]
    | _ =>
      have e : ∀ z : W, z.isEmp = false → noEmp (z :: r) = z :: noEmp r := fun z hz => by
        unfold noEmp
        rw [List.filter_cons_of_pos (by rw [hz]; rfl)]
      rw [e _ rfl, W.cnts, W.cnts, cnts_noEmp r]
theorem mrs_noEmp (ws : List W) : mrs (noEmp ws) = noEmp (mrs ws) := by
  have h : ∀ w : W, w.mir.isEmp = w.isEmp := fun w => by
    cases w with
    | emp => rw [mir_emp]
    | ltr c => rw [mir_ltr]
    | nam c => rw [W.mir]
    | join ws => rw [mir_join]; rfl
    | times w n => rw [mir_times]; rfl
    | right w => rw [mir_right]; rfl
    | left w => rw [mir_left]; rfl
  unfold mrs noEmp
  rw [List.filter_reverse, List.filter_map]
  congr 2
  apply List.filter_congr
  intro x _
  show (!x.isEmp) = !x.mir.isEmp
  rw [h]
/-- what joined makes of words -/
def jnd (ws : List W) : W := match noEmp ws with
  | [] => .emp
  | [w] => w
  | l => .join l
end SW

set_option Elab.async false
set_option linter.all false
set_option maxRecDepth 100000
set_option maxHeartbeats 4000000
namespace SW
open PySem PySem.Spec PyProof.Rows L2
/-! ### what joined makes of words -/
theorem cnts_one {L : List Str} (w : W) : W.cnts L [w] = w.cnt L := by
  rw [W.cnts, W.cnts]
  cases w.cnt L with
  | none => rfl
  | some a => show some (a + 0) = some a; rw [Int.add_zero]
theorem ops_one (w : W) (m : Nat) : W.ops [w] m = w.op m := by
  rw [ops_cons, ops_nil, List.append_nil]
  split <;> rfl
theorem jnd_cases (ws : List W) : (noEmp ws = [] ∧ jnd ws = .emp) ∨ (∃ w, noEmp ws = [w] ∧ jnd ws = w) ∨ (2 ≤ (noEmp ws).length ∧ jnd ws = .join (noEmp ws)) := by
  unfold jnd
  cases h : noEmp ws with
  | nil => exact .inl ⟨rfl, rfl⟩
  | cons w r =>
    cases r with
    | nil => exact .inr (.inl ⟨w, rfl, rfl⟩)
    | cons x s => exact .inr (.inr ⟨by simp, rfl⟩)
theorem noEmp_mem {ws : List W} {w : W} (h : w ∈ noEmp ws) : w ∈ ws := (List.mem_filter.mp h).1
theorem noEmp_len (ws : List W) : (noEmp ws).length ≤ ws.length := List.length_filter_le _ _
theorem jnd_cnt {L : List Str} (ws : List W) : (jnd ws).cnt L = W.cnts L ws := by
  rw [← cnts_noEmp ws]
  rcases jnd_cases ws with ⟨h, e⟩ | ⟨w, h, e⟩ | ⟨h, e⟩
  · rw [e, h, cnt_emp, W.cnts]
  · rw [e, h, cnts_one]
  · rw [e, cnt_join]
theorem jnd_op {ws : List W} (o : W.Oks abc ws) (m : Nat) : (jnd ws).op m = W.ops ws m := by
  rw [← ops_noEmp ws]
  rcases jnd_cases ws with ⟨h, e⟩ | ⟨w, h, e⟩ | ⟨h, e⟩
  · rw [e, h, op_emp, ops_nil]
  · rw [e, h, ops_one]
  · rw [e, op_join' (W.oks_of fun w hw => W.oks_mem (noEmp_mem hw) o)]
theorem mrs_ok {L : List Str} {ws : List W} (o : W.Oks L ws) : W.Oks L (mrs ws) := W.oks_of fun w hw => by
  obtain ⟨x, hx, rfl⟩ := List.mem_map.mp (List.mem_reverse.mp hw)
  exact W.mir_ok x (W.oks_mem hx o)
theorem mir_join_mrs (ws : List W) : (W.join ws).mir = .join (mrs ws) := by
  rw [mir_join]
  unfold mrs
  rw [List.map_reverse]
theorem jnd_mop {ws : List W} (o : W.Oks abc ws) (m : Nat) : (jnd ws).mir.op m = W.ops (mrs ws) m := by
  have oN : W.Oks abc (noEmp ws) := W.oks_of fun w hw => W.oks_mem (noEmp_mem hw) o
  rw [← ops_noEmp (mrs ws), ← mrs_noEmp]
  rcases jnd_cases ws with ⟨h, e⟩ | ⟨w, h, e⟩ | ⟨h, e⟩
  · rw [e, h, mir_emp, op_emp]
    exact ops_nil.symm
  · rw [e, h]
    exact (ops_one _ _).symm
  · rw [e, mir_join_mrs, op_join' (mrs_ok oN)]
theorem jnd_ok {L : List Str} {ws : List W} (o : W.Oks L ws) (h : ws.length ≤ 16) : (jnd ws).Ok L := by
  rcases jnd_cases ws with ⟨h1, e⟩ | ⟨w, h1, e⟩ | ⟨h1, e⟩
  · rw [e]; unfold W.Ok; trivial
  · rw [e]
    exact W.oks_mem (noEmp_mem (by rw [h1]; exact List.mem_singleton.mpr rfl)) o
  · rw [e]
    unfold W.Ok
    exact ⟨Nat.le_trans (noEmp_len ws) h, W.oks_of fun w hw => W.oks_mem (noEmp_mem hw) o⟩
theorem jnd_dep {ws : List W} {n : Nat} (h : ∀ w ∈ ws, w.dep ≤ n) : (jnd ws).dep ≤ n + 1 := by
  rcases jnd_cases ws with ⟨h1, e⟩ | ⟨w, h1, e⟩ | ⟨h1, e⟩
  · rw [e, W.dep]; omega
  · rw [e]
    have := h w (noEmp_mem (by rw [h1]; exact List.mem_singleton.mpr rfl))
    omega
  · rw [e, W.dep]
    have := W.deps_le (ws := noEmp ws) (n := n) fun w hw => h w (noEmp_mem hw)
    omega
/-! ### the words beside a place -/
def rep (w : W) (n : Int) : W := if n = 0 then .emp else if n = 1 then w else .times w n
theorem op_times1 {w : W} (o : w.Ok abc) (m : Nat) : (W.times w 1).op m = w.op m := by
  have hc : (W.times w 1).cnt abcABC = w.cnt abcABC := by
    rw [cnt_times, if_pos (by decide)]
    cases w.cnt abcABC with
    | none => rfl
    | some a => show some (a * 1) = some a; rw [Int.mul_one]
  rw [op_times, hc]
  split
  · rename_i h
    rcases h with h | h
    · rw [h, op_zero]
    · rw [op_none o h]
  · have e : min (1 : Int).toNat (m + 60) = 1 := by show min 1 (m + 60) = 1; omega
    rw [e, cpl, cpl, List.append_nil]
    split <;> rfl
theorem op_times0 {w : W} (m : Nat) : (W.times w 0).op m = [] := by
  rw [op_times, if_pos (.inr (by rw [cnt_times, if_neg (by decide)]))]
theorem rep_el {w : W} (o : w.Ok abc) (n : Int) : El (rep w n) (.times w n) := by
  unfold rep
  by_cases h0 : n = 0
  · rw [if_pos h0, h0]
    refine ⟨fun m => by rw [op_emp, op_times0], fun m => by rw [mir_emp, mir_times, op_emp, op_times0], fun L => by rw [cnt_emp, cnt_times, if_neg (by decide)]⟩
  · rw [if_neg h0]
    by_cases h1 : n = 1
    · rw [if_pos h1, h1]
      refine ⟨fun m => (op_times1 o m).symm, fun m => by rw [mir_times, op_times1 (W.mir_ok w o)], fun L => ?_⟩
      rw [cnt_times, if_pos (by decide)]
      cases w.cnt L with
      | none => rfl
      | some a => show some a = some (a * 1); rw [Int.mul_one]
    · rw [if_neg h1]
      exact El.refl _
theorem rep_ok {L : List Str} {w : W} (o : w.Ok L) {n : Int} (h : 0 ≤ n) (h2 : n ≤ big) : (rep w n).Ok L := by
  unfold rep
  split
  · unfold W.Ok; trivial
  · split
    · exact o
    · unfold W.Ok; exact ⟨h, h2, o⟩
theorem rep_dep {w : W} {n : Int} : (rep w n).dep ≤ w.dep + 1 := by
  unfold rep
  split
  · rw [W.dep]; omega
  · split
    · omega
    · rw [W.dep]; exact Nat.le_refl _
/-- before and behind a number: P the program's, L the law's -/
def bef (c : W → Int → W) : W → Int → List W
  | .join ws, i => ws.take i.toNat
  | .times w _, i => [c w i]
  | .right w, i => [c w i]
  | .left w, _ => [.left w]
  | _, _ => []
def aft (c : W → Int → W) : W → Int → List W
  | .join ws, i => ws.drop (i.toNat + 1)
  | .times w n, i => [c w (n - i - 1)]
  | .right w, _ => [.right w]
  | .left w, i => [c w i]
  | _, _ => []
def befs (c : W → Int → W) : W → List Int → List W
  | t, i :: r => bef c t i ++ (match t.stp i with
    | some u => befs c u r
    | none => [])
  | _, [] => []
def afts (c : W → Int → W) : W → List Int → List W
  | t, i :: r => (match t.stp i with
    | some u => afts c u r
    | none => []) ++ aft c t i
  | _, [] => []
abbrev tms : W → Int → W := fun w n => .times w n
theorem bef_els {t u : W} {i : Int} (o : t.Ok abc) (h : t.stp i = some u) : Els (bef rep t i) (bef tms t i) ∧ Els (aft rep t i) (aft tms t i) := by
  cases t with
  | join ws => exact ⟨els_refl _, els_refl _⟩
  | times w n =>
    unfold W.Ok at o
    exact ⟨⟨rep_el o.2.2 i, trivial⟩, ⟨rep_el o.2.2 _, trivial⟩⟩
  | right w =>
    unfold W.Ok at o
    exact ⟨⟨rep_el o i, trivial⟩, els_refl _⟩
  | left w =>
    unfold W.Ok at o
    exact ⟨els_refl _, ⟨rep_el o i, trivial⟩⟩
  | emp => cases h
  | ltr c => cases h
  | nam c => cases h
theorem befs_els : ∀ (ns : List Int) {t : W}, t.Ok abc → Vd t ns → Els (befs rep t ns) (befs tms t ns) ∧ Els (afts rep t ns) (afts tms t ns)
  | [], t, _, _ => ⟨trivial, trivial⟩
  | i :: r, t, o, ⟨c, v⟩ => by
    cases e : t.stp i with
    | none => rw [go_none e] at v; cases v
    | some u =>
      rw [go_cons e] at v
      have h1 := bef_els o e
      have h2 := befs_els r (stp_ok o e).1 ⟨c, v⟩
      rw [befs, befs, afts, afts, e]
      exact ⟨els_app h1.1 h2.1, els_app h2.2 h1.2⟩
/-- all words beside are fine -/
theorem bef_ok {t u : W} {i : Int} (o : t.Ok3 abc) (h : t.stp i = some u) (c : W → Int → W) (hc : ∀ w : W, ∀ n : Int, w.Ok abc → 0 ≤ n → n ≤ big → (c w n).Ok abc) (hd : ∀ w n, (c w n).dep ≤ w.dep + 1) :
    (∀ x ∈ bef c t i, x.Ok abc ∧ x.dep ≤ t.dep) ∧ (∀ x ∈ aft c t i, x.Ok abc ∧ x.dep ≤ t.dep) ∧ (bef c t i).length ≤ 2 ∧ (aft c t i).length ≤ 2 ∧ u.Ok3 abc := by
  cases t with
  | join ws =>
    rw [stpJ] at h
    split at h
    · rename_i hh
      unfold W.Ok3 at o
      have ho : ∀ x ∈ ws, x.Ok abc ∧ x.dep ≤ (W.join ws).dep := fun x hx => ⟨W.Ok3.ok x (W.oks3_mem hx o.2), by rw [W.dep]; have := W.deps_mem hx; omega⟩
      refine ⟨fun x hx => ho x (List.mem_of_mem_take hx), fun x hx => ho x (List.mem_of_mem_drop hx), ?_, ?_, W.oks3_mem (List.mem_of_getElem? h) o.2⟩
      · show (ws.take i.toNat).length ≤ 2
        rw [List.length_take]
        omega
      · show (ws.drop (i.toNat + 1)).length ≤ 2
        rw [List.length_drop]
        omega
    · cases h
  | times w n =>
    rw [stpT] at h
    split at h
    · rename_i hh
      cases h
      unfold W.Ok3 at o
      have ow := W.Ok3.ok _ o.2.2
      have d := hd u i
      have d2 := hd u (n - i - 1)
      refine ⟨fun x hx => ?_, fun x hx => ?_, Nat.le_succ _, Nat.le_succ _, o.2.2⟩
      · cases List.mem_singleton.mp hx
        exact ⟨hc _ _ ow hh.1 (by show i ≤ 1000000000000000000000000000000; omega), by rw [W.dep]; exact d⟩
      · cases List.mem_singleton.mp hx
        exact ⟨hc _ _ ow (by omega) (by show n - i - 1 ≤ 1000000000000000000000000000000; omega), by rw [W.dep]; exact d2⟩
    · cases h
  | right w =>
    rw [stpR] at h
    split at h
    · rename_i hh
      cases h
      unfold W.Ok3 at o
      have ow := W.Ok3.ok _ o
      have d := hd u i
      refine ⟨fun x hx => ?_, fun x hx => ?_, Nat.le_succ _, Nat.le_succ _, o⟩
      · cases List.mem_singleton.mp hx
        exact ⟨hc _ _ ow hh.1 hh.2, by rw [W.dep]; exact d⟩
      · cases List.mem_singleton.mp hx
        exact ⟨by unfold W.Ok; exact ow, Nat.le_refl _⟩
    · cases h
  | left w =>
    rw [stpL] at h
    split at h
    · rename_i hh
      cases h
      unfold W.Ok3 at o
      have ow := W.Ok3.ok _ o
      have d := hd u i
      refine ⟨fun x hx => ?_, fun x hx => ?_, Nat.le_succ _, Nat.le_succ _, o⟩
      · cases List.mem_singleton.mp hx
        exact ⟨by unfold W.Ok; exact ow, Nat.le_refl _⟩
      · cases List.mem_singleton.mp hx
        exact ⟨hc _ _ ow hh.1 hh.2, by rw [W.dep]; exact d⟩
    · cases h
  | emp => cases h
  | ltr c => cases h
  | nam c => cases h
theorem stp_dep {t u : W} {i : Int} (h : t.stp i = some u) (o : t.Ok abc) : u.dep + 1 ≤ t.dep := (stp_ok o h).2
theorem befs_ok (c : W → Int → W) (hc : ∀ w : W, ∀ n : Int, w.Ok abc → 0 ≤ n → n ≤ big → (c w n).Ok abc) (hd : ∀ w n, (c w n).dep ≤ w.dep + 1) : ∀ (ns : List Int) {t : W}, t.Ok3 abc → Vd t ns →
    (∀ x ∈ befs c t ns, x.Ok abc ∧ x.dep ≤ t.dep) ∧ (∀ x ∈ afts c t ns, x.Ok abc ∧ x.dep ≤ t.dep) ∧ (befs c t ns).length ≤ 2 * ns.length ∧ (afts c t ns).length ≤ 2 * ns.length
  | [], t, _, _ => ⟨fun x h => (List.not_mem_nil h).elim, fun x h => (List.not_mem_nil h).elim, Nat.le_refl _, Nat.le_refl _⟩
  | i :: r, t, o, ⟨c0, v⟩ => by
    cases e : t.stp i with
    | none => rw [go_none e] at v; cases v
    | some u =>
      rw [go_cons e] at v
      obtain ⟨h1, h2, h3, h4, ou⟩ := bef_ok o e c hc hd
      obtain ⟨g1, g2, g3, g4⟩ := befs_ok c hc hd r ou ⟨c0, v⟩
      have du := stp_dep e (W.Ok3.ok _ o)
      rw [befs, afts, e]
      refine ⟨fun x hx => ?_, fun x hx => ?_, ?_, ?_⟩
      · rcases List.mem_append.mp hx with q | q
        · exact h1 x q
        · exact ⟨(g1 x q).1, by have := (g1 x q).2; omega⟩
      · rcases List.mem_append.mp hx with q | q
        · exact ⟨(g2 x q).1, by have := (g2 x q).2; omega⟩
        · exact h2 x q
      · rw [List.length_append, List.length_cons]
        show (bef c t i).length + (befs c u r).length ≤ _
        omega
      · rw [List.length_append, List.length_cons]
        show (afts c u r).length + (aft c t i).length ≤ _
        omega
/-! ### the two sides are alike -/
structure Alike (a b : W) : Prop where
  op : ∀ m, a.op m = b.op m
  mop : ∀ m, a.mir.op m = b.mir.op m
  cnt : ∀ L, a.cnt L = b.cnt L
theorem alike_of {as bs : List W} (e1 e2 : List W) (oa : W.Oks abc as) (ob : W.Oks abc bs) (h : Els as bs) (h1 : ∀ w ∈ e1, w = .emp) (h2 : ∀ w ∈ e2, w = .emp) : Alike (jnd as) (.join (e1 ++ bs ++ e2)) := by
  have oe1 : W.Oks abc e1 := W.oks_of fun w hw => by rw [h1 w hw]; unfold W.Ok; trivial
  have oe2 : W.Oks abc e2 := W.oks_of fun w hw => by rw [h2 w hw]; unfold W.Ok; trivial
  have oall : W.Oks abc (e1 ++ bs ++ e2) := W.oks_of fun w hw => by
    rcases List.mem_append.mp hw with q | q
    · rcases List.mem_append.mp q with q | q
      · exact W.oks_mem q oe1
      · exact W.oks_mem q ob
    · exact W.oks_mem q oe2
  have nil1 : noEmp e1 = [] := List.filter_eq_nil_iff.mpr fun w hw => by rw [h1 w hw]; decide
  have nil2 : noEmp e2 = [] := List.filter_eq_nil_iff.mpr fun w hw => by rw [h2 w hw]; decide
  have hN : noEmp (e1 ++ bs ++ e2) = noEmp bs := by
    unfold noEmp at *
    rw [List.filter_append, List.filter_append, nil1, nil2, List.append_nil]
    rfl
  refine ⟨fun m => ?_, fun m => ?_, fun L => ?_⟩
  · rw [jnd_op oa, op_join' oall, ← ops_noEmp (e1 ++ bs ++ e2), hN, ops_noEmp, els_ops h]
  · rw [jnd_mop oa, mir_join_mrs, op_join' (mrs_ok oall), ← ops_noEmp (mrs (e1 ++ bs ++ e2)), ← mrs_noEmp, hN, mrs_noEmp, ops_noEmp, els_mrs h]
  · rw [jnd_cnt, cnt_join, ← cnts_noEmp (e1 ++ bs ++ e2), hN, cnts_noEmp, els_cnts h]
/-! ### zip of a list and a tuple -/
def Itz2 (K : PySem.W.Frag) (l a : Addr) : It :=
  ⟨fun i H => ∃ (xs ys : List V) (x y : V), SqL K H l xs ∧ SqT K H a ys ∧ xs[i]? = some x ∧ ys[i]? = some y,
    fun i H v H' => ∃ T x y, v = .ref T ∧ H T = none ∧ H' = upd H T (.tup [x, y]) ∧ (∀ xs, SqL K H l xs → xs[i]? = some x) ∧ (∀ ys, SqT K H a ys → ys[i]? = some y),
    fun i H => ∃ xs ys : List V, SqL K H l xs ∧ SqT K H a ys ∧ i = min xs.length ys.length⟩
theorem turn_zip2 {P : Program} {w : World} {K : PySem.W.Frag} {elts : List Expr} {kk : Nat} {tpos : Pos} {l a z TI TO i1 i2 : Addr} (S : ZipSep2 z TI TO i1 i2 [i1, l] [i2, a]) (n1 : l ≠ i1) (n2 : a ≠ i2) :
    Turn P w K (.Tuple elts kk tpos) (Itz2 K l a) [z, TI, TO, i1, i2] z
      (fun i h => IsZip h z TI TO .none ∧ IsTupOf2 h TI (.ref i1) (.ref i2) ∧ (∃ x y, IsTupOf2 h TO x y) ∧ h.IsListIter i1 l i ∧ h.IsTupleIter i2 a i) where
  mem := List.mem_cons_self ..
  obj := fun i h st c hc => by
    obtain ⟨hz, hTI, ⟨x, y, hTO⟩, ⟨o1, e1, _, d1⟩, ⟨o2, e2, _, d2⟩⟩ := st
    have e' : c = z ∨ c = TI ∨ c = TO ∨ c = i1 ∨ c = i2 := by simpa using hc
    rcases e' with q | q | q | q | q
    · rw [q]; exact ⟨_, hz, fun v q => nomatch q⟩
    · rw [q]; exact ⟨_, hTI, fun v q => nomatch q⟩
    · rw [q]; exact ⟨_, hTO, fun v q => nomatch q⟩
    · rw [q]; exact ⟨o1, e1, fun v q => by rw [d1] at q; cases q⟩
    · rw [q]; exact ⟨o2, e2, fun v q => by rw [d2] at q; cases q⟩
  keep := fun i h h' st k => by
    obtain ⟨hz, hTI, ⟨x, y, hTO⟩, h1, h2⟩ := st
    exact ⟨k z (by simp) _ hz, k TI (by simp) _ hTI, ⟨x, y, k TO (by simp) _ hTO⟩, h1.at fun o q => k i1 (by simp) o q, h2.at fun o q => k i2 (by simp) o q⟩
  self := fun A i s Q E st h => wpAny_pyIter_zip st.1 h
  item := by
    intro X hP hw hK calm i pins s σ H E I fps st going
    subst hP hw hK
    obtain ⟨hz, hTI, hTO, h1, h2⟩ := st
    obtain ⟨xs, ys, x, y, hl, ha, hx, hy⟩ := going
    obtain ⟨its1, r1, p1, _⟩ := I.list hl
    obtain ⟨its2, r2, p2, _⟩ := I.tuple ha
    obtain ⟨v1, hv1, q1⟩ := r1.get hx
    obtain ⟨v2, hv2, q2⟩ := r2.get hy
    have hd : X.A.in1.handled = none := I.ok.hd calm
    have W := WalksT.zipD2 (A := X.A) S (Draws.list (prog := X.prog) (w := X.w) hd i1 l n1 its1.toArray) (Draws.tuple hd i2 a n2 its2.toArray)
    have L1 : i < its1.toArray.size := by rw [List.size_toArray]; exact (List.getElem?_eq_some_iff.mp hv1).1
    have L2 : i < its2.toArray.size := by rw [List.size_toArray]; exact (List.getElem?_eq_some_iff.mp hv2).1
    refine W.item i s _ _ (by omega) ⟨hz, hTI, hTO, ⟨h1, p1.isList⟩, ⟨h2, show s.heap.IsTuple a its2.toArray from p2⟩⟩ (fun T vals h' tk hvals hT hTup mid kept => ?_)
    obtain ⟨w1, w2, e1, e2, rfl⟩ := hvals
    have a1 : w1 = v1 := by
      have : its1[i]? = some w1 := by simpa using e1
      rw [hv1] at this
      exact (Option.some.inj this).symm
    have a2 : w2 = v2 := by
      have : its2[i]? = some w2 := by simpa using e2
      rw [hv2] at this
      exact (Option.some.inj this).symm
    subst a1 a2
    have apart := W.apart i T h' mid
    refine ⟨_, rfl, W.go elts kk tpos i T { s with heap := h', toks := tk } _ _ mid (fun h'' st' kept2 => ?_)⟩
    have hTup2 : h''.IsTuple T #[w1, w2] := hTup.at fun o q => kept2 T o apart q
    have new : ObjOk X.prog X.w (upd H T (.tup [x, y])) h'' T (.tup [x, y]) := ⟨by show 2 ≤ sizeLine; decide, [w1, w2], .cons q1 (.cons q2 .nil), hTup2⟩
    have sub : ∀ c ∈ [z, TO, i1, i2], FpOk X pins H c := fun c hc => fps c (by
      have e' : c = z ∨ c = TO ∨ c = i1 ∨ c = i2 := by simpa using hc
      rcases e' with q | q | q | q <;> rw [q] <;> simp)
    have J : Inv X pins σ (upd H T (.tup [x, y])) { s with heap := h'', toks := tk } :=
      I.turnedNew (t' := tk) (ch := [z, TO, i1, i2]) (fun c o hc q => kept2 c o hc (kept c o hc q)) sub hT new
    obtain ⟨gz, gTI, gTO, g1, g2⟩ := st'
    refine ⟨.ref T, _, J, rfl, ⟨T, x, y, rfl, I.hok.fresh hT, rfl, fun l' hl' => by rw [I.list_inj hl' hl]; exact hx, fun l' hl' => by rw [I.tuple_inj hl' ha]; exact hy⟩, ⟨gz, gTI, gTO, g1.1, g2.1⟩, fun c hc => ?_⟩
    have hcl : c < s.heap.objs.size := by
      have e' : c = z ∨ c = TI ∨ c = TO ∨ c = i1 ∨ c = i2 := by simpa using hc
      obtain ⟨x0, y0, hTO⟩ := hTO
      rcases e' with q | q | q | q | q
      · rw [q]; exact Heap.lt_size hz
      · rw [q]; exact Heap.lt_size hTI
      · rw [q]; exact Heap.lt_size hTO
      · rw [q]; obtain ⟨_, e1, _⟩ := h1; exact Heap.lt_size e1
      · rw [q]; obtain ⟨_, e1, _⟩ := h2; exact Heap.lt_size e1
    rw [upd_ne (Nat.ne_of_lt (Nat.lt_of_lt_of_le hcl hT))]
    exact (fps c hc).1
  done := by
    intro X hP hw hK calm i pins s σ H E I fps st over
    subst hP hw hK
    obtain ⟨hz, hTI, hTO, h1, h2⟩ := st
    obtain ⟨xs, ys, hl, ha, hi⟩ := over
    obtain ⟨its1, r1, p1, _⟩ := I.list hl
    obtain ⟨its2, r2, p2, _⟩ := I.tuple ha
    have hd : X.A.in1.handled = none := I.ok.hd calm
    have W := WalksT.zipD2 (A := X.A) S (Draws.list (prog := X.prog) (w := X.w) hd i1 l n1 its1.toArray) (Draws.tuple hd i2 a n2 its2.toArray)
    have e : i = min its1.toArray.size its2.toArray.size := by
      rw [List.size_toArray, List.size_toArray, ← r1.length, ← r2.length]
      exact hi
    have sub : ∀ c ∈ [z, TO, i1, i2], FpOk X pins H c := fun c hc => fps c (by
      have e' : c = z ∨ c = TO ∨ c = i1 ∨ c = i2 := by simpa using hc
      rcases e' with q | q | q | q <;> rw [q] <;> simp)
    subst e
    exact W.done s _ _ ⟨hz, hTI, hTO, ⟨h1, p1.isList⟩, ⟨h2, show s.heap.IsTuple a its2.toArray from p2⟩⟩ (fun h' tk kept => ⟨rfl, I.turnedL (t' := tk) (ch := [z, TO, i1, i2]) (fun c o hc q => kept c o hc q) sub⟩)
def iZip2 (K : PySem.W.Frag) (ta : TA) : TI := fun σ H R => ta σ H fun vs H1 => ∃ l a xs ys, vs = [.ref l, .ref a] ∧ SqL K H1 l xs ∧ SqT K H1 a ys ∧ R (Itz2 K l a) H1
theorem pi_zip2 {X : Cx} {e1 e2 : Expr} {ta : TA} {p pos tpos : Pos} {elts : List Expr} {kk : Nat} (hg : Gl X "zip") (hm : X.mg "zip" = none) (ha : PA X [e1, e2] ta)
    (hs : starEach [e1, e2] X.env = (false, eval e1 X.env) :: starEach [e2] X.env := by rfl) (hpl : (backTo pos (starEach [e2] X.env)).any (·.1) = false := by rfl) :
    PI X (.Tuple elts kk tpos) (.Call (.Name "zip" p) [e1, e2] [] pos) (iZip2 X.K ta) := by
  constructor
  intro pins s σ H R I h
  refine Call_ (ld_blt I hg hm PyProof.Rows.boot_zip (PyProof.Rows.callWith_type1 (thn (ha.run pos pins s σ H _ I h) fun us s1 got => ?_) hs hpl))
  obtain ⟨vs, H1, I1, rel, l, a, xs, ys, rfl, hl, ht, q⟩ := got
  match us, rel with
  | [_, _], .cons e1 (.cons e2 .nil) =>
    cases e1
    cases e2
    obtain ⟨its1, r1, p1, _⟩ := I1.list hl
    obtain ⟨its2, r2, p2, _⟩ := I1.tuple ht
    have p2' : s1.heap.IsTuple a its2.toArray := p2
    have ll : l < s1.heap.objs.size := by obtain ⟨o, ho, _⟩ := p1.isList; exact Heap.lt_size ho
    have la : a < s1.heap.objs.size := by obtain ⟨o, ho, _⟩ := p2'; exact Heap.lt_size ho
    refine zip_begins2 (begins_list l its1.toArray) (begins_tuple a its2.toArray) p1.isList p2' (fun h' hz hTI hTO g1 g2 hsz hk => wpAny_pyIter_zip hz ?_)
    have I2 : Inv X pins σ H1 { s1 with heap := h' } := I1.kept (t' := s1.toks) hk
    have S := zip_sep2 (N := s1.heap.objs.size) (fp1 := [l]) (fp2 := [a]) (fun c hc => by rw [List.mem_singleton.mp hc]; exact ll) (fun c hc => by rw [List.mem_singleton.mp hc]; exact la)
    refine ⟨s1.heap.objs.size + 4, [s1.heap.objs.size + 4, s1.heap.objs.size + 2, s1.heap.objs.size + 3, s1.heap.objs.size, s1.heap.objs.size + 1], _, _, H1, rfl, I2,
      turn_zip2 S (Nat.ne_of_lt ll) (Nat.ne_of_lt (Nat.lt_succ_of_lt la)), ⟨hz, hTI, ⟨_, _, hTO⟩, ⟨_, g1, rfl, rfl⟩, ⟨_, g2, rfl, rfl⟩⟩, fun c hc => ?_, q⟩
    have hle : s1.heap.objs.size ≤ c := by
      have e' : c = s1.heap.objs.size + 4 ∨ c = s1.heap.objs.size + 2 ∨ c = s1.heap.objs.size + 3 ∨ c = s1.heap.objs.size ∨ c = s1.heap.objs.size + 1 := by simpa using hc
      rcases e' with q | q | q | q | q <;> rw [q]
      · exact Nat.le_add_right _ _
      · exact Nat.le_add_right _ _
      · exact Nat.le_add_right _ _
      · exact Nat.le_refl _
      · exact Nat.le_add_right _ _
    exact I1.fpOk hle (I1.hok.fresh hle)
theorem for_zip2 {K : PySem.W.Frag} {l a : Addr} {xs ys : List V} {g : TG} {tb : TS} {D : Ends} {σ : L2.St} {H : Hp} {n : Nat} (hn : n = min xs.length ys.length) (Pv : Nat → L2.St → Hp → Prop) (h0 : Pv 0 σ H) (hq : ∀ i σ H, Pv i σ H → SqL K H l xs ∧ SqT K H a ys)
    (hs : ∀ (i : Nat) (x y : V) (T : Addr) (σ : L2.St) (H : Hp), xs[i]? = some x → ys[i]? = some y → Pv i σ H → H T = none → g (.ref T) σ (upd H T (.tup [x, y])) fun σ2 H2 => tb { D with nx := Pv (i + 1), ct := Pv (i + 1), bk := D.nx } σ2 H2) (hd : ∀ σ H, Pv n σ H → D.nx σ H) :
    ∃ W : Nat → Nat → L2.St → Hp → Prop, (∃ m, W 0 m σ H) ∧ ∀ i m σ H, W i m σ H →
      ((Itz2 K l a).stop i H ∧ D.nx σ H) ∨ ((Itz2 K l a).go i H ∧ ∃ N : L2.St → Hp → Prop, (∀ σ' H', N σ' H' → ∃ m', m' < m ∧ W (i + 1) m' σ' H') ∧ ∀ v H', (Itz2 K l a).yld i H v H' → g v σ H' fun σ2 H2 => tb { D with nx := N, ct := N, bk := D.nx } σ2 H2) := by
  refine ⟨fun i m σ H => m = n - i ∧ i ≤ n ∧ Pv i σ H, ⟨n, rfl, Nat.zero_le _, h0⟩, ?_⟩
  rintro i m σ H ⟨rfl, hi, p⟩
  obtain ⟨qx, qy⟩ := hq i σ H p
  by_cases hlt : i < n
  · have h1 : xs[i]? = some xs[i] := List.getElem?_eq_getElem (by omega)
    have h2 : ys[i]? = some ys[i] := List.getElem?_eq_getElem (by omega)
    refine .inr ⟨⟨xs, ys, _, _, qx, qy, h1, h2⟩, Pv (i + 1), fun σ' H' p' => ⟨n - (i + 1), by omega, rfl, hlt, p'⟩, fun v H' y => ?_⟩
    obtain ⟨T, x', y', rfl, hT, rfl, f1, f2⟩ := y
    exact hs i x' y' T σ H (f1 xs qx) (f2 ys qy) p hT
  · have e : i = n := by omega
    subst e
    exact .inl ⟨⟨xs, ys, qx, qy, hn⟩, hd σ H p⟩
end SW

set_option Elab.async false
set_option linter.all false
set_option maxRecDepth 100000
set_option maxHeartbeats 4000000
namespace SW
open PySem PySem.Spec PyProof.Rows L2
def inCls (st : Stmt) (j : Nat) : Stmt := match st with
  | .ClassDef (body := b) .. => b.getD j (.Pass ⟨0, 0, 0, 0⟩)
  | _ => .Pass ⟨0, 0, 0, 0⟩
def top (i : Nat) : Stmt := PySem.Challenge.pw_scatterwords_k10_whole_words_cut.main.body.getD i (.Pass ⟨0, 0, 0, 0⟩)
abbrev s_ScatterError_init : Stmt := inCls (top 1) 0
abbrev s_InvalidAddress_init : Stmt := inCls (top 2) 0
abbrev s_joined : Stmt := top 6
abbrev s_repeated : Stmt := top 7
abbrev s_letter_count : Stmt := top 8
abbrev s__count : Stmt := top 9
abbrev s_cut : Stmt := top 11
abbrev s__nodes_on_the_way : Stmt := top 12
abbrev s__inner : Stmt := top 13
abbrev s__pieces_beside : Stmt := top 14
abbrev s__law_draws : Stmt := top 16
abbrev s__law_draw : Stmt := top 17
abbrev s__law_pick : Stmt := top 18
abbrev s__law_great : Stmt := top 19
abbrev s__law_same : Stmt := top 20
abbrev s__law_tree : Stmt := top 21
abbrev s__law_word : Stmt := top 22
abbrev s__law_parts : Stmt := top 23
abbrev s__law_count : Stmt := top 24
abbrev s__law_places : Stmt := top 25
abbrev s__law_told : Stmt := top 26
abbrev s__law_letter : Stmt := top 27
abbrev s__law_wide : Stmt := top 28
abbrev s__law_turned : Stmt := top 29
abbrev s__law_spot : Stmt := top 30
abbrev s__law_copies : Stmt := top 31
abbrev s__law_sides : Stmt := top 32
abbrev s__law_begin : Stmt := top 33
abbrev s_law : Stmt := top 34
section
variable {P : Program} {w : World} {K : PySem.W.Frag} {mg : Str → Option Value} {base : Heap}
def spMir (K : PySem.W.Frag) (n : Nat) : Sp := fun vs H Q _ => ∃ v t, vs = [v] ∧ WV K H v t ∧ t.Ok abcABC ∧ t.dep ≤ n ∧ ∀ v' H', WV K H' v' t.mir → Same H H' → Q v' H'
/-! ### _law_draws -/
def spDraws (K : PySem.W.Frag) : Sp := fun vs H Q _ => ∃ (a : Addr) (ns : List Int), vs = [.ref a] ∧ SqL K H a (ns.map V.int) ∧ ∀ r l H', Rng H' r l → Same H H' → Q (.ref r) H'
theorem sc__law_draws : FnScope ["_law_script", "_law_state", "_law_cell"] ["_law_script"] (defScope s__law_draws) := ⟨rfl, rfl, rfl, by decide +kernel, rfl, by decide +kernel, by decide +kernel⟩
theorem ok_draws (D : Df K mg "_law_draws" s__law_draws ["_law_script"]) (bi : Bi mg) : Cal P w K mg base 1 "_law_draws" ["_law_script"] (spDraws K) := by
  refine D.ok sc__law_draws (fun vs H Q E h => ?_) (fun f cdv A outer s H vs Q E hr h => ?_)
  · obtain ⟨a, ns, rfl, _⟩ := h
    rfl
  obtain ⟨a, ns, rfl, hS, q⟩ := h
  refine ⟨_, (pss_cons (ps_set (i := 1) sc__law_draws.nd rfl (.inl rfl) pe_int)
      (pss_cons (ps_for PassesOwn.never rfl (pi_list (pe_slice sl_list (pv 0) po_none (po_some pe_int))) (pg_name (i := 2) sc__law_draws.nd rfl (.inl rfl)) (pss_one (ps_set (i := 1) sc__law_draws.nd rfl (.inl rfl) (pe_op op_modN (pe_callTy call_int1 (by rfl) bi.int (by decide +kernel) (pa_cons (pe_op op_add (pe_op op_add (pe_op op_mul (pv 1) pe_int) (pe_op op_modN (pe_callTy call_int1 (by rfl) bi.int (by decide +kernel) (pa_cons (pv 2) pa_nil)) pe_int)) pe_int) pa_nil)) pe_int))))
      (pss_one (ps_ret (pe_lst (pa_cons (pe_callTy call_list_of (by rfl) bi.list (by decide +kernel) (pa_cons (pe_slice sl_list (pv 0) po_none (po_some pe_int)) pa_nil)) (pa_cons pe_int (pa_cons pe_int (pa_cons (pv 1) (pa_cons pe_int pa_nil)))))))))), ?_⟩
  obtain ⟨ms, hms⟩ := cutV_ints ns none (some 63)
  refine ⟨_, rfl, 63, rfl, a, _, rfl, hS, fun c nc => ?_⟩
  have k1 : Same H (upd H c (.lst (cutV (ns.map V.int) none (some 63)))) := same_new nc
  refine ⟨c, rfl, ⟨_, SqL.of upd_same⟩, for_list (xs := cutV (ns.map V.int) none (some 63)) (fun i σ' H' => ∃ st y2, σ' = [some (.ref a), some (.int st), y2] ∧ H' = upd H c (.lst (cutV (ns.map V.int) none (some 63)))) ?_ ?_ ?_ ?_⟩
  · exact ⟨_, none, rfl, rfl⟩
  · rintro i σ' H' _ ⟨st, y2, _, rfl⟩
    exact SqL.of upd_same
  · rintro i x σ' H' hx ⟨st, y2, rfl, rfl⟩
    rw [hms, List.getElem?_map] at hx
    obtain ⟨m, _, rfl⟩ := Option.map_eq_some_iff.mp hx
    refine ⟨_, rfl, _, _, rfl, rfl, .inr (by decide), _, rfl, .inl ⟨_, rfl, _, _, rfl, rfl, (show (2147483629 : Int) ≠ 0 by decide), _, _, rfl, rfl, _, _, rfl, rfl, .inl ⟨_, rfl, _, _, rfl, rfl, (show (2147483647 : Int) ≠ 0 by decide), ?_⟩⟩⟩
    exact ⟨_, _, rfl, rfl⟩
  · rintro σ' H' ⟨st, y2, rfl, rfl⟩
    refine ⟨_, rfl, 63, rfl, a, _, rfl, k1.seq hS, fun c2 nc2 => ?_⟩
    refine ⟨c2, _, rfl, .inl (SqL.of upd_same), fun l hl => ?_⟩
    refine ⟨_, rfl, (by show 5 ≤ sizeLine; decide), fun r hr' => ?_⟩
    have e1 := upd_same (H := upd (upd H c (.lst (cutV (ns.map V.int) none (some 63)))) c2 (.lst (cutV (ns.map V.int) none (some 63)))) (a := l) (o := .lst (cutV (ns.map V.int) none (some 63)))
    have lr := ne_of_none e1 hr'
    refine q r l _ ⟨ms, 0, 0, st, 0, upd_same, ?_, by decide, lr⟩ (k1.trans ((same_new nc2).trans ((same_new hl).trans (same_new hr'))))
    rw [upd_ne lr, e1, hms]
/-! ### _law_draw -/
def spDrawW : Sp := fun vs H Q _ => ∃ r l m, vs = [.ref r, .int m] ∧ 0 < m ∧ m.natAbs.log2 < 9000 ∧ Rng H r l ∧ ∀ (v : Int) H', 0 ≤ v → v < m → Rng H' r l → Kp r H H' → Q (.int v) H'
def spDraw : Sp := fun vs H Q _ => ∃ r l m, vs = [.ref r, .int m] ∧ 0 < m ∧ m < 1073741824 ∧ Rng H r l ∧ ∀ (v : Int) H', 0 ≤ v → v < m → Rng H' r l → Kp r H H' → Q (.int v) H'
theorem sc__law_draw : FnScope ["_law_rng", "_law_many", "_law_cell", "_law_digit", "_law_seed"] ["_law_rng", "_law_many"] (defScope s__law_draw) := ⟨rfl, rfl, rfl, by decide +kernel, rfl, by decide +kernel, by decide +kernel⟩
theorem ok_drawW (D : Df K mg "_law_draw" s__law_draw ["_law_rng", "_law_many"]) (bi : Bi mg) : Cal P w K mg base 1 "_law_draw" ["_law_rng", "_law_many"] spDrawW := by
  refine D.ok sc__law_draw (fun vs H Q E h => ?_) (fun f cdv A outer s H vs Q E hr h => ?_)
  · obtain ⟨r, l, m, rfl, _⟩ := h
    rfl
  obtain ⟨r, l, m, rfl, hm, hm2, ⟨ns, i, d, st, c, h1, h2, h3, h4⟩, q⟩ := h
  refine ⟨_, (pss_cons (ps_asg (pe_op op_add (pe_ix ix_list (pv 0) pe_int (fun _ _ => rfl)) pe_int) (pg_sub (pv 0) pe_int set_list))
      (C8.pss_cut (ps_if (PW.pt (pw_and (pt_cmpR op_eq (pe_ix ix_list (pv 0) pe_int (fun _ _ => rfl)) pe_int (nomark _)) (pw_and1 (pt_cmpR op_lt (pe_ix ix_list (pv 0) pe_int (fun _ _ => rfl)) (pe_callB call_len_seq (by rfl) bi.len PySem.boot_len (pa_cons (pe_ix ix_list (pv 0) pe_int (fun _ _ => rfl)) pa_nil)) (nomark _))))) (pss_cons (ps_set (i := 2) sc__law_draw.nd rfl (.inl rfl) (pe_ix ix_list (pe_ix ix_list (pv 0) pe_int (fun _ _ => rfl)) (pe_ix ix_list (pv 0) pe_int (fun _ _ => rfl)) (fun _ _ => rfl)))
      (pss_cons (ps_asg (pe_op op_add (pe_ix ix_list (pv 0) pe_int (fun _ _ => rfl)) pe_int) (pg_sub (pv 0) pe_int set_list))
      (pss_one (ps_if (pt_cmpR op_ge (pv 2) (pe_op op_pow pe_int pe_int) (nomark _)) (pss_one (ps_asg (pv 2) (pg_sub (pv 0) pe_int set_list))) (pss_one (ps_asg (pe_op op_modN (pe_callTy call_int1 (by rfl) bi.int (by decide +kernel) (pa_cons (pe_op op_add (pe_op op_add (pe_op op_mul (pe_ix ix_list (pv 0) pe_int (fun _ _ => rfl)) pe_int) (pe_op op_mul (pe_op op_modN (pe_callTy call_int1 (by rfl) bi.int (by decide +kernel) (pa_cons (pv 2) pa_nil)) pe_int) pe_int)) pe_int) pa_nil)) pe_int) (pg_sub (pv 0) pe_int set_list))))))) pss_nil)
      (pss_cons (ps_if (pt_cmpR op_gt (pe_ix ix_list (pv 0) pe_int (fun _ _ => rfl)) pe_int (nomark _)) (pss_cons (ps_set (i := 3) sc__law_draw.nd rfl (.inl rfl) (pe_op op_modN (pe_callTy call_int1 (by rfl) bi.int (by decide +kernel) (pa_cons (pe_ix ix_list (pv 0) pe_int (fun _ _ => rfl)) pa_nil)) (pv 1)))
      (pss_cons (ps_asg (pe_op op_fdivW (pe_ix ix_list (pv 0) pe_int (fun _ _ => rfl)) (pv 1)) (pg_sub (pv 0) pe_int set_list))
      (pss_one (ps_ret (pv 3))))) pss_nil)
      (pss_cons (ps_set (i := 4) sc__law_draw.nd rfl (.inl rfl) (pe_ix ix_list (pv 0) pe_int (fun _ _ => rfl)))
      (pss_cons (ps_asg (pe_op op_modN (pe_callTy call_int1 (by rfl) bi.int (by decide +kernel) (pa_cons (pe_op op_add (pe_op op_add (pe_op op_add (pe_op op_mul (pv 4) pe_int) (pe_op op_mul (pe_op op_fdivN (pv 4) pe_int) pe_int)) (pe_op op_mul (pe_ix ix_list (pv 0) pe_int (fun _ _ => rfl)) pe_int)) pe_int) pa_nil)) pe_int) (pg_sub (pv 0) pe_int set_list))
      (pss_one (ps_ret (pe_op op_modN (pe_callTy call_int1 (by rfl) bi.int (by decide +kernel) (pa_cons (pe_op op_add (pe_op op_fdivN (pe_ix ix_list (pv 0) pe_int (fun _ _ => rfl)) pe_int) (pe_op op_mul (pe_op op_modN (pe_callTy call_int1 (by rfl) bi.int (by decide +kernel) (pa_cons (pe_ix ix_list (pv 0) pe_int (fun _ _ => rfl)) pa_nil)) pe_int) pe_int)) pa_nil)) (pv 1))))))))), ?_⟩
  -- rng[4] += 1
  refine ⟨_, rfl, _, _, _, _, rfl, rfl, SqL.of h1, rfl, _, _, rfl, rfl, _, rfl, r, _, 4, 4, rfl, rfl, h1, rfl, ?_⟩
  have k1 : Kp r H (upd H r (.lst [.ref l, .int i, .int d, .int st, .int (c + 1)])) := Kp.at
  generalize e1 : upd H r (.lst (List.set [.ref l, .int i, .int d, .int st, .int c] 4 (.int (c + 1)))) = H1
  have g1 : H1 r = some (.lst [.ref l, .int i, .int d, .int st, .int (c + 1)]) := by
    rw [← e1]
    exact upd_same
  have k1 : Kp r H H1 := by
    rw [← e1]
    exact Kp.at
  have g2 := k1 _ _ h4 h2
  -- the first if: anything may stand in the three
  refine ⟨fun σ' H' => ∃ y2 i d st c, σ' = [some (.ref r), some (.int m), y2, none, none] ∧ H' r = some (.lst [.ref l, .int i, .int d, .int st, .int c]) ∧ 0 ≤ i ∧ Kp r H H', ?_, ?_⟩
  · refine ⟨_, rfl, _, _, _, _, rfl, rfl, SqL.of g1, rfl, rfl, _, rfl, ?_⟩
    refine ite2 (fun _ => ?_) (fun _ => ⟨none, i, d, st, c + 1, rfl, g1, h3, k1⟩)
    refine ⟨_, rfl, _, _, _, _, rfl, rfl, SqL.of g1, rfl, _, rfl, _, _, _, _, rfl, rfl, SqL.of g1, rfl, l, _, rfl, .inl (SqL.of g2), _, _, rfl, rfl, _, rfl, ?_⟩
    refine ite2 (fun hc => ?_) (fun _ => ⟨none, i, d, st, c + 1, rfl, g1, h3, k1⟩)
    have hc' : i < ((ns.map V.int).length : Int) := of_decide_eq_true hc
    rw [List.length_map] at hc'
    have hi : i.toNat < ns.length := by omega
    have ha : atI (ns.map V.int) i = some (.int ns[i.toNat]) := at_of (j := i.toNat) (by omega) (by rw [List.getElem?_map, List.getElem?_eq_getElem hi]; rfl)
    refine ⟨_, rfl, _, _, _, _, rfl, rfl, SqL.of g1, rfl, _, rfl, _, _, _, _, rfl, rfl, SqL.of g1, rfl, _, _, _, _, rfl, rfl, SqL.of g2, ha, ?_⟩
    refine ⟨_, rfl, _, _, _, _, rfl, rfl, SqL.of g1, rfl, _, _, rfl, rfl, _, rfl, r, _, 1, 1, rfl, rfl, g1, rfl, ?_⟩
    generalize e3 : upd H1 r (.lst (List.set [.ref l, .int i, .int d, .int st, .int (c + 1)] 1 (.int (i + 1)))) = H2
    have g3 : H2 r = some (.lst [.ref l, .int (i + 1), .int d, .int st, .int (c + 1)]) := by
      rw [← e3]
      exact upd_same
    have k3 : Kp r H H2 := by
      rw [← e3]
      exact k1.trans Kp.at
    refine ⟨_, rfl, _, _, rfl, rfl, ⟨by decide, by decide, by decide⟩, _, _, rfl, rfl, _, rfl, ?_⟩
    refine ite2 (fun _ => ?_) (fun _ => ?_)
    · refine ⟨_, rfl, _, rfl, r, _, 2, 2, rfl, rfl, g3, rfl, ?_⟩
      exact ⟨_, i + 1, _, st, c + 1, rfl, upd_same, by omega, k3.trans Kp.at⟩
    · refine ⟨_, rfl, _, _, _, _, rfl, rfl, SqL.of g3, rfl, _, _, rfl, rfl, .inr (by decide), ?_⟩
      refine ⟨_, rfl, .inl ⟨_, rfl, _, _, rfl, rfl, (show (2147483629 : Int) ≠ 0 by decide), _, _, rfl, rfl, .inr (by decide), _, _, rfl, rfl, _, _, rfl, rfl, .inl ⟨_, rfl, _, _, rfl, rfl, (show (2147483647 : Int) ≠ 0 by decide), ?_⟩⟩⟩
      refine ⟨_, rfl, r, _, 3, 3, rfl, rfl, g3, rfl, ?_⟩
      exact ⟨_, i + 1, d, _, c + 1, rfl, upd_same, by omega, k3.trans Kp.at⟩
  · rintro σ' H' ⟨y2, i, d, st, c, rfl, g1, h3, k1⟩
    refine ⟨_, rfl, _, _, _, _, rfl, rfl, SqL.of g1, rfl, _, _, rfl, rfl, _, rfl, ?_⟩
    refine ite2 (fun _ => ?_) (fun _ => ?_)
    · refine ⟨_, rfl, _, _, _, _, rfl, rfl, SqL.of g1, rfl, .inl ⟨_, rfl, _, rfl, _, _, rfl, rfl, by omega, ?_⟩⟩
      refine ⟨_, rfl, _, _, _, _, rfl, rfl, SqL.of g1, rfl, _, rfl, _, _, rfl, rfl, ⟨hm, hm2⟩, _, rfl, r, _, 2, 2, rfl, rfl, g1, rfl, ?_⟩
      refine ⟨_, rfl, q _ _ (Int.fmod_nonneg_of_pos _ hm) (Int.fmod_lt_of_pos _ hm) ?_ (k1.trans Kp.at)⟩
      exact ⟨ns, i, _, st, c, upd_same, (k1.trans Kp.at) _ _ h4 h2, h3, h4⟩
    · refine ⟨_, rfl, _, _, _, _, rfl, rfl, SqL.of g1, rfl, ?_⟩
      refine ⟨_, rfl, _, _, rfl, rfl, .inr (by decide), _, rfl, _, _, rfl, rfl, ⟨by decide, by decide⟩, _, _, rfl, rfl, .inr (by decide), _, _, rfl, rfl, _, rfl, _, _, _, _, rfl, rfl, SqL.of g1, rfl, _, _, rfl, rfl, .inr (by decide), _, _, rfl, rfl, _, _, rfl, rfl, .inl ⟨_, rfl, _, _, rfl, rfl, (show (2147483647 : Int) ≠ 0 by decide), ?_⟩⟩
      refine ⟨_, rfl, r, _, 3, 3, rfl, rfl, g1, rfl, ?_⟩
      refine ⟨_, rfl, _, _, _, _, rfl, rfl, SqL.of upd_same, rfl, _, _, rfl, rfl, ⟨by decide, by decide⟩, _, rfl, _, _, _, _, rfl, rfl, SqL.of upd_same, rfl, .inl ⟨_, rfl, _, _, rfl, rfl, (show (7919 : Int) ≠ 0 by decide), _, _, rfl, rfl, .inr (by decide), _, _, rfl, rfl, .inl ⟨_, rfl, _, rfl, _, _, rfl, rfl, by omega, ?_⟩⟩⟩
      refine q _ _ (Int.fmod_nonneg_of_pos _ hm) (Int.fmod_lt_of_pos _ hm) ?_ (k1.trans Kp.at)
      exact ⟨ns, i, _, _, c, upd_same, (k1.trans Kp.at) _ _ h4 h2, h3, h4⟩
theorem ok_draw (D : Df K mg "_law_draw" s__law_draw ["_law_rng", "_law_many"]) (bi : Bi mg) : Cal P w K mg base 1 "_law_draw" ["_law_rng", "_law_many"] spDraw := (ok_drawW D bi).imp fun vs H Q E h => by
  obtain ⟨r, l, m, e, hm, hm2, h⟩ := h
  exact ⟨r, l, m, e, hm, Nat.lt_of_lt_of_le (PySem.Flt.log2_lt_of (k := 30) (by decide) (by omega)) (by decide), h⟩
/-! ### _law_pick -/
def spPick : Sp := fun vs H Q _ => ∃ r l t xs, vs = [.ref r, .ref t] ∧ Rng H r l ∧ H t = some (.lst xs) ∧ t ≠ r ∧ 0 < xs.length ∧ xs.length ≤ 1000 ∧ ∀ (j : Nat) x H', xs[j]? = some x → Rng H' r l → Kp r H H' → Q x H'
theorem sc__law_pick : FnScope ["_law_rng", "_law_things"] ["_law_rng", "_law_things"] (defScope s__law_pick) := ⟨rfl, rfl, rfl, by decide +kernel, rfl, by decide +kernel, by decide +kernel⟩
theorem ok_pick (D : Df K mg "_law_pick" s__law_pick ["_law_rng", "_law_things"]) (bi : Bi mg) (c_law_draw : Cal P w K mg base 1 "_law_draw" ["_law_rng", "_law_many"] spDraw) : Cal P w K mg base 2 "_law_pick" ["_law_rng", "_law_things"] spPick := by
  refine D.ok sc__law_pick (fun vs H Q E h => ?_) (fun f cdv A outer s H vs Q E hr h => ?_)
  · obtain ⟨r, l, t, xs, rfl, _⟩ := h
    rfl
  obtain ⟨r, l, t, xs, rfl, g, ht, hne, h0, h1, q⟩ := h
  refine ⟨_, (pss_one (ps_ret (pe_ix ix_list (pv 1) (pe_own c_law_draw hr (by omega) (by rfl) (pa_cons (pv 0) (pa_cons (pe_callB call_len_seq (by rfl) bi.len PySem.boot_len (pa_cons (pv 1) pa_nil)) pa_nil))) (fun _ _ => rfl)))), ?_⟩
  refine ⟨_, rfl, _, rfl, _, rfl, t, xs, rfl, .inl (SqL.of ht), r, l, _, rfl, by omega, by omega, g, fun v H1 hv0 hv1 g1 k1 => ?_⟩
  have hv : v.toNat < xs.length := by omega
  exact ⟨t, xs, v, xs[v.toNat], rfl, rfl, SqL.of (k1 _ _ hne ht), at_of (j := v.toNat) (by omega) (List.getElem?_eq_getElem hv), q v.toNat _ H1 (List.getElem?_eq_getElem hv) g1 k1⟩
/-! ### _law_great -/
def spGreat : Sp := fun vs H Q _ => ∃ r l, vs = [.ref r] ∧ Rng H r l ∧ ∀ (v : Int) H', 2 ≤ v → v ≤ 1000000000000000000000000000000 → Rng H' r l → Kp r H H' → Q (.int v) H'
theorem sc__law_great : FnScope ["_law_rng"] ["_law_rng"] (defScope s__law_great) := ⟨rfl, rfl, rfl, by decide +kernel, rfl, by decide +kernel, by decide +kernel⟩
theorem ok_great (D : Df K mg "_law_great" s__law_great ["_law_rng"]) (bi : Bi mg) (c_law_draw : Cal P w K mg base 1 "_law_draw" ["_law_rng", "_law_many"] spDraw) (c_law_pick : Cal P w K mg base 2 "_law_pick" ["_law_rng", "_law_things"] spPick) : Cal P w K mg base 3 "_law_great" ["_law_rng"] spGreat := by
  refine D.ok sc__law_great (fun vs H Q E h => ?_) (fun f cdv A outer s H vs Q E hr h => ?_)
  · obtain ⟨r, l, rfl, _⟩ := h
    rfl
  obtain ⟨r, l, rfl, g, q⟩ := h
  refine ⟨_, (pss_one (ps_ret (pe_own c_law_pick hr (by omega) (by rfl) (pa_cons (pv 0) (pa_cons (pe_lst (pa_cons (pe_op op_pow pe_int pe_int) (pa_cons (pe_op op_sub (pe_op op_sub (pe_op op_pow pe_int pe_int) pe_int) (pe_own c_law_draw hr (by omega) (by rfl) (pa_cons (pv 0) (pa_cons (pe_op op_pow pe_int pe_int) pa_nil)))) (pa_cons (pe_op op_add (pe_op op_pow pe_int pe_int) (pe_own c_law_draw hr (by omega) (by rfl) (pa_cons (pv 0) (pa_cons (pe_op op_pow pe_int pe_int) pa_nil)))) pa_nil)))) pa_nil))))), ?_⟩
  refine ⟨_, rfl, ?_⟩
  refine ⟨_, _, rfl, rfl, ⟨by decide, by decide, by decide⟩, _, _, rfl, rfl, ⟨by decide, by decide, by decide⟩, _, _, rfl, rfl, _, rfl, _, _, rfl, rfl, ⟨by decide, by decide, by decide⟩, ?_⟩
  refine ⟨r, l, _, rfl, by decide, by decide, g, fun v1 H1 a1 b1 g1 k1 => ?_⟩
  have b1' : v1 < 1000000000 := b1
  refine ⟨_, _, rfl, rfl, _, _, rfl, rfl, ⟨by decide, by decide, by decide⟩, _, rfl, _, _, rfl, rfl, ⟨by decide, by decide, by decide⟩, ?_⟩
  refine ⟨r, l, _, rfl, by decide, by decide, g1, fun v2 H2 a2 b2 g2 k2 => ?_⟩
  have b2' : v2 < 1000000000 := b2
  refine ⟨_, _, rfl, rfl, (by show 3 ≤ sizeLine; decide), fun p hp => ?_⟩
  obtain ⟨z, hz⟩ := g2.lst
  refine ⟨r, l, p, _, rfl, g2.new hp, upd_same, (ne_of_none hz hp).symm, Nat.succ_pos _, (by show 3 ≤ 1000; decide), fun j x H3 e g3 k3 => ?_⟩
  have kk : Kp r H H3 := (k1.trans k2).trans ((Kp.new hp).trans k3)
  match j, e with
  | 0, e => cases e; exact q _ H3 (by decide) (by decide) g3 kk
  | 1, e => cases e; exact q _ H3 (by show 2 ≤ (1000000000000000000000000000000 : Int) - 1 - v1; omega) (by show (1000000000000000000000000000000 : Int) - 1 - v1 ≤ _; omega) g3 kk
  | 2, e => cases e; exact q _ H3 (by show 2 ≤ (1000000000000000000 : Int) + v2; omega) (by show (1000000000000000000 : Int) + v2 ≤ _; omega) g3 kk
/-! ### _law_same of equal data -/
def spSame (K : PySem.W.Frag) : Nat → Sp
  | 0 => fun _ _ _ _ => False
  | n + 1 => fun vs H Q _ => ∃ x y d, vs = [x, y] ∧ Dp K H x d ∧ Dp K H y d ∧ Sm n d ∧ ∀ H', Same H H' → Q (.bl true) H'
theorem sc__law_same : FnScope ["_law_found", "_law_due", "_law_a", "_law_b"] ["_law_found", "_law_due"] (defScope s__law_same) := ⟨rfl, rfl, rfl, by decide +kernel, rfl, by decide +kernel, by decide +kernel⟩
theorem ok_same1 {n : Nat} (D : Df K mg "_law_same" s__law_same ["_law_found", "_law_due"]) (bi : Bi mg) (c_law_same : Cal P w K mg base n "_law_same" ["_law_found", "_law_due"] (spSame K n)) :
    Cal P w K mg base (n + 1) "_law_same" ["_law_found", "_law_due"] (spSame K (n + 1)) := by
  refine D.ok sc__law_same (fun vs H Q E h => ?_) (fun f cdv A outer s H vs Q E hr h => ?_)
  · obtain ⟨x, y, d, rfl, _⟩ := h
    rfl
  obtain ⟨x, y, d, rfl, hx, hy, hs, q⟩ := h
  refine ⟨_, (pss_cons (ps_if (PW.pt (pw_or (pt_val (pe_callB call_isi (by rfl) bi.isinstance (by decide +kernel) (pa_cons (pv 1) (pa_cons (pe_bltn (v := .ty "list") (u := .type "list") (by rfl) bi.list (by decide +kernel) rfl) pa_nil)))) (pw_or1 (pt_val (pe_callB call_isi (by rfl) bi.isinstance (by decide +kernel) (pa_cons (pv 1) (pa_cons (pe_bltn (v := .ty "tuple") (u := .type "tuple") (by rfl) bi.tuple (by decide +kernel) rfl) pa_nil))))))) (pss_cons (ps_if (PW.pt (pw_or (pt_cmpR op_ne (pe_callB call_isi (by rfl) bi.isinstance (by decide +kernel) (pa_cons (pv 0) (pa_cons (pe_bltn (v := .ty "list") (u := .type "list") (by rfl) bi.list (by decide +kernel) rfl) pa_nil))) (pe_callB call_isi (by rfl) bi.isinstance (by decide +kernel) (pa_cons (pv 1) (pa_cons (pe_bltn (v := .ty "list") (u := .type "list") (by rfl) bi.list (by decide +kernel) rfl) pa_nil))) (nomark _)) (pw_or1 (pt_cmpR op_ne (pe_callB call_isi (by rfl) bi.isinstance (by decide +kernel) (pa_cons (pv 0) (pa_cons (pe_bltn (v := .ty "tuple") (u := .type "tuple") (by rfl) bi.tuple (by decide +kernel) rfl) pa_nil))) (pe_callB call_isi (by rfl) bi.isinstance (by decide +kernel) (pa_cons (pv 1) (pa_cons (pe_bltn (v := .ty "tuple") (u := .type "tuple") (by rfl) bi.tuple (by decide +kernel) rfl) pa_nil))) (nomark _))))) (pss_one (ps_ret pe_bl)) pss_nil)
      (pss_one (ps_ret (pe_and (pe_cmpR op_eq (pe_callB call_len_seq (by rfl) bi.len PySem.boot_len (pa_cons (pv 0) pa_nil)) (pe_callB call_len_seq (by rfl) bi.len PySem.boot_len (pa_cons (pv 1) pa_nil)) (nomark _)) (pe_one (pe_callB (cr_all rfl) (by rfl) bi.all (by decide +kernel) (pa_cons (pe_lc (own := [("_law_a", 2), ("_law_b", 3)]) (g := gTup K 2 (gCons (gName 2) (gCons (gName 3) gNil))) (tt := tYes) rfl sc__law_same.nd (RZ.pi_zipA (by rfl) bi.zip (pa_cons (pv 0) (pa_cons (pv 1) pa_nil))) (blkOk_by (N := ["_law_found", "_law_due", "_law_a", "_law_b"]) (sc := defScope s__law_same) (by decide +kernel)) (fun _ _ _ _ _ => (pg_tup rfl (pgs_cons (pg_name (i := 2) sc__law_same.nd rfl (.inl rfl)) (pgs_cons (pg_name (i := 3) sc__law_same.nd rfl (.inl rfl)) pgs_nil)))) (fun _ _ _ _ _ => pts_nil) (fun _ _ _ _ _ => (pe_own c_law_same hr (by omega) (by rfl) (pa_cons (pv 2) (pa_cons (pv 3) pa_nil))))) pa_nil))))))) pss_nil)
      (pss_cons (ps_if (PW.pt (pw_or (pt_cmpR op_isN (pv 1) pe_non (nomark _)) (pw_or1 (pt_cmpR op_isN (pv 0) pe_non (nomark _))))) (pss_one (ps_ret (pe_and (pe_cmpR op_isN (pv 1) pe_non (nomark _)) (pe_one (pe_cmpR op_isN (pv 0) pe_non (nomark _)))))) pss_nil)
      (pss_cons (ps_if (PW.pt (pw_or (pt_cmpR op_ne (pe_callB call_isi (by rfl) bi.isinstance (by decide +kernel) (pa_cons (pv 1) (pa_cons (pe_bltn (v := .ty "bool") (u := .type "bool") (by rfl) bi.bool (by decide +kernel) rfl) pa_nil))) (pe_callB call_isi (by rfl) bi.isinstance (by decide +kernel) (pa_cons (pv 0) (pa_cons (pe_bltn (v := .ty "bool") (u := .type "bool") (by rfl) bi.bool (by decide +kernel) rfl) pa_nil))) (nomark _)) (pw_or1 (pt_cmpR op_ne (pe_callB call_isi (by rfl) bi.isinstance (by decide +kernel) (pa_cons (pv 1) (pa_cons (pe_bltn (v := .ty "int") (u := .type "int") (by rfl) bi.int (by decide +kernel) rfl) pa_nil))) (pe_callB call_isi (by rfl) bi.isinstance (by decide +kernel) (pa_cons (pv 0) (pa_cons (pe_bltn (v := .ty "int") (u := .type "int") (by rfl) bi.int (by decide +kernel) rfl) pa_nil))) (nomark _))))) (pss_one (ps_ret pe_bl)) pss_nil)
      (pss_one (ps_ret (pe_and (pe_cmpR op_eq (pe_callB call_isi (by rfl) bi.isinstance (by decide +kernel) (pa_cons (pv 1) (pa_cons (pe_bltn (v := .ty "str") (u := .type "str") (by rfl) bi.str (by decide +kernel) rfl) pa_nil))) (pe_callB call_isi (by rfl) bi.isinstance (by decide +kernel) (pa_cons (pv 0) (pa_cons (pe_bltn (v := .ty "str") (u := .type "str") (by rfl) bi.str (by decide +kernel) rfl) pa_nil))) (nomark _)) (pe_one (pe_cmpR op_eq (pv 0) (pv 1) (nomark _))))))))), ?_⟩
  have q0 := q H (fun _ _ e => e)
  cases d with
  | none =>
    cases hx
    cases hy
    refine ⟨_, rfl, _, _, _, _, false, rfl, .ty _, .base .non, kit_ty (by decide +kernel), _, rfl, ?_⟩
    refine ⟨_, rfl, _, _, _, _, false, rfl, .ty _, .base .non, kit_ty (by decide +kernel), _, rfl, ?_⟩
    refine ⟨_, rfl, rfl, _, rfl, ?_⟩
    refine ⟨_, rfl, rfl, _, rfl, ?_⟩
    exact ⟨_, rfl, rfl, q0⟩
  | bool b =>
    cases hx
    cases hy
    refine ⟨_, rfl, _, _, _, _, false, rfl, .ty _, .base (.bl b), kit_ty (by decide +kernel), _, rfl, ?_⟩
    refine ⟨_, rfl, _, _, _, _, false, rfl, .ty _, .base (.bl b), kit_ty (by decide +kernel), _, rfl, ?_⟩
    refine ⟨_, rfl, rfl, _, rfl, ?_⟩
    refine ⟨_, rfl, rfl, _, rfl, ?_⟩
    refine ⟨_, rfl, _, _, _, _, true, rfl, .ty _, .base (.bl b), kit_ty (by decide +kernel), _, rfl, _, _, _, _, true, rfl, .ty _, .base (.bl b), kit_ty (by decide +kernel), rfl, _, rfl, ?_⟩
    refine ⟨_, rfl, _, _, _, _, true, rfl, .ty _, .base (.bl b), kit_ty (by decide +kernel), _, rfl, _, _, _, _, true, rfl, .ty _, .base (.bl b), kit_ty (by decide +kernel), rfl, _, rfl, ?_⟩
    refine ⟨_, rfl, _, _, _, _, false, rfl, .ty _, .base (.bl b), kit_ty (by decide +kernel), _, rfl, _, _, _, _, false, rfl, .ty _, .base (.bl b), kit_ty (by decide +kernel), rfl, _, rfl, ?_⟩
    refine ⟨_, rfl, _, rfl, rfl, ?_⟩
    rw [decide_eq_true rfl]
    exact q0
  | int i =>
    cases hx
    cases hy
    refine ⟨_, rfl, _, _, _, _, false, rfl, .ty _, .base (.int i), kit_ty (by decide +kernel), _, rfl, ?_⟩
    refine ⟨_, rfl, _, _, _, _, false, rfl, .ty _, .base (.int i), kit_ty (by decide +kernel), _, rfl, ?_⟩
    refine ⟨_, rfl, rfl, _, rfl, ?_⟩
    refine ⟨_, rfl, rfl, _, rfl, ?_⟩
    refine ⟨_, rfl, _, _, _, _, false, rfl, .ty _, .base (.int i), kit_ty (by decide +kernel), _, rfl, _, _, _, _, false, rfl, .ty _, .base (.int i), kit_ty (by decide +kernel), rfl, _, rfl, ?_⟩
    refine ⟨_, rfl, _, _, _, _, true, rfl, .ty _, .base (.int i), kit_ty (by decide +kernel), _, rfl, _, _, _, _, true, rfl, .ty _, .base (.int i), kit_ty (by decide +kernel), rfl, _, rfl, ?_⟩
    refine ⟨_, rfl, _, _, _, _, false, rfl, .ty _, .base (.int i), kit_ty (by decide +kernel), _, rfl, _, _, _, _, false, rfl, .ty _, .base (.int i), kit_ty (by decide +kernel), rfl, _, rfl, ?_⟩
    refine ⟨_, rfl, _, rfl, rfl, ?_⟩
    rw [decide_eq_true rfl]
    exact q0
  | str z =>
    cases hx
    cases hy
    refine ⟨_, rfl, _, _, _, _, false, rfl, .ty _, .base (.str z), kit_ty (by decide +kernel), _, rfl, ?_⟩
    refine ⟨_, rfl, _, _, _, _, false, rfl, .ty _, .base (.str z), kit_ty (by decide +kernel), _, rfl, ?_⟩
    refine ⟨_, rfl, rfl, _, rfl, ?_⟩
    refine ⟨_, rfl, rfl, _, rfl, ?_⟩
    refine ⟨_, rfl, _, _, _, _, false, rfl, .ty _, .base (.str z), kit_ty (by decide +kernel), _, rfl, _, _, _, _, false, rfl, .ty _, .base (.str z), kit_ty (by decide +kernel), rfl, _, rfl, ?_⟩
    refine ⟨_, rfl, _, _, _, _, false, rfl, .ty _, .base (.str z), kit_ty (by decide +kernel), _, rfl, _, _, _, _, false, rfl, .ty _, .base (.str z), kit_ty (by decide +kernel), rfl, _, rfl, ?_⟩
    refine ⟨_, rfl, _, _, _, _, true, rfl, .ty _, .base (.str z), kit_ty (by decide +kernel), _, rfl, _, _, _, _, true, rfl, .ty _, .base (.str z), kit_ty (by decide +kernel), rfl, _, rfl, ?_⟩
    refine ⟨_, rfl, _, rfl, rfl, ?_⟩
    rw [decide_eq_true rfl]
    exact q0
  | list ds =>
    cases hx with | lst sx ax => ?_
    cases hy with | lst sy ay => ?_
    rename_i a xs b ys
    have lx := DpAll.length ax
    have ly := DpAll.length ay
    cases n with
    | zero => exact hs.elim
    | succ m =>
    unfold Sm at hs
    refine ⟨_, rfl, _, _, _, _, true, rfl, .ty _, SqL.ty sy, kit_ty (by decide +kernel), _, rfl, ?_⟩
    
    refine ⟨_, rfl, _, _, _, _, true, rfl, .ty _, SqL.ty sx, kit_ty (by decide +kernel), _, rfl, _, _, _, _, true, rfl, .ty _, SqL.ty sy, kit_ty (by decide +kernel), rfl, _, rfl, ?_⟩
    refine ⟨_, rfl, _, _, _, _, false, rfl, .ty _, SqL.ty sx, kit_ty (by decide +kernel), _, rfl, _, _, _, _, false, rfl, .ty _, SqL.ty sy, kit_ty (by decide +kernel), rfl, _, rfl, ?_⟩
    refine ⟨_, rfl, _, _, rfl, .inl sx, _, rfl, _, _, rfl, .inl sy, rfl, _, rfl, ite2 (fun _ => ?_) (fun ne => absurd (by rw [lx, ly]; exact decide_eq_true rfl) ne)⟩
    refine ⟨_, rfl, _, rfl, a, b, xs, ys, rfl, .inl ⟨sx, sy, fun Dd hD => ?_⟩⟩
    refine lcz (n := min xs.length ys.length) (walk_zip rfl) (by decide) (fun i H2 => H2 Dd = some (.lst ((List.replicate i true).map V.bl)) ∧ Same H H2) ?_ ?_ ?_ ?_
    · exact ⟨upd_same, same_new hD⟩
    · rintro i H2 _ ⟨_, s2⟩
      exact ⟨s2.seq sx, s2.seq sy⟩
    · rintro i x y T H2 hi e1 e2 ⟨hA, s2⟩ hT
      obtain ⟨d1, g1, h1⟩ := DpAll.get ax e1
      obtain ⟨d2, g2, h2⟩ := DpAll.get ay e2
      have e := Option.some.inj (g1.symm.trans g2)
      subst e
      have s3 : Same H (upd H2 T (.tup [x, y])) := s2.trans (same_new hT)
      refine ⟨_, rfl, _, rfl, _, _, d1, rfl, Dp.same s3 _ h1, Dp.same s3 _ h2, hs.2 d1 (List.mem_of_getElem? g1), fun H4 s4 => ?_⟩
      have hA4 := s4 _ _ (same_new hT _ _ hA)
      refine ⟨_, hA4, ?_, ?_, ?_⟩
      · rw [List.length_map, List.length_replicate]
        exact Nat.lt_of_le_of_lt (show i ≤ 1000 by omega) (by decide)
      · rw [upd_same, rep_snoc]
      · intro b o hb
        rw [upd_ne (ne_of_none hb hD)]
        exact s4 _ _ (s3 _ _ hb)
    · rintro H2 ⟨hA, s2⟩
      refine ⟨Dd, _, rfl, SqL.of hA, ?_⟩
      rw [all_true]
      exact q H2 s2
  | tuple ds =>
    cases hx with | tup sx ax => ?_
    cases hy with | tup sy ay => ?_
    rename_i a xs b ys
    have lx := DpAll.length ax
    have ly := DpAll.length ay
    cases n with
    | zero => exact hs.elim
    | succ m =>
    unfold Sm at hs
    refine ⟨_, rfl, _, _, _, _, false, rfl, .ty _, SqT.ty sy, kit_ty (by decide +kernel), _, rfl, ?_⟩
    refine ⟨_, rfl, _, _, _, _, true, rfl, .ty _, SqT.ty sy, kit_ty (by decide +kernel), _, rfl, ?_⟩
    refine ⟨_, rfl, _, _, _, _, false, rfl, .ty _, SqT.ty sx, kit_ty (by decide +kernel), _, rfl, _, _, _, _, false, rfl, .ty _, SqT.ty sy, kit_ty (by decide +kernel), rfl, _, rfl, ?_⟩
    refine ⟨_, rfl, _, _, _, _, true, rfl, .ty _, SqT.ty sx, kit_ty (by decide +kernel), _, rfl, _, _, _, _, true, rfl, .ty _, SqT.ty sy, kit_ty (by decide +kernel), rfl, _, rfl, ?_⟩
    refine ⟨_, rfl, _, _, rfl, .inr sx, _, rfl, _, _, rfl, .inr sy, rfl, _, rfl, ite2 (fun _ => ?_) (fun ne => absurd (by rw [lx, ly]; exact decide_eq_true rfl) ne)⟩
    refine ⟨_, rfl, _, rfl, a, b, xs, ys, rfl, .inr ⟨sx, sy, fun Dd hD => ?_⟩⟩
    refine lcz (n := min xs.length ys.length) (walk_zipT rfl) (by decide) (fun i H2 => H2 Dd = some (.lst ((List.replicate i true).map V.bl)) ∧ Same H H2) ?_ ?_ ?_ ?_
    · exact ⟨upd_same, same_new hD⟩
    · rintro i H2 _ ⟨_, s2⟩
      exact ⟨(tp_same s2).sq sx, (tp_same s2).sq sy⟩
    · rintro i x y T H2 hi e1 e2 ⟨hA, s2⟩ hT
      obtain ⟨d1, g1, h1⟩ := DpAll.get ax e1
      obtain ⟨d2, g2, h2⟩ := DpAll.get ay e2
      have e := Option.some.inj (g1.symm.trans g2)
      subst e
      have s3 : Same H (upd H2 T (.tup [x, y])) := s2.trans (same_new hT)
      refine ⟨_, rfl, _, rfl, _, _, d1, rfl, Dp.same s3 _ h1, Dp.same s3 _ h2, hs.2 d1 (List.mem_of_getElem? g1), fun H4 s4 => ?_⟩
      have hA4 := s4 _ _ (same_new hT _ _ hA)
      refine ⟨_, hA4, ?_, ?_, ?_⟩
      · rw [List.length_map, List.length_replicate]
        exact Nat.lt_of_le_of_lt (show i ≤ 1000 by omega) (by decide)
      · rw [upd_same, rep_snoc]
      · intro b o hb
        rw [upd_ne (ne_of_none hb hD)]
        exact s4 _ _ (s3 _ _ hb)
    · rintro H2 ⟨hA, s2⟩
      refine ⟨Dd, _, rfl, SqL.of hA, ?_⟩
      rw [all_true]
      exact q H2 s2
  | dict ds => cases hx
theorem ok_same (D : Df K mg "_law_same" s__law_same ["_law_found", "_law_due"]) (bi : Bi mg) : ∀ n : Nat, Cal P w K mg base n "_law_same" ["_law_found", "_law_due"] (spSame K n)
  | 0 => D.no fun vs H Q E h => h.elim
  | n + 1 => ok_same1 D bi (ok_same D bi n)
/-! ### _law_parts -/
def spParts (K : PySem.W.Frag) : Sp := fun vs H Q _ => ∃ v t, vs = [v] ∧ WV K H v t ∧ t.Ok abcABC ∧ ∀ p xs H', WVs K H' xs t.parts → H' p = some (.lst xs) → H p = none → Same H H' → Q (.ref p) H'
theorem sc__law_parts : FnScope ["_law_tree_here"] ["_law_tree_here"] (defScope s__law_parts) := ⟨rfl, rfl, rfl, by decide +kernel, rfl, by decide +kernel, by decide +kernel⟩
theorem ok_parts (D : Df K mg "_law_parts" s__law_parts ["_law_tree_here"]) (bi : Bi mg) : Cal P w K mg base 1 "_law_parts" ["_law_tree_here"] (spParts K) := by
  refine D.ok sc__law_parts (fun vs H Q E h => ?_) (fun f cdv A outer s H vs Q E hr h => ?_)
  · obtain ⟨v, t, rfl, _⟩ := h
    rfl
  obtain ⟨v, t, rfl, hv, ho, q⟩ := h
  refine ⟨_, (pss_cons (ps_if (pt_cmpR op_eq (pe_ix ix_tup (pv 0) pe_int (fun _ _ => rfl)) pe_str (nomark _)) (pss_one (ps_ret (pe_callTy call_list_of (by rfl) bi.list (by decide +kernel) (pa_cons (pe_ix ix_tup (pv 0) pe_int (fun _ _ => rfl)) pa_nil)))) pss_nil)
      (pss_one (ps_ret (pe_ifExp (PW.pt (pw_or (pt_cmpR op_eq (pe_ix ix_tup (pv 0) pe_int (fun _ _ => rfl)) pe_str (nomark _)) (pw_or (pt_cmpR op_eq (pe_ix ix_tup (pv 0) pe_int (fun _ _ => rfl)) pe_str (nomark _)) (pw_or1 (pt_cmpR op_eq (pe_ix ix_tup (pv 0) pe_int (fun _ _ => rfl)) pe_str (nomark _)))))) (pe_lst (pa_cons (pe_ix ix_tup (pv 0) pe_int (fun _ _ => rfl)) pa_nil)) (pe_lst pa_nil))))), ?_⟩
  have at_ := hv.at
  cases at_ with
  | emp e s =>
    cases e
    refine ⟨_, rfl, _, _, _, _, rfl, rfl, s, rfl, rfl, eq_no (by decide +kernel) ?_⟩
    refine ⟨_, rfl, _, _, _, _, rfl, rfl, s, rfl, rfl, eq_no (by decide +kernel) ?_⟩
    refine ⟨_, rfl, _, _, _, _, rfl, rfl, s, rfl, rfl, eq_no (by decide +kernel) ?_⟩
    refine ⟨_, rfl, _, _, _, _, rfl, rfl, s, rfl, rfl, eq_no (by decide +kernel) ?_⟩
    refine ⟨Nat.zero_le _, fun p hp => ?_⟩
    exact q p [] _ wvs_nil upd_same hp (same_new hp)
  | nam e s =>
    unfold W.Ok at ho
    exact ho.elim
  | @ltr a c e s =>
    cases e
    refine ⟨_, rfl, _, _, _, _, rfl, rfl, s, rfl, rfl, eq_no (by decide +kernel) ?_⟩
    refine ⟨_, rfl, _, _, _, _, rfl, rfl, s, rfl, rfl, eq_no (by decide +kernel) ?_⟩
    refine ⟨_, rfl, _, _, _, _, rfl, rfl, s, rfl, rfl, eq_no (by decide +kernel) ?_⟩
    refine ⟨_, rfl, _, _, _, _, rfl, rfl, s, rfl, rfl, eq_no (by decide +kernel) ?_⟩
    refine ⟨Nat.zero_le _, fun p hp => ?_⟩
    exact q p [] _ wvs_nil upd_same hp (same_new hp)
  | @join a b xs ws e s s2 hw =>
    cases e
    refine ⟨_, rfl, _, _, _, _, rfl, rfl, s, rfl, rfl, eq_yes rfl ?_⟩
    refine ⟨_, rfl, _, _, _, _, rfl, rfl, s, rfl, b, xs, rfl, .inr s2, fun p hp => ?_⟩
    exact q p xs _ (WVs.tp (tp_new hp) _ hw) upd_same hp (same_new hp)
  | @times a x t n' e s hx =>
    cases e
    refine ⟨_, rfl, _, _, _, _, rfl, rfl, s, rfl, rfl, eq_no (by decide +kernel) ?_⟩
    refine ⟨_, rfl, _, _, _, _, rfl, rfl, s, rfl, rfl, eq_yes rfl ?_⟩
    refine ⟨_, rfl, _, _, _, _, rfl, rfl, s, rfl, (by show 1 ≤ sizeLine; decide), fun p hp => ?_⟩
    exact q p [x] _ (wvs_cons (WV.tp (tp_new hp) _ hx) wvs_nil) upd_same hp (same_new hp)
  | @right a x t e s hx =>
    cases e
    refine ⟨_, rfl, _, _, _, _, rfl, rfl, s, rfl, rfl, eq_no (by decide +kernel) ?_⟩
    refine ⟨_, rfl, _, _, _, _, rfl, rfl, s, rfl, rfl, eq_no (by decide +kernel) ?_⟩
    refine ⟨_, rfl, _, _, _, _, rfl, rfl, s, rfl, rfl, eq_yes rfl ?_⟩
    refine ⟨_, rfl, _, _, _, _, rfl, rfl, s, rfl, (by show 1 ≤ sizeLine; decide), fun p hp => ?_⟩
    exact q p [x] _ (wvs_cons (WV.tp (tp_new hp) _ hx) wvs_nil) upd_same hp (same_new hp)
  | @left a x t e s hx =>
    cases e
    refine ⟨_, rfl, _, _, _, _, rfl, rfl, s, rfl, rfl, eq_no (by decide +kernel) ?_⟩
    refine ⟨_, rfl, _, _, _, _, rfl, rfl, s, rfl, rfl, eq_no (by decide +kernel) ?_⟩
    refine ⟨_, rfl, _, _, _, _, rfl, rfl, s, rfl, rfl, eq_no (by decide +kernel) ?_⟩
    refine ⟨_, rfl, _, _, _, _, rfl, rfl, s, rfl, rfl, eq_yes rfl ?_⟩
    refine ⟨_, rfl, _, _, _, _, rfl, rfl, s, rfl, (by show 1 ≤ sizeLine; decide), fun p hp => ?_⟩
    exact q p [x] _ (wvs_cons (WV.tp (tp_new hp) _ hx) wvs_nil) upd_same hp (same_new hp)
/-! ### _law_count -/
def spLCnt (K : PySem.W.Frag) (n : Nat) : Sp := fun vs H Q _ => ∃ v t u L, vs = [v, .ref u] ∧ WV K H v t ∧ t.Ok abcABC ∧ t.dep ≤ n ∧ n ≤ 100 ∧ SqL K H u (L.map V.str) ∧ ∀ H', Same H H' → Q (.int (toL (t.cnt L))) H'
theorem sc__law_count : FnScope ["_law_tree_here", "_law_letters", "_law_counts", "_law_part"] ["_law_tree_here", "_law_letters"] (defScope s__law_count) := ⟨rfl, rfl, rfl, by decide +kernel, rfl, by decide +kernel, by decide +kernel⟩
theorem ok_lcnt1 {n : Nat} (D : Df K mg "_law_count" s__law_count ["_law_tree_here", "_law_letters"]) (bi : Bi mg) (c_law_parts : Cal P w K mg base 1 "_law_parts" ["_law_tree_here"] (spParts K)) (c_law_count : Cal P w K mg base (n + 1) "_law_count" ["_law_tree_here", "_law_letters"] (spLCnt K n)) :
    Cal P w K mg base (n + 2) "_law_count" ["_law_tree_here", "_law_letters"] (spLCnt K (n + 1)) := by
  refine D.ok sc__law_count (fun vs H Q E h => ?_) (fun f cdv A outer s H vs Q E hr h => ?_)
  · obtain ⟨v, t, u, L, rfl, _⟩ := h
    rfl
  obtain ⟨v, t, u, L, rfl, hv, ho, hd, hn, hu, q⟩ := h
  refine ⟨_, (C8.pss_cut (ps_if (pt_cmpR op_eq (pe_ix ix_tup (pv 0) pe_int (fun _ _ => rfl)) pe_str (nomark _)) (pss_one (ps_ret (pe_callTy call_int1 (by rfl) bi.int (by decide +kernel) (pa_cons (pe_cmpR op_in_seq (pe_ix ix_tup (pv 0) pe_int (fun _ _ => rfl)) (pv 1) (by rfl)) pa_nil)))) pss_nil)
      (C8.pss_cut (ps_if (PW.pt (pw_and (pt_cmpR op_eq (pe_ix ix_tup (pv 0) pe_int (fun _ _ => rfl)) pe_str (nomark _)) (pw_and1 (pt_cmpR op_eq (pe_ix ix_tup (pv 0) pe_int (fun _ _ => rfl)) pe_int (nomark _))))) (pss_one (ps_ret pe_int)) pss_nil)
      (pss_cons (ps_setLc (i := 2) (own := [("_law_part", 3)]) (g := gName 3) (tt := tYes) rfl sc__law_count.nd rfl rfl (sw_true rfl rfl rfl (by decide +kernel)) (pi_list (pe_own c_law_parts hr (by omega) (by rfl) (pa_cons (pv 0) pa_nil))) (blkOk_by (N := ["_law_tree_here", "_law_letters", "_law_counts", "_law_part"]) (sc := defScope s__law_count) (by decide +kernel)) (fun _ _ _ _ _ => (pg_name (i := 3) sc__law_count.nd rfl (.inl rfl))) (fun _ _ _ _ _ => pts_nil) (fun _ _ _ _ _ => (pe_own c_law_count hr (by omega) (by rfl) (pa_cons (pv 3) (pa_cons (pv 1) pa_nil)))))
      (pss_cons (ps_if (pt_cmpR op_in_seq (pe_un un_neg pe_int) (pv 2) (by rfl)) (pss_one (ps_ret (pe_un un_neg pe_int))) pss_nil)
      (pss_cons (ps_if (PW.pt (pw_or (pt_cmpR op_eq (pe_ix ix_tup (pv 0) pe_int (fun _ _ => rfl)) pe_str (nomark _)) (pw_or1 (pt_cmpR op_eq (pe_ix ix_tup (pv 0) pe_int (fun _ _ => rfl)) pe_str (nomark _))))) (pss_one (ps_ret (pe_ifExp (pt_cmpR (op_eqD hr.units) (pv 2) (pe_lst (pa_cons pe_int pa_nil)) (nomark _)) pe_int (pe_un un_neg pe_int)))) pss_nil)
      (pss_one (ps_ret (pe_ifExp (pt_cmpR op_eq (pe_ix ix_tup (pv 0) pe_int (fun _ _ => rfl)) pe_str (nomark _)) (pe_op op_mulW (pe_ix ix_list (pv 2) pe_int (fun _ _ => rfl)) (pe_ix ix_tup (pv 0) pe_int (fun _ _ => rfl))) (pe_callB (cr_sum rfl) (by rfl) bi.sum (by decide +kernel) (pa_cons (pv 2) pa_nil)))))))))), ?_⟩
  have q0 := q H (Same.refl H)
  -- a letter
  refine ⟨fun σ' H' => σ' = [some v, some (.ref u), none, none] ∧ H' = H ∧ ∀ c, t ≠ .ltr c, ?_, ?_⟩
  · have at_ := hv.at
    cases at_ with
    | emp e s =>
      cases e
      exact ⟨_, rfl, _, _, _, _, rfl, rfl, s, rfl, rfl, eq_no (by decide +kernel) ⟨rfl, rfl, fun c e => by cases e⟩⟩
    | nam e s =>
      unfold W.Ok at ho
      exact ho.elim
    | @ltr a c e s =>
      cases e
      refine ⟨_, rfl, _, _, _, _, rfl, rfl, s, rfl, rfl, eq_yes rfl ?_⟩
      refine ⟨_, rfl, _, _, _, _, rfl, rfl, s, rfl, _, rfl, u, _, rfl, .inl hu, rfl, flat_strs L, .inr ⟨_, rfl, ?_⟩⟩
      rw [cnt_ltr] at q0
      rw [inV_str]
      by_cases hc : c ∈ L
      · rw [if_pos hc] at q0
        rw [decide_eq_true hc]
        exact q0
      · rw [if_neg hc] at q0
        rw [decide_eq_false hc]
        exact q0
    | join e s s2 hw =>
      cases e
      exact ⟨_, rfl, _, _, _, _, rfl, rfl, s, rfl, rfl, eq_no (by decide +kernel) ⟨rfl, rfl, fun c e => by cases e⟩⟩
    | times e s hx =>
      cases e
      exact ⟨_, rfl, _, _, _, _, rfl, rfl, s, rfl, rfl, eq_no (by decide +kernel) ⟨rfl, rfl, fun c e => by cases e⟩⟩
    | right e s hx =>
      cases e
      exact ⟨_, rfl, _, _, _, _, rfl, rfl, s, rfl, rfl, eq_no (by decide +kernel) ⟨rfl, rfl, fun c e => by cases e⟩⟩
    | left e s hx =>
      cases e
      exact ⟨_, rfl, _, _, _, _, rfl, rfl, s, rfl, rfl, eq_no (by decide +kernel) ⟨rfl, rfl, fun c e => by cases e⟩⟩
  rintro σ' H' ⟨rfl, rfl, hl⟩
  -- no copies
  refine ⟨fun σ' H2 => σ' = [some v, some (.ref u), none, none] ∧ H2 = H' ∧ ∀ x n, t = .times x n → n ≠ 0, ?_, ?_⟩
  · have at_ := hv.at
    cases at_ with
    | emp e s =>
      cases e
      exact ⟨_, rfl, _, _, _, _, rfl, rfl, s, rfl, rfl, eq_no (by decide +kernel) ⟨rfl, rfl, fun x n e => by cases e⟩⟩
    | nam e s =>
      unfold W.Ok at ho
      exact ho.elim
    | @ltr a c e s => exact absurd rfl (hl c)
    | join e s s2 hw =>
      cases e
      exact ⟨_, rfl, _, _, _, _, rfl, rfl, s, rfl, rfl, eq_no (by decide +kernel) ⟨rfl, rfl, fun x n e => by cases e⟩⟩
    | @times a x t n' e s hx =>
      cases e
      refine ⟨_, rfl, _, _, _, _, rfl, rfl, s, rfl, rfl, eq_yes rfl ?_⟩
      refine ⟨_, rfl, _, _, _, _, rfl, rfl, s, rfl, rfl, _, rfl, ite2 (fun hc => ?_) (fun hc => ?_)⟩
      · have hc' : V.int n' = V.int 0 := of_decide_eq_true hc
        cases hc'
        rw [cnt_times, if_neg (by decide)] at q0
        exact q0
      · refine ⟨rfl, rfl, fun x n e z => ?_⟩
        cases e
        exact hc (by rw [z]; exact decide_eq_true rfl)
    | right e s hx =>
      cases e
      exact ⟨_, rfl, _, _, _, _, rfl, rfl, s, rfl, rfl, eq_no (by decide +kernel) ⟨rfl, rfl, fun x n e => by cases e⟩⟩
    | left e s hx =>
      cases e
      exact ⟨_, rfl, _, _, _, _, rfl, rfl, s, rfl, rfl, eq_no (by decide +kernel) ⟨rfl, rfl, fun x n e => by cases e⟩⟩
  rintro σ' H2 ⟨rfl, rfl, ht⟩
  -- the counts of the parts
  refine ⟨_, rfl, v, t, rfl, hv, ho, fun p xs H1 hw hp hpn k1 => ⟨p, rfl, ⟨xs, SqL.of hp⟩, fun Dd hD => ?_⟩⟩
  have hlen := hw.length
  have h3 := W.parts_len ho
  refine lcl (xs := xs) (fun i H3 => H3 Dd = some (.lst (((t.parts.take i).map fun x => toL (x.cnt L)).map V.int)) ∧ Same H1 H3) ?_ ?_ ?_ ?_
  · exact ⟨upd_same, same_new hD⟩
  · rintro i H3 _ ⟨_, k3⟩
    exact SqL.of (k3 _ _ hp)
  · rintro i x H3 hx ⟨hA, k3⟩
    obtain ⟨t1, e1, h1⟩ := hw.get hx
    have m1 := W.parts_mem ho (List.mem_of_getElem? e1)
    refine ⟨_, rfl, _, rfl, _, t1, u, L, rfl, WV.tp (tp_same k3) _ h1, m1.1, by omega, by omega, (k1.trans k3).seq hu, fun H4 k4 => ?_⟩
    refine ⟨_, k4 _ _ hA, ?_, ?_, ?_⟩
    · rw [List.length_map, List.length_map, List.length_take]
      exact Nat.lt_of_le_of_lt (show _ ≤ 1000 by omega) (by decide)
    · rw [upd_same, List.take_add_one, e1]
      show _ = some (HO.lst (((t.parts.take i ++ [t1]).map fun x => toL (x.cnt L)).map V.int))
      rw [List.map_append, List.map_append]
      rfl
    · intro b' o hb
      rw [upd_ne (ne_of_none hb hD)]
      exact k4 _ _ (k3 _ _ hb)
  · rintro H3 ⟨hA, k3⟩
    rw [hlen, List.take_length] at hA
    have hA' : H3 Dd = some (.lst ((t.cs L).map V.int)) := hA
    have kk := k1.trans k3
    have q3 := q H3 kk
    refine ⟨_, rfl, _, rfl, Dd, _, rfl, .inl (SqL.of hA'), rfl, flat_ints _, ?_⟩
    rw [if_neg (by decide), inV_int]
    by_cases hm : (-1 : Int) ∈ t.cs L
    · rw [decide_eq_true hm]
      rw [cs_neg ho hl ht hm] at q3
      exact ⟨true, rfl, _, rfl, q3⟩
    · rw [decide_eq_false hm]
      refine ⟨false, rfl, ?_⟩
      have at_ := (WV.tp (tp_same kk) _ hv).at
      cases at_ with
      | emp e s =>
        cases e
        refine ⟨_, rfl, _, _, _, _, rfl, rfl, s, rfl, rfl, eq_no (by decide +kernel) ?_⟩
        refine ⟨_, rfl, _, _, _, _, rfl, rfl, s, rfl, rfl, eq_no (by decide +kernel) ?_⟩
        refine ⟨_, rfl, _, _, _, _, rfl, rfl, s, rfl, rfl, eq_no (by decide +kernel) ?_⟩
        rw [cnt_emp] at q3
        exact ⟨_, rfl, Dd, _, rfl, SqL.of hA', q3⟩
      | nam e s =>
        unfold W.Ok at ho
        exact ho.elim
      | @ltr a c e s => exact absurd rfl (hl c)
      | join e s s2 hw =>
        cases e
        refine ⟨_, rfl, _, _, _, _, rfl, rfl, s, rfl, rfl, eq_no (by decide +kernel) ?_⟩
        refine ⟨_, rfl, _, _, _, _, rfl, rfl, s, rfl, rfl, eq_no (by decide +kernel) ?_⟩
        refine ⟨_, rfl, _, _, _, _, rfl, rfl, s, rfl, rfl, eq_no (by decide +kernel) ?_⟩
        rw [cs_join ho hm] at q3
        exact ⟨_, rfl, Dd, _, rfl, SqL.of hA', q3⟩
      | @times a x t n' e s hx =>
        cases e
        refine ⟨_, rfl, _, _, _, _, rfl, rfl, s, rfl, rfl, eq_no (by decide +kernel) ?_⟩
        refine ⟨_, rfl, _, _, _, _, rfl, rfl, s, rfl, rfl, eq_no (by decide +kernel) ?_⟩
        refine ⟨_, rfl, _, _, _, _, rfl, rfl, s, rfl, rfl, eq_yes rfl ?_⟩
        have hn' : n'.natAbs < 2 ^ 100 := by
          unfold W.Ok at ho
          have : n'.natAbs ≤ 1000000000000000000000000000000 := by omega
          exact Nat.lt_of_le_of_lt this (by decide)
        rw [cs_times ho (ht t n' rfl) hm] at q3
        unfold W.Ok at ho
        rw [W.dep] at hd
        refine ⟨_, rfl, _, _, _, _, rfl, rfl, SqL.of hA', rfl, _, rfl, _, _, _, _, rfl, rfl, s, rfl, _, _, rfl, rfl, wide_mul (toL_abs ho.2.2) hn' (by have := t.dep_pos; omega) (by decide) (by omega), ?_⟩
        exact q3
      | @right a x t e s hx =>
        cases e
        unfold W.Ok at ho
        refine ⟨_, rfl, _, _, _, _, rfl, rfl, s, rfl, rfl, eq_yes rfl ?_⟩
        refine ⟨_, rfl, (by show 1 ≤ sizeLine; decide), fun p2 hp2 => ?_⟩
        have hA2 : (upd H3 p2 (.lst [.int 0])) Dd = some (.lst [.int (toL (t.cnt L))]) := by
          rw [upd_ne (ne_of_none hA' hp2)]
          exact hA'
        refine ⟨.list [.int (toL (t.cnt L))], .list [.int 0], .lst (SqL.of hA2) (.cons (.int _) .nil), .lst (SqL.of upd_same) (.cons (.int _) .nil), int_shaped, int_shaped, ?_⟩
        rw [int_eqv]
        have q4 := q _ (kk.trans (same_new (o := .lst [.int 0]) hp2))
        rw [cnt_right, cs_end ho] at q4
        by_cases hz : toL (t.cnt L) = 0
        · rw [if_pos hz] at q4
          rw [decide_eq_true hz]
          exact ⟨true, rfl, q4⟩
        · rw [if_neg hz] at q4
          rw [decide_eq_false hz]
          exact ⟨false, rfl, _, rfl, q4⟩
      | @left a x t e s hx =>
        cases e
        unfold W.Ok at ho
        refine ⟨_, rfl, _, _, _, _, rfl, rfl, s, rfl, rfl, eq_no (by decide +kernel) ?_⟩
        refine ⟨_, rfl, _, _, _, _, rfl, rfl, s, rfl, rfl, eq_yes rfl ?_⟩
        refine ⟨_, rfl, (by show 1 ≤ sizeLine; decide), fun p2 hp2 => ?_⟩
        have hA2 : (upd H3 p2 (.lst [.int 0])) Dd = some (.lst [.int (toL (t.cnt L))]) := by
          rw [upd_ne (ne_of_none hA' hp2)]
          exact hA'
        refine ⟨.list [.int (toL (t.cnt L))], .list [.int 0], .lst (SqL.of hA2) (.cons (.int _) .nil), .lst (SqL.of upd_same) (.cons (.int _) .nil), int_shaped, int_shaped, ?_⟩
        rw [int_eqv]
        have q4 := q _ (kk.trans (same_new (o := .lst [.int 0]) hp2))
        rw [cnt_left, cs_end ho] at q4
        by_cases hz : toL (t.cnt L) = 0
        · rw [if_pos hz] at q4
          rw [decide_eq_true hz]
          exact ⟨true, rfl, q4⟩
        · rw [if_neg hz] at q4
          rw [decide_eq_false hz]
          exact ⟨false, rfl, _, rfl, q4⟩
theorem ok_lcnt (D : Df K mg "_law_count" s__law_count ["_law_tree_here", "_law_letters"]) (bi : Bi mg) (c_law_parts : Cal P w K mg base 1 "_law_parts" ["_law_tree_here"] (spParts K)) : ∀ n : Nat, Cal P w K mg base (n + 1) "_law_count" ["_law_tree_here", "_law_letters"] (spLCnt K n)
  | 0 => D.no fun vs H Q E h => by
    obtain ⟨v, t, u, L, _, _, _, h, _⟩ := h
    have := t.dep_pos
    omega
  | n + 1 => ok_lcnt1 D bi c_law_parts (ok_lcnt D bi c_law_parts n)
/-! ### _law_places -/
def spPlaces (K : PySem.W.Frag) : Sp := fun vs H Q _ => ∃ v t, vs = [v] ∧ WV K H v t ∧ t.Ok abcABC ∧ t.dep ≤ 12 ∧ ∀ H', Same H H' → Q (.int (toL (t.cnt abcABC))) H'
theorem sc__law_places : FnScope ["_law_tree_here"] ["_law_tree_here"] (defScope s__law_places) := ⟨rfl, rfl, rfl, by decide +kernel, rfl, by decide +kernel, by decide +kernel⟩
theorem ok_places (D : Df K mg "_law_places" s__law_places ["_law_tree_here"]) (c_law_count : Cal P w K mg base 13 "_law_count" ["_law_tree_here", "_law_letters"] (spLCnt K 12)) : Cal P w K mg base 14 "_law_places" ["_law_tree_here"] (spPlaces K) := by
  refine D.ok sc__law_places (fun vs H Q E h => ?_) (fun f cdv A outer s H vs Q E hr h => ?_)
  · obtain ⟨v, t, rfl, _⟩ := h
    rfl
  obtain ⟨v, t, rfl, hv, ho, hd, q⟩ := h
  refine ⟨_, (pss_one (ps_ret (pe_own c_law_count hr (by omega) (by rfl) (pa_cons (pv 0) (pa_cons (pe_lst (pa_cons pe_str (pa_cons pe_str (pa_cons pe_str (pa_cons pe_str (pa_cons pe_str (pa_cons pe_str pa_nil))))))) pa_nil))))), ?_⟩
  refine ⟨_, rfl, (by show 6 ≤ sizeLine; decide), fun p hp => ?_⟩
  exact ⟨v, t, p, abcABC, rfl, WV.tp (tp_new hp) _ hv, ho, hd, by decide, SqL.of upd_same, fun H' k => q H' ((same_new hp).trans k)⟩
/-! ### _law_told -/
def spTold : Sp := fun vs H Q _ => ∃ (o : Option Int), vs = [.int (toL o)] ∧ (∀ m, o = some m → 0 ≤ m) ∧ Q (toV o) H
theorem sc__law_told : FnScope ["_law_count_here"] ["_law_count_here"] (defScope s__law_told) := ⟨rfl, rfl, rfl, by decide +kernel, rfl, by decide +kernel, by decide +kernel⟩
theorem ok_told (D : Df K mg "_law_told" s__law_told ["_law_count_here"]) : Cal P w K mg base 1 "_law_told" ["_law_count_here"] spTold := by
  refine D.ok sc__law_told (fun vs H Q E h => ?_) (fun f cdv A outer s H vs Q E hr h => ?_)
  · obtain ⟨o, rfl, _⟩ := h
    rfl
  obtain ⟨o, rfl, hm, q⟩ := h
  refine ⟨_, (pss_one (ps_ret (pe_ifExp (pt_cmpR op_lt (pv 0) pe_int (nomark _)) pe_non (pv 0)))), ?_⟩
  refine ⟨_, rfl, _, _, rfl, rfl, _, rfl, ite2 (fun hc => ?_) (fun hc => ?_)⟩
  · have hc' : toL o < 0 := of_decide_eq_true hc
    cases o with
    | none => exact q
    | some m =>
      have := hm m rfl
      have h : m < 0 := hc'
      omega
  · have hc' : ¬ toL o < 0 := of_decide_eq_false (Bool.eq_false_iff.mpr hc)
    cases o with
    | none => exact absurd (show (-1 : Int) < 0 by decide) hc'
    | some m => exact ⟨_, rfl, q⟩
/-! ### _law_turned -/
theorem sc__law_turned : FnScope ["_law_tree_here", "_law_part"] ["_law_tree_here"] (defScope s__law_turned) := ⟨rfl, rfl, rfl, by decide +kernel, rfl, by decide +kernel, by decide +kernel⟩
theorem ok_turned1 {n : Nat} (D : Df K mg "_law_turned" s__law_turned ["_law_tree_here"]) (bi : Bi mg) (c_law_turned : Cal P w K mg base n "_law_turned" ["_law_tree_here"] (spMir K n)) : Cal P w K mg base (n + 1) "_law_turned" ["_law_tree_here"] (spMir K (n + 1)) := by
  refine D.ok sc__law_turned (fun vs H Q E h => ?_) (fun f cdv A outer s H vs Q E hr h => ?_)
  · obtain ⟨v, t, rfl, _⟩ := h
    rfl
  obtain ⟨v, t, rfl, hv, ho, hd, q⟩ := h
  refine ⟨_, (pss_cons (ps_if (pt_cmpR op_eq (pe_ix ix_tup (pv 0) pe_int (fun _ _ => rfl)) pe_str (nomark _)) (pss_one (ps_ret (pe_tup (pa_cons pe_str (pa_cons (pe_callTy call_tuple_of (by rfl) bi.tuple (by decide +kernel) (pa_cons (pe_lc (own := [("_law_part", 1)]) (g := gName 1) (tt := tYes) rfl sc__law_turned.nd (pi_tup (pe_revT (pe_ix ix_tup (pv 0) pe_int (fun _ _ => rfl)))) (blkOk_by (N := ["_law_tree_here", "_law_part"]) (sc := defScope s__law_turned) (by decide +kernel)) (fun _ _ _ _ _ => (pg_name (i := 1) sc__law_turned.nd rfl (.inl rfl))) (fun _ _ _ _ _ => pts_nil) (fun _ _ _ _ _ => (pe_own c_law_turned hr (by omega) (by rfl) (pa_cons (pv 1) pa_nil)))) pa_nil)) pa_nil))))) pss_nil)
      (pss_cons (ps_if (pt_cmpR op_eq (pe_ix ix_tup (pv 0) pe_int (fun _ _ => rfl)) pe_str (nomark _)) (pss_one (ps_ret (pe_tup (pa_cons pe_str (pa_cons (pe_own c_law_turned hr (by omega) (by rfl) (pa_cons (pe_ix ix_tup (pv 0) pe_int (fun _ _ => rfl)) pa_nil)) (pa_cons (pe_ix ix_tup (pv 0) pe_int (fun _ _ => rfl)) pa_nil)))))) pss_nil)
      (pss_cons (ps_if (PW.pt (pw_or (pt_cmpR op_eq (pe_ix ix_tup (pv 0) pe_int (fun _ _ => rfl)) pe_str (nomark _)) (pw_or1 (pt_cmpR op_eq (pe_ix ix_tup (pv 0) pe_int (fun _ _ => rfl)) pe_str (nomark _))))) (pss_one (ps_ret (pe_tup (pa_cons (pe_dget (hu_of hr) (pe_disp (pps_cons pe_str pe_str (pps_cons pe_str pe_str pps_nil)) (by rfl) (by rfl) (fun z => by cases z) (by decide)) (pe_ix ix_tup (pv 0) pe_int (fun _ _ => rfl)) (fun _ _ => rfl)) (pa_cons (pe_own c_law_turned hr (by omega) (by rfl) (pa_cons (pe_ix ix_tup (pv 0) pe_int (fun _ _ => rfl)) pa_nil)) pa_nil))))) pss_nil)
      (pss_one (ps_ret (pv 0)))))), ?_⟩
  have at_ := hv.at
  cases at_ with
  | emp e s =>
    cases e
    refine ⟨_, rfl, _, _, _, _, rfl, rfl, s, rfl, rfl, eq_no (by decide +kernel) ?_⟩
    refine ⟨_, rfl, _, _, _, _, rfl, rfl, s, rfl, rfl, eq_no (by decide +kernel) ?_⟩
    refine ⟨_, rfl, _, _, _, _, rfl, rfl, s, rfl, rfl, eq_no (by decide +kernel) ?_⟩
    refine ⟨_, rfl, _, _, _, _, rfl, rfl, s, rfl, rfl, eq_no (by decide +kernel) ?_⟩
    exact ⟨_, rfl, q _ H (by rw [mir_emp]; exact hv) (Same.refl H)⟩
  | nam e s =>
    unfold W.Ok at ho
    exact ho.elim
  | @ltr a c e s =>
    cases e
    refine ⟨_, rfl, _, _, _, _, rfl, rfl, s, rfl, rfl, eq_no (by decide +kernel) ?_⟩
    refine ⟨_, rfl, _, _, _, _, rfl, rfl, s, rfl, rfl, eq_no (by decide +kernel) ?_⟩
    refine ⟨_, rfl, _, _, _, _, rfl, rfl, s, rfl, rfl, eq_no (by decide +kernel) ?_⟩
    refine ⟨_, rfl, _, _, _, _, rfl, rfl, s, rfl, rfl, eq_no (by decide +kernel) ?_⟩
    exact ⟨_, rfl, q _ H (by rw [mir_ltr]; exact hv) (Same.refl H)⟩
  | @join a b xs ws e s s2 hw =>
    cases e
    unfold W.Ok at ho
    rw [W.dep] at hd
    have hl := hw.length
    refine ⟨_, rfl, _, _, _, _, rfl, rfl, s, rfl, rfl, eq_yes rfl ?_⟩
    refine ⟨_, rfl, _, _, _, _, rfl, rfl, s, rfl, b, xs, rfl, s2, fun p0 hp0 => ?_⟩
    have k0 : Same H (upd H p0 (.tup xs.reverse)) := same_new hp0
    have hwr : WVs K (upd H p0 (.tup xs.reverse)) xs.reverse ws.reverse := WVs.tp (tp_same k0) _ hw.rev
    refine ⟨p0, rfl, ⟨xs.reverse, SqT.of upd_same⟩, fun Dd hD => ?_⟩
    refine lct (xs := xs.reverse) (fun i H2 => ∃ acc, H2 Dd = some (.lst acc) ∧ WVs K H2 acc ((ws.reverse.take i).map W.mir) ∧ acc.length = i ∧ Same (upd H p0 (.tup xs.reverse)) H2) ?_ ?_ ?_ ?_
    · exact ⟨[], upd_same, wvs_nil, rfl, same_new hD⟩
    · rintro i H2 _ ⟨acc, _, _, _, k2⟩
      exact (tp_same k2).sq (SqT.of upd_same)
    · rintro i x H2 hx ⟨acc, hA, hW, hlen, k2⟩
      obtain ⟨t1, e1, h1⟩ := hwr.get hx
      have m1 : t1 ∈ ws := List.mem_reverse.mp (List.mem_of_getElem? e1)
      have d1 := W.deps_mem m1
      have hi : i < xs.reverse.length := (List.getElem?_eq_some_iff.mp hx).1
      rw [List.length_reverse] at hi
      refine ⟨_, rfl, _, t1, rfl, WV.tp (tp_same k2) _ h1, W.oks_mem m1 ho.2, by omega, fun y H4 hy k4 => ?_⟩
      have hA4 := k4 _ _ hA
      refine ⟨acc, hA4, Nat.lt_of_le_of_lt (show acc.length ≤ 1000 by omega) (by decide), acc ++ [y], upd_same, ?_, by rw [List.length_append, hlen]; rfl, ?_⟩
      · exact WVs.tp (tp_set hA4) _ (wvs_snoc e1 (WVs.tp (tp_same k4) _ hW) hy)
      · intro b' o hb
        rw [upd_ne (ne_of_none hb hD)]
        exact k4 _ _ (k2 _ _ hb)
    · rintro H2 ⟨acc, hA, hW, hlen, k2⟩
      refine ⟨Dd, acc, rfl, .inl ⟨SqL.of hA, fun p hp => ?_⟩⟩
      refine ⟨(by show 2 ≤ sizeLine; decide), fun p2 hp2 => ?_⟩
      rw [List.length_reverse, hl, ← List.length_reverse, List.take_length] at hW
      have t1 : Tp H2 (upd H2 p (.tup acc)) := tp_new hp
      have t2 := tp_new (o := .tup [.str "join", .ref p]) hp2
      exact q _ _ (by rw [mir_join]; exact wv_join (SqT.of upd_same) (t2.sq (SqT.of upd_same)) (WVs.tp (t1.trans t2) _ hW)) (k0.trans (k2.trans ((same_new hp).trans (same_new hp2))))
  | @times a x t n' e s hx =>
    cases e
    unfold W.Ok at ho
    rw [W.dep] at hd
    refine ⟨_, rfl, _, _, _, _, rfl, rfl, s, rfl, rfl, eq_no (by decide +kernel) ?_⟩
    refine ⟨_, rfl, _, _, _, _, rfl, rfl, s, rfl, rfl, eq_yes rfl ?_⟩
    refine ⟨_, rfl, _, _, _, _, rfl, rfl, s, rfl, _, t, rfl, hx, ho.2.2, by omega, fun y H4 hy k4 => ?_⟩
    refine ⟨_, rfl, _, _, _, _, rfl, rfl, (tp_same k4).sq s, rfl, (by show 3 ≤ sizeLine; decide), fun p hp => ?_⟩
    exact q _ _ (by rw [mir_times]; exact wv_times (SqT.of upd_same) (WV.tp (tp_new hp) _ hy)) (k4.trans (same_new hp))
  | @right a x t e s hx =>
    cases e
    unfold W.Ok at ho
    rw [W.dep] at hd
    refine ⟨_, rfl, _, _, _, _, rfl, rfl, s, rfl, rfl, eq_no (by decide +kernel) ?_⟩
    refine ⟨_, rfl, _, _, _, _, rfl, rfl, s, rfl, rfl, eq_no (by decide +kernel) ?_⟩
    refine ⟨_, rfl, _, _, _, _, rfl, rfl, s, rfl, rfl, eq_yes rfl ?_⟩
    intro pd hpd
    refine ⟨upd_same, [(Sum.inr "right", .str "left"), (Sum.inr "left", .str "right")], rfl, by decide, ?_⟩
    rw [upd_upd]
    have k1 : Same H (upd H pd (.dK (mergeK [] [(Sum.inr "right", .str "left"), (Sum.inr "left", .str "right")]))) := same_new hpd
    have hg : valV (mergeK [] [((Sum.inr "right" : Key), V.str "left"), (Sum.inr "left", .str "right")]) (Sum.inr "right") = some (.str "left") := by decide +kernel
    refine ⟨_, rfl, _, _, _, _, rfl, rfl, (tp_same k1).sq s, rfl, pd, .str "left", rfl, ?_, ?_⟩
    · have := DGet.k (k := Sum.inr "right") (upd_same (H := H) (a := pd) (o := .dK (mergeK [] [(Sum.inr "right", .str "left"), (Sum.inr "left", .str "right")])))
      rw [hg] at this
      exact this
    refine ⟨_, rfl, _, _, _, _, rfl, rfl, (tp_same k1).sq s, rfl, _, t, rfl, WV.tp (tp_same k1) _ hx, ho, by omega, fun y H4 hy k4 => ?_⟩
    refine ⟨(by show 2 ≤ sizeLine; decide), fun p hp => ?_⟩
    exact q _ _ (by rw [mir_right]; exact wv_left (SqT.of upd_same) (WV.tp (tp_new hp) _ hy)) (k1.trans (k4.trans (same_new hp)))
  | @left a x t e s hx =>
    cases e
    unfold W.Ok at ho
    rw [W.dep] at hd
    refine ⟨_, rfl, _, _, _, _, rfl, rfl, s, rfl, rfl, eq_no (by decide +kernel) ?_⟩
    refine ⟨_, rfl, _, _, _, _, rfl, rfl, s, rfl, rfl, eq_no (by decide +kernel) ?_⟩
    refine ⟨_, rfl, _, _, _, _, rfl, rfl, s, rfl, rfl, eq_no (by decide +kernel) ?_⟩
    refine ⟨_, rfl, _, _, _, _, rfl, rfl, s, rfl, rfl, eq_yes rfl ?_⟩
    intro pd hpd
    refine ⟨upd_same, [(Sum.inr "right", .str "left"), (Sum.inr "left", .str "right")], rfl, by decide, ?_⟩
    rw [upd_upd]
    have k1 : Same H (upd H pd (.dK (mergeK [] [(Sum.inr "right", .str "left"), (Sum.inr "left", .str "right")]))) := same_new hpd
    have hg : valV (mergeK [] [((Sum.inr "right" : Key), V.str "left"), (Sum.inr "left", .str "right")]) (Sum.inr "left") = some (.str "right") := by decide +kernel
    refine ⟨_, rfl, _, _, _, _, rfl, rfl, (tp_same k1).sq s, rfl, pd, .str "right", rfl, ?_, ?_⟩
    · have := DGet.k (k := Sum.inr "left") (upd_same (H := H) (a := pd) (o := .dK (mergeK [] [(Sum.inr "right", .str "left"), (Sum.inr "left", .str "right")])))
      rw [hg] at this
      exact this
    refine ⟨_, rfl, _, _, _, _, rfl, rfl, (tp_same k1).sq s, rfl, _, t, rfl, WV.tp (tp_same k1) _ hx, ho, by omega, fun y H4 hy k4 => ?_⟩
    refine ⟨(by show 2 ≤ sizeLine; decide), fun p hp => ?_⟩
    exact q _ _ (by rw [mir_left]; exact wv_right (SqT.of upd_same) (WV.tp (tp_new hp) _ hy)) (k1.trans (k4.trans (same_new hp)))
theorem ok_turned (D : Df K mg "_law_turned" s__law_turned ["_law_tree_here"]) (bi : Bi mg) : ∀ n : Nat, Cal P w K mg base n "_law_turned" ["_law_tree_here"] (spMir K n)
  | 0 => D.no fun vs H Q E h => by
    obtain ⟨v, t, _, _, _, h, _⟩ := h
    have := t.dep_pos
    omega
  | n + 1 => ok_turned1 D bi (ok_turned D bi n)
/-! ### _law_spot -/
/-- a drawn address, or none where there is no place -/
def spSpot (K : PySem.W.Frag) (n : Nat) : Sp := fun vs H Q _ => ∃ r l v t, vs = [.ref r, v] ∧ WV K H v t ∧ t.Ok abc ∧ t.dep ≤ n ∧ n ≤ 12 ∧ Rng H r l ∧
  (t.cnt abcABC = some 0 → t.isL = false → ∀ H', Rng H' r l → Kp r H H' → Q .non H') ∧ (∀ ns p H', Vd t ns → ns.length ≤ t.dep → SqT K H' p (ns.map V.int) → Rng H' r l → Kp r H H' → Q (.ref p) H')
theorem sc__law_spot : FnScope ["_law_rng", "_law_tree_here", "_law_full", "_law_at", "_law_most", "_law_number"] ["_law_rng", "_law_tree_here"] (defScope s__law_spot) := ⟨rfl, rfl, rfl, by decide +kernel, rfl, by decide +kernel, by decide +kernel⟩
theorem ok_spot1 {n : Nat} (D : Df K mg "_law_spot" s__law_spot ["_law_rng", "_law_tree_here"]) (bi : Bi mg) (c_law_draw : Cal P w K mg base 1 "_law_draw" ["_law_rng", "_law_many"] spDrawW) (c_law_pick : Cal P w K mg base 2 "_law_pick" ["_law_rng", "_law_things"] spPick)
    (c_law_places : Cal P w K mg base 14 "_law_places" ["_law_tree_here"] (spPlaces K)) (c_law_spot : Cal P w K mg base (n + 14) "_law_spot" ["_law_rng", "_law_tree_here"] (spSpot K n)) : Cal P w K mg base (n + 15) "_law_spot" ["_law_rng", "_law_tree_here"] (spSpot K (n + 1)) := by
  refine D.ok sc__law_spot (fun vs H Q E h => ?_) (fun f cdv A outer s H vs Q E hr h => ?_)
  · obtain ⟨r, l, v, t, rfl, _⟩ := h
    rfl
  obtain ⟨r, l, v, t, rfl, hv, ho, hd, hn, g, q0, q⟩ := h
  refine ⟨_, (C8.pss_cut (ps_if (pt_cmpR op_eq (pe_ix ix_tup (pv 1) pe_int (fun _ _ => rfl)) pe_str (nomark _)) (pss_one (ps_ret (pe_tup pa_nil))) pss_nil)
      (C8.pss_cut (ps_if (pt_cmpR op_eq (pe_own c_law_places hr (by omega) (by rfl) (pa_cons (pv 1) pa_nil)) pe_int (nomark _)) (pss_one (ps_ret pe_non)) pss_nil)
      (C8.pss_cut (ps_if (pt_cmpR op_eq (pe_ix ix_tup (pv 1) pe_int (fun _ _ => rfl)) pe_str (nomark _)) (pss_cons (ps_setLc (i := 2) (own := [("_law_at", 3)]) (g := gName 3) (tt := tTest (tOp rNe (tCall (spPlaces K) [] E0 (tCons (tOp (rIxT K) (tOp (rIxT K) (tVar 1) (tC (.int 1))) (tVar 3)) tNil)) (tC (.int 0)))) rfl sc__law_spot.nd rfl rfl (sw_true rfl rfl rfl (by decide +kernel)) (pi_range1 (by rfl) bi.range (pa_cons (pe_callB call_len_seq (by rfl) bi.len PySem.boot_len (pa_cons (pe_ix ix_tup (pv 1) pe_int (fun _ _ => rfl)) pa_nil)) pa_nil)) (blkOk_by (N := ["_law_rng", "_law_tree_here", "_law_full", "_law_at", "_law_most", "_law_number"]) (sc := defScope s__law_spot) (by decide +kernel)) (fun _ _ _ _ _ => (pg_name (i := 3) sc__law_spot.nd rfl (.inl rfl))) (fun _ _ _ _ _ => (pts_one (pt_cmpR op_ne (pe_own c_law_places hr (by omega) (by rfl) (pa_cons (pe_ix ix_tup (pe_ix ix_tup (pv 1) pe_int (fun _ _ => rfl)) (pv 3) (fun _ _ => rfl)) pa_nil)) pe_int (nomark _)))) (fun _ _ _ _ _ => (pv 3)))
      (pss_cons (ps_set (i := 3) sc__law_spot.nd rfl (.inl rfl) (pe_own c_law_pick hr (by omega) (by rfl) (pa_cons (pv 0) (pa_cons (pv 2) pa_nil))))
      (pss_one (ps_ret (pe_op op_catT (pe_tup (pa_cons (pv 3) pa_nil)) (pe_own c_law_spot hr (by omega) (by rfl) (pa_cons (pv 0) (pa_cons (pe_ix ix_tup (pe_ix ix_tup (pv 1) pe_int (fun _ _ => rfl)) (pv 3) (fun _ _ => rfl)) pa_nil)))))))) pss_nil)
      (C8.pss_cut (ps_set (i := 4) sc__law_spot.nd rfl (.inl rfl) (pe_ifExp (pt_cmpR op_eq (pe_ix ix_tup (pv 1) pe_int (fun _ _ => rfl)) pe_str (nomark _)) (pe_ix ix_tup (pv 1) pe_int (fun _ _ => rfl)) (pe_op op_add (pe_op op_pow pe_int pe_int) pe_int)))
      (pss_cons (ps_set (i := 5) sc__law_spot.nd rfl (.inl rfl) (pe_own c_law_pick hr (by omega) (by rfl) (pa_cons (pv 0) (pa_cons (pe_lst (pa_cons pe_int (pa_cons (pe_op op_sub (pv 4) pe_int) (pa_cons (pe_own c_law_draw hr (by omega) (by rfl) (pa_cons (pv 0) (pa_cons (pe_callB (call_min2 rfl) (by rfl) bi.min (by decide +kernel) (pa_cons (pv 4) (pa_cons pe_int pa_nil))) pa_nil))) (pa_cons (pe_own c_law_draw hr (by omega) (by rfl) (pa_cons (pv 0) (pa_cons (pv 4) pa_nil))) pa_nil))))) pa_nil))))
      (pss_one (ps_ret (pe_op op_catT (pe_tup (pa_cons (pv 5) pa_nil)) (pe_own c_law_spot hr (by omega) (by rfl) (pa_cons (pv 0) (pa_cons (pe_ix ix_tup (pv 1) pe_int (fun _ _ => rfl)) pa_nil))))))))))), ?_⟩
  have oA := W.Ok.mono abc_sub _ ho
  -- a letter
  refine ⟨fun σ' H' => σ' = [some (.ref r), some v, none, none, none, none] ∧ H' = H ∧ t.isL = false, ?_, ?_⟩
  · have at_ := hv.at
    cases at_ with
    | nam e s =>
      unfold W.Ok at ho
      exact ho.elim
    | @ltr a c e s =>
      cases e
      refine ⟨_, rfl, _, _, _, _, rfl, rfl, s, rfl, rfl, eq_yes rfl ?_⟩
      refine ⟨Nat.zero_le _, fun p hp => ?_⟩
      exact q [] p _ vd_nil (Nat.zero_le _) (SqT.of upd_same) (g.new hp) (Kp.new hp)
    | emp e s =>
      cases e
      exact ⟨_, rfl, _, _, _, _, rfl, rfl, s, rfl, rfl, eq_no (by decide +kernel) ⟨rfl, rfl, rfl⟩⟩
    | join e s s2 hw =>
      cases e
      exact ⟨_, rfl, _, _, _, _, rfl, rfl, s, rfl, rfl, eq_no (by decide +kernel) ⟨rfl, rfl, rfl⟩⟩
    | times e s hx =>
      cases e
      exact ⟨_, rfl, _, _, _, _, rfl, rfl, s, rfl, rfl, eq_no (by decide +kernel) ⟨rfl, rfl, rfl⟩⟩
    | right e s hx =>
      cases e
      exact ⟨_, rfl, _, _, _, _, rfl, rfl, s, rfl, rfl, eq_no (by decide +kernel) ⟨rfl, rfl, rfl⟩⟩
    | left e s hx =>
      cases e
      exact ⟨_, rfl, _, _, _, _, rfl, rfl, s, rfl, rfl, eq_no (by decide +kernel) ⟨rfl, rfl, rfl⟩⟩
  rintro σ' H' ⟨rfl, rfl, hL⟩
  -- no place
  refine ⟨fun σ' H1 => σ' = [some (.ref r), some v, none, none, none, none] ∧ Same H' H1 ∧ t.cnt abcABC ≠ some 0, ?_, ?_⟩
  · refine ⟨_, rfl, _, _, rfl, hv, oA, by omega, fun H1 k1 => ?_⟩
    refine ⟨rfl, eq0 (fun hz => ?_) (fun hz => ⟨rfl, k1, hz⟩)⟩
    exact q0 hz hL H1 (g.of (fun o h => k1 _ _ h) (fun o h => k1 _ _ h)) (fun b o _ h => k1 _ _ h)
  rintro σ' H1 ⟨rfl, k1, hz⟩
  have g1 : Rng H1 r l := g.of (fun o h => k1 _ _ h) (fun o h => k1 _ _ h)
  have K1 : Kp r H' H1 := fun b o _ h => k1 _ _ h
  have hv1 := WV.tp (tp_same k1) _ hv
  obtain ⟨zz, hzz⟩ := g1.lst
  -- a join
  refine ⟨fun σ' H2 => ∃ y2 y3, σ' = [some (.ref r), some v, y2, y3, none, none] ∧ H2 = H1 ∧ ∀ ws, t ≠ .join ws, ?_, ?_⟩
  · have at_ := hv1.at
    cases at_ with
    | nam e s =>
      unfold W.Ok at ho
      exact ho.elim
    | ltr e s => cases hL
    | emp e s => exact absurd cnt_emp hz
    | times e s hx =>
      cases e
      exact ⟨_, rfl, _, _, _, _, rfl, rfl, s, rfl, rfl, eq_no (by decide +kernel) ⟨_, _, rfl, rfl, fun ws h => by cases h⟩⟩
    | right e s hx =>
      cases e
      exact ⟨_, rfl, _, _, _, _, rfl, rfl, s, rfl, rfl, eq_no (by decide +kernel) ⟨_, _, rfl, rfl, fun ws h => by cases h⟩⟩
    | left e s hx =>
      cases e
      exact ⟨_, rfl, _, _, _, _, rfl, rfl, s, rfl, rfl, eq_no (by decide +kernel) ⟨_, _, rfl, rfl, fun ws h => by cases h⟩⟩
    | @join a b xs ws e s s2 hw =>
      cases e
      have hl := hw.length
      have ho' := ho
      unfold W.Ok at ho'
      refine ⟨_, rfl, _, _, _, _, rfl, rfl, s, rfl, rfl, eq_yes rfl ?_⟩
      refine ⟨_, rfl, _, _, _, _, rfl, rfl, s, rfl, b, xs, rfl, .inr s2, _, rfl, ?_, ?_, fun Dd hD => ?_⟩
      · omega
      · omega
      refine lcrT (lo := 0) (n := xs.length) (fun i H2 => ∃ acc : List Nat, H2 Dd = some (.lst (acc.map fun k : Nat => V.int (k : Int))) ∧ acc.length ≤ i ∧ (∀ k ∈ acc, ∃ x, ws[k]? = some x ∧ x.cnt abcABC ≠ some 0) ∧ (∀ k x, k < i → ws[k]? = some x → x.cnt abcABC ≠ some 0 → k ∈ acc) ∧ Same H1 H2) ?_ ?_ ?_
      · exact ⟨[], upd_same, Nat.le_refl _, fun k h => (List.not_mem_nil h).elim, fun k x h => by omega, same_new hD⟩
      · rintro i H2 hi ⟨acc, hA, hal, h1, h2, k2⟩
        have hgx : xs[i]? = some xs[i] := List.getElem?_eq_getElem hi
        obtain ⟨x, ex, hx⟩ := hw.get hgx
        have mx := List.mem_of_getElem? ex
        have dx := W.deps_mem mx
        rw [W.dep] at hd
        have t2 := tp_same k2
        refine ⟨_, rfl, _, _, _, _, rfl, rfl, t2.sq s, rfl, _, rfl, _, _, _, _, rfl, rfl, t2.sq s2, at_of (j := i) (by omega) hgx, _, x, rfl, WV.tp t2 _ hx, W.Ok.mono abc_sub _ (W.oks_mem mx ho'.2), by omega, fun H4 k4 => ⟨rfl, ?_⟩⟩
        have hA4 := k4 _ _ hA
        refine ne0 (fun hc => ?_) (fun hc => ?_)
        · refine ⟨_, rfl, _, hA4, ?_, acc ++ [i], ?_, ?_, ?_, ?_, ?_⟩
          · rw [List.length_map]
            exact Nat.lt_of_le_of_lt (show acc.length ≤ 1000 by omega) (by decide)
          · rw [upd_same, List.map_append]
            show some (HO.lst (_ ++ [V.int ((0 : Int) + (i : Int))])) = _
            rw [Int.zero_add]
            rfl
          · rw [List.length_append]
            show acc.length + 1 ≤ i + 1
            omega
          · intro k hk
            rcases List.mem_append.mp hk with hk | hk
            · exact h1 k hk
            · cases List.mem_singleton.mp hk
              exact ⟨x, ex, hc⟩
          · intro k y hk ey hy
            by_cases e : k = i
            · rw [e]
              exact List.mem_append_right _ (List.mem_singleton.mpr rfl)
            · exact List.mem_append_left _ (h2 k y (by omega) ey hy)
          · intro b' o hb
            rw [upd_ne (ne_of_none hb hD)]
            exact k4 _ _ (k2 _ _ hb)
        · refine ⟨acc, hA4, by omega, h1, fun k y hk ey hy => ?_, k2.trans k4⟩
          by_cases e : k = i
          · rw [e, ex] at ey
            cases ey
            exact absurd hc hy
          · exact h2 k y (by omega) ey hy
      · rintro H2 ⟨acc, hA, hal, h1, h2, k2⟩
        have hne : acc ≠ [] := fun e => by
          refine hz ?_
          rw [cnt_join]
          refine W.cnts_zero_of fun x hx => Classical.byContradiction fun hc => ?_
          obtain ⟨k, hk⟩ := List.mem_iff_getElem?.mp hx
          have hk2 := (List.getElem?_eq_some_iff.mp hk).1
          have := h2 k x (by omega) hk hc
          rw [e] at this
          exact (List.not_mem_nil this).elim
        have g2 : Rng H2 r l := g1.of (fun o h => k2 _ _ h) (fun o h => k2 _ _ h)
        have hpos : 0 < acc.length := List.length_pos_iff.mpr hne
        have Dr : Dd ≠ r := (ne_of_none hzz hD).symm
        refine ⟨_, rfl, _, rfl, r, l, Dd, _, rfl, g2, hA, Dr, by rw [List.length_map]; exact hpos, by rw [List.length_map]; omega, fun j y H3 ej g3 k3 => ?_⟩
        rw [List.getElem?_map] at ej
        obtain ⟨k, ek, rfl⟩ := Option.map_eq_some_iff.mp ej
        obtain ⟨x, ex, hc⟩ := h1 k (List.mem_of_getElem? ek)
        have mx := List.mem_of_getElem? ex
        have dx := W.deps_mem mx
        have hk2 := (List.getElem?_eq_some_iff.mp ex).1
        have hgx : xs[k]? = some xs[k] := List.getElem?_eq_getElem (by omega)
        obtain ⟨x', ex', hx⟩ := hw.get hgx
        rw [ex] at ex'
        cases ex'
        obtain ⟨z2, hz2⟩ := g2.lst
        have t3 : Tp H1 H3 := (tp_same k2).trans (k3.tp hz2)
        refine ⟨_, rfl, (by show 1 ≤ sizeLine; decide), fun p hp => ?_⟩
        have t4 : Tp H1 (upd H3 p (.tup [.int (k : Int)])) := t3.trans (tp_new hp)
        refine ⟨_, rfl, _, rfl, _, _, _, _, rfl, rfl, t4.sq s, rfl, _, rfl, _, _, _, _, rfl, rfl, t4.sq s2, at_of (j := k) (by omega) hgx, ?_⟩
        rw [W.dep] at hd
        refine ⟨r, l, _, x, rfl, WV.tp t4 _ hx, W.oks_mem mx ho'.2, by omega, by omega, g3.new hp, fun h => absurd h hc, fun ns p5 H5 hvd hln hs5 g5 k5 => ?_⟩
        obtain ⟨z3, hz3⟩ := (g3.new (o := .tup [.int (k : Int)]) hp).lst
        refine cat_one ((k5.tp hz3).sq (SqT.of upd_same)) hs5 (by omega) (fun p6 H6 hs6 k6 => ?_)
        refine q _ p6 H6 (vd_cons (stp_join ex) hvd) (by rw [W.dep, List.length_cons]; omega) hs6 (g5.of (fun o h => k6 _ _ h) (fun o h => k6 _ _ h)) ?_
        exact K1.trans (Kp.trans (fun b o _ h => k2 _ _ h) (k3.trans ((Kp.new hp).trans (k5.trans (fun b o _ h => k6 _ _ h)))))
  rintro σ' H2 ⟨y2, y3, rfl, rfl, hj⟩
  -- the number of copies
  refine ⟨fun σ' H3 => ∃ m, σ' = [some (.ref r), some v, y2, y3, some (.int m), none] ∧ H3 = H2 ∧ m = t.tot ∧ 0 < m ∧ m ≤ 1000000000000000000000000000001, ?_, ?_⟩
  · have at_ := hv1.at
    cases at_ with
    | nam e s =>
      unfold W.Ok at ho
      exact ho.elim
    | ltr e s => cases hL
    | emp e s => exact absurd cnt_emp hz
    | join e s s2 hw => exact absurd rfl (hj _)
    | @times a x t n' e s hx =>
      cases e
      unfold W.Ok at ho
      refine ⟨_, rfl, _, _, _, _, rfl, rfl, s, rfl, rfl, eq_yes rfl ?_⟩
      refine ⟨_, rfl, _, _, _, _, rfl, rfl, s, rfl, n', rfl, rfl, rfl, ?_, by omega⟩
      refine Int.lt_of_not_ge fun h => ?_
      rw [cnt_times, if_neg (by omega)] at hz
      exact hz rfl
    | right e s hx =>
      cases e
      refine ⟨_, rfl, _, _, _, _, rfl, rfl, s, rfl, rfl, eq_no (by decide +kernel) ?_⟩
      exact ⟨_, _, rfl, rfl, ⟨by decide, by decide, by decide⟩, _, _, rfl, rfl, _, rfl, rfl, rfl, by decide, by decide⟩
    | left e s hx =>
      cases e
      refine ⟨_, rfl, _, _, _, _, rfl, rfl, s, rfl, rfl, eq_no (by decide +kernel) ?_⟩
      exact ⟨_, _, rfl, rfl, ⟨by decide, by decide, by decide⟩, _, _, rfl, rfl, _, rfl, rfl, rfl, by decide, by decide⟩
  rintro σ' H3 ⟨m, rfl, rfl, hm, hm0, hmB⟩
  -- its inside
  obtain ⟨x, u, k, zs, a, ev, s, hx, ou, du, cu, hstp⟩ : ∃ x u k zs a, v = .ref a ∧ SqT K H3 a (.str k :: x :: zs) ∧ WV K H3 x u ∧ u.Ok abc ∧ u.dep + 1 ≤ t.dep ∧ u.cnt abcABC ≠ some 0 ∧ ∀ i : Int, 0 ≤ i → i < m → t.stp i = some u := by
    have at_ := hv1.at
    cases at_ with
    | nam e s =>
      unfold W.Ok at ho
      exact ho.elim
    | ltr e s => cases hL
    | emp e s => exact absurd cnt_emp hz
    | join e s s2 hw => exact absurd rfl (hj _)
    | @times a x u n' e s hx =>
      unfold W.Ok at ho
      refine ⟨x, u, _, [.int n'], a, e, s, hx, ho.2.2, Nat.le_refl _, fun h => ?_, fun i h1 h2 => stp_times h1 (by rw [hm] at h2; exact h2)⟩
      rw [cnt_times, h] at hz
      split at hz
      · exact hz (by show some ((0 : Int) * n') = some 0; rw [Int.zero_mul])
      · exact hz rfl
    | @right a x u e s hx =>
      unfold W.Ok at ho
      refine ⟨x, u, _, [], a, e, s, hx, ho, Nat.le_refl _, fun h => ?_, fun i h1 h2 => stp_right h1 (by rw [hm] at h2; have h3 : i < 1000000000000000000000000000000 + 1 := h2; show i ≤ 1000000000000000000000000000000; omega)⟩
      rw [cnt_right, if_pos h] at hz
      exact hz rfl
    | @left a x u e s hx =>
      unfold W.Ok at ho
      refine ⟨x, u, _, [], a, e, s, hx, ho, Nat.le_refl _, fun h => ?_, fun i h1 h2 => stp_left h1 (by rw [hm] at h2; have h3 : i < 1000000000000000000000000000000 + 1 := h2; show i ≤ 1000000000000000000000000000000; omega)⟩
      rw [cnt_left, if_pos h] at hz
      exact hz rfl
  subst ev
  refine ⟨_, rfl, _, rfl, _, _, rfl, rfl, _, rfl, _, rfl, m, 6, rfl, ?_⟩
  have hmin : 0 < (if (6 : Int) < m then 6 else m) ∧ (if (6 : Int) < m then 6 else m) ≤ m := by
    split
    · constructor <;> omega
    · constructor <;> omega
  refine ⟨r, l, _, rfl, hmin.1, log_big (by omega) (by omega), g1, fun v1 H4 a1 b1 g4 k4 => ?_⟩
  refine ⟨_, rfl, _, rfl, r, l, _, rfl, hm0, log_big (by omega) (by omega), g4, fun v2 H5 a2 b2 g5 k5 => ?_⟩
  refine ⟨(by show 4 ≤ sizeLine; decide), fun p hp => ?_⟩
  obtain ⟨z5, hz5⟩ := g5.lst
  refine ⟨r, l, p, _, rfl, g5.new hp, upd_same, (ne_of_none hz5 hp).symm, (by show 0 < 4; decide), (by show 4 ≤ 1000; decide), fun j y H6 ej g6 k6 => ?_⟩
  obtain ⟨i, rfl, hi0, him⟩ : ∃ i, y = V.int i ∧ 0 ≤ i ∧ i < m := by
    match j, ej with
    | 0, e => cases e; exact ⟨_, rfl, by decide, hm0⟩
    | 1, e => cases e; exact ⟨_, rfl, by omega, by omega⟩
    | 2, e => cases e; exact ⟨_, rfl, a1, by omega⟩
    | 3, e => cases e; exact ⟨_, rfl, a2, b2⟩
  have kk : Kp r H3 H6 := k4.trans (k5.trans ((Kp.new hp).trans k6))
  have t6 : Tp H3 H6 := kk.tp hzz
  refine ⟨_, rfl, (by show 1 ≤ sizeLine; decide), fun p2 hp2 => ?_⟩
  have t7 : Tp H3 (upd H6 p2 (.tup [.int i])) := t6.trans (tp_new hp2)
  refine ⟨_, rfl, _, rfl, _, _, _, _, rfl, rfl, t7.sq s, at_of (j := 1) (by omega) rfl, ?_⟩
  refine ⟨r, l, _, u, rfl, WV.tp t7 _ hx, ou, by omega, by omega, g6.new hp2, fun h => absurd h cu, fun ns p5 H8 hvd hln hs5 g8 k8 => ?_⟩
  obtain ⟨z7, hz7⟩ := (g6.new (o := .tup [.int i]) hp2).lst
  refine cat_one ((k8.tp hz7).sq (SqT.of upd_same)) hs5 (by omega) (fun p9 H9 hs9 k9 => ?_)
  refine q _ p9 H9 (vd_cons (hstp i hi0 him) hvd) (by rw [List.length_cons]; omega) hs9 (g8.of (fun o h => k9 _ _ h) (fun o h => k9 _ _ h)) ?_
  exact K1.trans (kk.trans ((Kp.new hp2).trans (k8.trans (fun b o _ h => k9 _ _ h))))
theorem ok_spot (D : Df K mg "_law_spot" s__law_spot ["_law_rng", "_law_tree_here"]) (bi : Bi mg) (c_law_draw : Cal P w K mg base 1 "_law_draw" ["_law_rng", "_law_many"] spDrawW) (c_law_pick : Cal P w K mg base 2 "_law_pick" ["_law_rng", "_law_things"] spPick)
    (c_law_places : Cal P w K mg base 14 "_law_places" ["_law_tree_here"] (spPlaces K)) : ∀ n : Nat, Cal P w K mg base (n + 14) "_law_spot" ["_law_rng", "_law_tree_here"] (spSpot K n)
  | 0 => D.no fun vs H Q E h => by
    obtain ⟨r, l, v, t, _, _, _, h, _⟩ := h
    have := t.dep_pos
    omega
  | n + 1 => ok_spot1 D bi c_law_draw c_law_pick c_law_places (ok_spot D bi c_law_draw c_law_pick c_law_places n)
/-! ### joined, repeated -/
def spJoin1 (K : PySem.W.Frag) : Sp := fun vs H Q _ => ∃ p xs ws, vs = [.ref p] ∧ SqT K H p xs ∧ WVs K H xs ws ∧ (∀ t ∈ ws, t.Ok abcABC ∧ t.dep ≤ 12) ∧ ws.length ≤ 1000 ∧ ∀ v H', WV K H' v (joinW (W.kept ws)) → Same H H' → Q v H'
def spJoin (K : PySem.W.Frag) : Sp := fun vs H Q _ => ∃ ws, WVs K H vs ws ∧ (∀ t ∈ ws, t.Ok abcABC ∧ t.dep ≤ 12) ∧ ws.length ≤ 1000 ∧ ∀ v H', WV K H' v (joinW (W.kept ws)) → Same H H' → Q v H'
theorem sc_joined : FnScope ["words", "parts", "word"] ["words"] (defScope s_joined) := ⟨rfl, rfl, rfl, by decide +kernel, rfl, by decide +kernel, by decide +kernel⟩
theorem ok_joined {ae : Addr} (D : DfS K mg "joined" s_joined) (bi : Bi mg) (mEMPTY : mg "EMPTY" = some (.ref ae)) (hE : ∀ H, SqT K H ae [.str "empty"]) : CalR P w K mg base 1 "joined" (spJoin K) := by
  obtain ⟨f0, F0, m0, k0⟩ := (D.ok (P := P) (w := w) (base := base) (k := 0) (sp := spJoin1 K) sc_joined (fun _ _ _ _ _ _ rest => by match rest with | [] => rfl | _ :: _ => rfl) (fun f cdv A outer s H vs Q E hr h => by
    obtain ⟨p, xs, ws, rfl, hp, hW, hok, hl5, q⟩ := h
    refine ⟨_, (pss_cons (ps_set (i := 1) sc_joined.nd rfl (.inl rfl) (pe_callTy call_tuple_of (by rfl) bi.tuple (by decide +kernel) (pa_cons (pe_lc (own := [("word", 2)]) (g := gName 2) (tt := tTest (tOp (rNeD K) (tVar 2) (tC (.ref ae)))) rfl sc_joined.nd (pi_tup (pv 0)) (blkOk_by (N := ["words", "parts", "word"]) (sc := defScope s_joined) (by decide +kernel)) (fun _ _ _ _ _ => (pg_name (i := 2) sc_joined.nd rfl (.inl rfl))) (fun _ _ _ _ _ => (pts_one (pt_cmpR (op_neD hr.units) (pv 2) (pe_glob (v := .ref ae) (by rfl) mEMPTY rfl) (nomark _)))) (fun _ _ _ _ _ => (pv 2))) pa_nil)))
      (pss_cons (ps_if (pt_not (pt_truth (pv 1) (by intro _; rfl))) (pss_one (ps_ret (pe_glob (v := .ref ae) (by rfl) mEMPTY rfl))) pss_nil)
      (pss_cons (ps_if (pt_cmpR op_eq (pe_callB call_len_seq (by rfl) bi.len PySem.boot_len (pa_cons (pv 1) pa_nil)) pe_int (nomark _)) (pss_one (ps_ret (pe_ix ix_tup (pv 1) pe_int (fun _ _ => rfl)))) pss_nil)
      (pss_one (ps_ret (pe_tup (pa_cons pe_str (pa_cons (pv 1) pa_nil)))))))), ?_⟩
    have hlen := hW.length
    refine ⟨_, rfl, p, rfl, ⟨xs, hp⟩, fun Dd hD => ?_⟩
    refine lcwT (walk_tup (xs := xs)) (fun i H2 => ∃ acc, H2 Dd = some (.lst acc) ∧ WVs K H2 acc (W.kept (ws.take i)) ∧ Same H H2) ?_ ?_ ?_ ?_
    · exact ⟨[], upd_same, wvs_nil, same_new hD⟩
    · rintro i H2 _ ⟨acc, _, _, k2⟩
      exact (tp_same k2).sq hp
    · rintro i x H2 hi hx ⟨acc, hA, hWA, k2⟩
      obtain ⟨t, et, ht⟩ := hW.get hx
      have mt := List.mem_of_getElem? et
      have ht2 := WV.tp (tp_same k2) _ ht
      refine ⟨_, rfl, t.dat, W.dat .emp, ht2, wv_emp (hE H2), W.shaped abc_ok (hok t mt).1 (by have := (hok t mt).2; omega), emp_shaped, ?_⟩
      rw [eqv_emp]
      refine ⟨!t.isE, rfl, ?_⟩
      have hal := hWA.length
      have hb := kept_len (ws.take i)
      rw [List.length_take] at hb
      have ek := kept_snoc et
      cases hz : t.isE with
      | true =>
        rw [hz] at ek
        show ∃ acc, H2 Dd = some (.lst acc) ∧ WVs K H2 acc (W.kept (ws.take (i + 1))) ∧ Same H H2
        rw [ek, if_neg (by decide)]
        exact ⟨acc, hA, hWA, k2⟩
      | false =>
        rw [hz] at ek
        refine ⟨_, rfl, acc, hA, Nat.lt_of_le_of_lt (show acc.length ≤ 1000 by omega) (by decide), acc ++ [x], upd_same, ?_, fun b o hb' => by rw [upd_ne (ne_of_none hb' hD)]; exact k2 _ _ hb'⟩
        rw [ek, if_pos (by decide)]
        exact WVs.tp (tp_set hA) _ (WVs.app ht2 hWA)
    · rintro H2 ⟨acc, hA, hWA, k2⟩
      rw [hlen, List.take_length] at hWA
      have hal := hWA.length
      refine ⟨Dd, acc, rfl, .inl ⟨SqL.of hA, fun pt hpt => ?_⟩⟩
      have k3 : Same H (upd H2 pt (.tup acc)) := k2.trans (same_new hpt)
      have hWA3 := WVs.tp (tp_new (o := .tup acc) hpt) _ hWA
      refine ⟨_, rfl, !acc.isEmpty, .inr (.inl ⟨acc, SqT.of upd_same, rfl⟩), ?_⟩
      generalize hkw : W.kept ws = kw at *
      match acc, kw, hal with
      | [], [], _ => exact q _ _ (wv_emp (hE _)) k3
      | [x], [t], _ =>
        refine ⟨_, rfl, pt, _, rfl, .inr (SqT.of upd_same), rfl, _, rfl, ite2 (fun _ => ?_) (fun h => absurd (decide_eq_true rfl) h)⟩
        refine ⟨_, rfl, pt, _, _, _, rfl, rfl, SqT.of upd_same, rfl, ?_⟩
        obtain ⟨t', e', h'⟩ := hWA3.get (i := 0) (x := x) rfl
        cases e'
        exact q _ _ h' k3
      | x :: y :: r, t :: u :: r2, hal =>
        refine ⟨_, rfl, pt, _, rfl, .inr (SqT.of upd_same), rfl, _, rfl, ite2 (fun h => ?_) (fun _ => ?_)⟩
        · have h' : (((x :: y :: r).length : Nat) : Int) = 1 := V.int.inj (of_decide_eq_true h)
          rw [List.length_cons, List.length_cons] at h'
          omega
        · refine ⟨_, rfl, (by show 2 ≤ sizeLine; decide), fun p2 hp2 => ?_⟩
          exact q _ _ (wv_join (SqT.of upd_same) ((tp_new hp2).sq (SqT.of upd_same)) (WVs.tp (tp_new hp2) _ hWA3)) (k3.trans (same_new hp2)))).ex
  refine ⟨f0, FnR.imp F0 (fun vs H Q E h => ?_), m0, k0⟩
  obtain ⟨ws, hW, hok, hl, q⟩ := h
  have hlen := hW.length
  refine ⟨Nat.le_trans (show vs.length ≤ 1000 by omega) (by decide), fun p hp => ⟨p, vs, ws, rfl, SqT.of upd_same, WVs.tp (tp_new hp) _ hW, hok, hl, fun v H' hv k => q v H' hv ((same_new hp).trans k)⟩⟩
def repW (t : W) (m : Int) : W := if m = 0 then .emp else if m = 1 then t else .times t m
def spRep (K : PySem.W.Frag) : Sp := fun vs H Q _ => ∃ v t m, vs = [v, .int m] ∧ WV K H v t ∧ ∀ v' H', WV K H' v' (repW t m) → Same H H' → Q v' H'
theorem sc_repeated : FnScope ["word", "many"] ["word", "many"] (defScope s_repeated) := ⟨rfl, rfl, rfl, by decide +kernel, rfl, by decide +kernel, by decide +kernel⟩
theorem ok_repeated {ae : Addr} (D : Df K mg "repeated" s_repeated ["word", "many"]) (mEMPTY : mg "EMPTY" = some (.ref ae)) (hE : ∀ H, SqT K H ae [.str "empty"]) : Cal P w K mg base 1 "repeated" ["word", "many"] (spRep K) := by
  refine D.ok sc_repeated (fun vs H Q E h => ?_) (fun f cdv A outer s H vs Q E hr h => ?_)
  · obtain ⟨v, t, m, rfl, _⟩ := h
    rfl
  obtain ⟨v, t, m, rfl, hv, q⟩ := h
  refine ⟨_, (pss_cons (ps_if (pt_cmpR op_eq (pv 1) pe_int (nomark _)) (pss_one (ps_ret (pe_glob (v := .ref ae) (by rfl) mEMPTY rfl))) pss_nil)
      (pss_cons (ps_if (pt_cmpR op_eq (pv 1) pe_int (nomark _)) (pss_one (ps_ret (pv 0))) pss_nil)
      (pss_one (ps_ret (pe_tup (pa_cons pe_str (pa_cons (pv 0) (pa_cons (pv 1) pa_nil)))))))), ?_⟩
  unfold repW at q
  refine ⟨_, rfl, rfl, _, rfl, ite2 (fun h => ?_) (fun h0 => ?_)⟩
  · have h' : m = 0 := V.int.inj (of_decide_eq_true h)
    rw [if_pos h'] at q
    exact q _ H (wv_emp (hE H)) (Same.refl H)
  have n0 : ¬ m = 0 := fun e => h0 (by rw [e]; exact decide_eq_true rfl)
  rw [if_neg n0] at q
  refine ⟨_, rfl, rfl, _, rfl, ite2 (fun h => ?_) (fun h1 => ?_)⟩
  · have h' : m = 1 := V.int.inj (of_decide_eq_true h)
    rw [if_pos h'] at q
    exact ⟨_, rfl, q _ H hv (Same.refl H)⟩
  have n1 : ¬ m = 1 := fun e => h1 (by rw [e]; exact decide_eq_true rfl)
  rw [if_neg n1] at q
  refine ⟨_, rfl, _, rfl, (by show 3 ≤ sizeLine; decide), fun p hp => ?_⟩
  exact q _ _ (wv_times (SqT.of upd_same) (WV.tp (tp_new hp) _ hv)) (same_new hp)
/-! ### _count -/
def spCnt (K : PySem.W.Frag) (n : Nat) : Sp := fun vs H Q _ => ∃ v t u L, vs = [v, .ref u] ∧ WV K H v t ∧ t.Ok abcABC ∧ t.dep ≤ n ∧ n ≤ 100 ∧ SqT K H u (L.map V.str) ∧ ∀ H', Same H H' → Q (toV (t.cnt L)) H'
theorem sc__count : FnScope ["word", "letters", "kind", "counts", "count", "part"] ["word", "letters"] (defScope s__count) := ⟨rfl, rfl, rfl, by decide +kernel, rfl, by decide +kernel, by decide +kernel⟩
theorem ok_cnt1 {n : Nat} (D : Df K mg "_count" s__count ["word", "letters"]) (bi : Bi mg) (c_count : Cal P w K mg base n "_count" ["word", "letters"] (spCnt K n)) : Cal P w K mg base (n + 1) "_count" ["word", "letters"] (spCnt K (n + 1)) := by
  refine D.ok sc__count (fun vs H Q E h => ?_) (fun f cdv A outer s H vs Q E hr h => ?_)
  · obtain ⟨v, t, u, L, rfl, _⟩ := h
    rfl
  obtain ⟨v, t, u, L, rfl, hv, ho, hd, hn, hu, q⟩ := h
  refine ⟨_, (pss_cons (ps_set (i := 2) sc__count.nd rfl (.inl rfl) (pe_ix ix_tup (pv 0) pe_int (fun _ _ => rfl)))
      (pss_cons (ps_if (pt_cmpR op_eq (pv 2) pe_str (nomark _)) (pss_one (ps_ret (pe_ifExp (pt_cmpR op_in_seq (pe_ix ix_tup (pv 0) pe_int (fun _ _ => rfl)) (pv 1) (by rfl)) pe_int pe_int))) pss_nil)
      (pss_cons (ps_if (pt_cmpR op_eq (pv 2) pe_str (nomark _)) (pss_cons (ps_setLc (i := 3) (own := [("part", 5)]) (g := gName 5) (tt := tYes) rfl sc__count.nd rfl rfl (sw_true rfl rfl rfl (by decide +kernel)) (pi_tup (pe_ix ix_tup (pv 0) pe_int (fun _ _ => rfl))) (blkOk_by (N := ["word", "letters", "kind", "counts", "count", "part"]) (sc := defScope s__count) (by decide +kernel)) (fun _ _ _ _ _ => (pg_name (i := 5) sc__count.nd rfl (.inl rfl))) (fun _ _ _ _ _ => pts_nil) (fun _ _ _ _ _ => (pe_own c_count hr (by omega) (by rfl) (pa_cons (pv 5) (pa_cons (pv 1) pa_nil)))))
      (pss_one (ps_ret (pe_ifExp (pt_cmpR op_in_seq pe_non (pv 3) (by rfl)) pe_non (pe_callB (cr_sum rfl) (by rfl) bi.sum (by decide +kernel) (pa_cons (pv 3) pa_nil)))))) pss_nil)
      (pss_cons (ps_if (PW.pt (pw_and (pt_cmpR op_eq (pv 2) pe_str (nomark _)) (pw_and1 (pt_cmpR op_gt (pe_ix ix_tup (pv 0) pe_int (fun _ _ => rfl)) pe_int (nomark _))))) (pss_cons (ps_set (i := 4) sc__count.nd rfl (.inl rfl) (pe_own c_count hr (by omega) (by rfl) (pa_cons (pe_ix ix_tup (pv 0) pe_int (fun _ _ => rfl)) (pa_cons (pv 1) pa_nil))))
      (pss_one (ps_ret (pe_ifExp (pt_cmpR op_isN (pv 4) pe_non (nomark _)) pe_non (pe_op op_mulW (pv 4) (pe_ix ix_tup (pv 0) pe_int (fun _ _ => rfl))))))) pss_nil)
      (pss_cons (ps_if (pt_cmpR op_in_seq (pv 2) (pe_tup (pa_cons pe_str (pa_cons pe_str pa_nil))) (by rfl)) (pss_one (ps_ret (pe_ifExp (pt_cmpR op_eq (pe_own c_count hr (by omega) (by rfl) (pa_cons (pe_ix ix_tup (pv 0) pe_int (fun _ _ => rfl)) (pa_cons (pv 1) pa_nil))) pe_int (nomark _)) pe_int pe_non))) pss_nil)
      (pss_one (ps_ret pe_int))))))), ?_⟩
  have q0 := q H (Same.refl H)
  have at_ := hv.at
  cases at_ with
  | emp e s =>
    cases e
    refine ⟨_, rfl, _, _, _, _, rfl, rfl, s, rfl, ?_⟩
    refine ⟨_, rfl, rfl, eq_no (by decide +kernel) ?_⟩
    refine ⟨_, rfl, rfl, eq_no (by decide +kernel) ?_⟩
    refine ⟨_, rfl, rfl, eq_no (by decide +kernel) ?_⟩
    refine ⟨_, rfl, (by show 2 ≤ sizeLine; decide), fun p hp => ?_⟩
    refine ⟨p, _, rfl, .inr (SqT.of upd_same), rfl, rfl, in_no ["right", "left"] (by decide +kernel) ?_⟩
    have e : W.cnt L .emp = some 0 := by unfold W.cnt; rfl
    rw [e] at q
    exact q _ (same_new hp)
  | nam e s =>
    unfold W.Ok at ho
    exact ho.elim
  | @ltr a c e s =>
    cases e
    refine ⟨_, rfl, _, _, _, _, rfl, rfl, s, rfl, ?_⟩
    refine ⟨_, rfl, rfl, eq_yes rfl ?_⟩
    refine ⟨_, rfl, _, _, _, _, rfl, rfl, s, rfl, _, rfl, u, _, rfl, .inr hu, rfl, flat_strs L, ?_⟩
    have e : W.cnt L (.ltr c) = some (if c ∈ L then 1 else 0) := by unfold W.cnt; rfl
    rw [e] at q0
    by_cases hc : c ∈ L
    · refine in_yes L hc ?_
      rw [if_pos hc] at q0
      exact q0
    · refine in_no L hc ?_
      rw [if_neg hc] at q0
      exact q0
  | @join a b xs ws e s s2 hw =>
    cases e
    unfold W.Ok at ho
    unfold W.dep at hd
    have hl := hw.length
    refine ⟨_, rfl, _, _, _, _, rfl, rfl, s, rfl, ?_⟩
    refine ⟨_, rfl, rfl, eq_no (by decide +kernel) ?_⟩
    refine ⟨_, rfl, rfl, eq_yes rfl ?_⟩
    refine ⟨_, rfl, _, _, _, _, rfl, rfl, s, rfl, b, rfl, ⟨xs, s2⟩, fun Dd hD => ?_⟩
    refine lct (xs := xs) (fun i H2 => H2 Dd = some (.lst (((ws.take i).map (W.cnt L)).map toV)) ∧ Same H H2) ?_ ?_ ?_ ?_
    · exact ⟨upd_same, same_new hD⟩
    · rintro i H2 _ ⟨_, k2⟩
      exact (tp_same k2).sq s2
    · rintro i x H2 hx ⟨hA, k2⟩
      obtain ⟨t1, e1, h1⟩ := hw.get hx
      have m1 : t1 ∈ ws := List.mem_of_getElem? e1
      have d1 := W.deps_mem m1
      refine ⟨_, rfl, _, rfl, _, t1, u, L, rfl, WV.tp (tp_same k2) _ h1, W.oks_mem m1 ho.2, by omega, by omega, (tp_same k2).sq hu, fun H4 k4 => ?_⟩
      refine ⟨_, k4 _ _ hA, ?_, ?_, ?_⟩
      · rw [List.length_map, List.length_map, List.length_take]
        exact Nat.lt_of_le_of_lt (show _ ≤ 1000 by omega) (by decide)
      · rw [upd_same, List.take_add_one, e1]
        show _ = some (HO.lst (((ws.take i ++ [t1]).map (W.cnt L)).map toV))
        rw [List.map_append, List.map_append]
        rfl
      · intro b' o hb
        rw [upd_ne (ne_of_none hb hD)]
        exact k4 _ _ (k2 _ _ hb)
    · rintro H2 ⟨hA, k2⟩
      rw [hl, List.take_length] at hA
      refine ⟨_, rfl, Dd, _, rfl, .inl (SqL.of hA), rfl, flat_toV _, ?_⟩
      rw [if_neg (by decide), inV_non]
      have e : W.cnt L (.join ws) = W.cnts L ws := by unfold W.cnt; rfl
      rw [e] at q
      by_cases hm : none ∈ ws.map (W.cnt L)
      · rw [decide_eq_true hm]
        refine ⟨true, rfl, ?_⟩
        have q1 := q H2 k2
        rw [W.cnts_none hm] at q1
        exact q1
      · rw [decide_eq_false hm]
        refine ⟨false, rfl, ?_⟩
        have q1 := q H2 k2
        rw [W.cnts_some hm] at q1
        rw [toV_ints hm] at hA
        refine ⟨_, rfl, Dd, _, rfl, SqL.of hA, ?_⟩
        rw [List.map_map]
        exact q1
  | @times a x t n' e s hx =>
    cases e
    unfold W.Ok at ho
    unfold W.dep at hd
    refine ⟨_, rfl, _, _, _, _, rfl, rfl, s, rfl, ?_⟩
    refine ⟨_, rfl, rfl, eq_no (by decide +kernel) ?_⟩
    refine ⟨_, rfl, rfl, eq_no (by decide +kernel) ?_⟩
    refine ⟨_, rfl, rfl, eq_yes rfl ?_⟩
    refine ⟨_, rfl, _, _, _, _, rfl, rfl, s, rfl, _, _, rfl, rfl, _, rfl, ?_⟩
    have e : W.cnt L (.times t n') = if 0 < n' then (t.cnt L).map (· * n') else some 0 := cnt_times
    refine ite2 (fun hc => ?_) (fun hc => ?_)
    · have hc' : n' > 0 := of_decide_eq_true hc
      rw [e, if_pos hc'] at q
      refine ⟨_, rfl, _, _, _, _, rfl, rfl, s, rfl, _, rfl, _, t, u, L, rfl, hx, ho.2.2, by omega, by omega, hu, fun H2 k2 => ?_⟩
      refine ⟨_, rfl, rfl, ?_⟩
      cases g : t.cnt L with
      | none =>
        rw [g] at q
        exact ⟨true, rfl, q H2 k2⟩
      | some m =>
        rw [g] at q
        refine ⟨false, rfl, ?_⟩
        have hb := W.cnt_abs ho.2.2 g
        have hn' : n'.natAbs < 2 ^ 100 := by
          have : (n'.natAbs : Int) ≤ 1000000000000000000000000000000 := by omega
          have : n'.natAbs ≤ 1000000000000000000000000000000 := by omega
          exact Nat.lt_of_le_of_lt this (by decide)
        refine ⟨_, rfl, _, rfl, _, _, _, _, rfl, rfl, (tp_same k2).sq s, rfl, _, _, rfl, rfl, wide_mul hb hn' (by have := t.dep_pos; omega) (by decide) (by omega), ?_⟩
        exact q H2 k2
    · have hc' : ¬ n' > 0 := of_decide_eq_false (Bool.eq_false_iff.mpr hc)
      rw [e, if_neg hc'] at q
      refine ⟨_, rfl, (by show 2 ≤ sizeLine; decide), fun p hp => ?_⟩
      refine ⟨p, _, rfl, .inr (SqT.of upd_same), rfl, rfl, in_no ["right", "left"] (by decide +kernel) ?_⟩
      exact q _ (same_new hp)
  | @right a x t e s hx =>
    cases e
    unfold W.Ok at ho
    unfold W.dep at hd
    refine ⟨_, rfl, _, _, _, _, rfl, rfl, s, rfl, ?_⟩
    refine ⟨_, rfl, rfl, eq_no (by decide +kernel) ?_⟩
    refine ⟨_, rfl, rfl, eq_no (by decide +kernel) ?_⟩
    refine ⟨_, rfl, rfl, eq_no (by decide +kernel) ?_⟩
    refine ⟨_, rfl, (by show 2 ≤ sizeLine; decide), fun p hp => ?_⟩
    refine ⟨p, _, rfl, .inr (SqT.of upd_same), rfl, rfl, in_yes ["right", "left"] (by decide +kernel) ?_⟩
    have k1 : Same H (upd H p (.tup [.str "right", .str "left"])) := same_new hp
    have e : W.cnt L (.right t) = if t.cnt L = some 0 then some 0 else none := cnt_right
    rw [e] at q
    refine ⟨_, rfl, _, _, _, _, rfl, rfl, (tp_same k1).sq s, rfl, _, rfl, _, t, u, L, rfl, WV.tp (tp_same k1) _ hx, ho, by omega, by omega, (tp_same k1).sq hu, fun H2 k2 => ?_⟩
    cases g : t.cnt L with
    | none =>
      rw [g, if_neg (by intro h; cases h)] at q
      exact ⟨rfl, false, rfl, q H2 (k1.trans k2)⟩
    | some m =>
      rw [g] at q
      refine ⟨rfl, _, rfl, ite2 (fun hc => ?_) (fun hc => ?_)⟩
      · have hc' : V.int m = V.int 0 := of_decide_eq_true hc
        cases hc'
        rw [if_pos rfl] at q
        exact q H2 (k1.trans k2)
      · have hc' : m ≠ 0 := fun e => hc (by rw [e]; exact decide_eq_true rfl)
        rw [if_neg (by intro h; cases h; exact hc' rfl)] at q
        exact q H2 (k1.trans k2)
  | @left a x t e s hx =>
    cases e
    unfold W.Ok at ho
    unfold W.dep at hd
    refine ⟨_, rfl, _, _, _, _, rfl, rfl, s, rfl, ?_⟩
    refine ⟨_, rfl, rfl, eq_no (by decide +kernel) ?_⟩
    refine ⟨_, rfl, rfl, eq_no (by decide +kernel) ?_⟩
    refine ⟨_, rfl, rfl, eq_no (by decide +kernel) ?_⟩
    refine ⟨_, rfl, (by show 2 ≤ sizeLine; decide), fun p hp => ?_⟩
    refine ⟨p, _, rfl, .inr (SqT.of upd_same), rfl, rfl, in_yes ["right", "left"] (by decide +kernel) ?_⟩
    have k1 : Same H (upd H p (.tup [.str "right", .str "left"])) := same_new hp
    have e : W.cnt L (.left t) = if t.cnt L = some 0 then some 0 else none := cnt_left
    rw [e] at q
    refine ⟨_, rfl, _, _, _, _, rfl, rfl, (tp_same k1).sq s, rfl, _, rfl, _, t, u, L, rfl, WV.tp (tp_same k1) _ hx, ho, by omega, by omega, (tp_same k1).sq hu, fun H2 k2 => ?_⟩
    cases g : t.cnt L with
    | none =>
      rw [g, if_neg (by intro h; cases h)] at q
      exact ⟨rfl, false, rfl, q H2 (k1.trans k2)⟩
    | some m =>
      rw [g] at q
      refine ⟨rfl, _, rfl, ite2 (fun hc => ?_) (fun hc => ?_)⟩
      · have hc' : V.int m = V.int 0 := of_decide_eq_true hc
        cases hc'
        rw [if_pos rfl] at q
        exact q H2 (k1.trans k2)
      · have hc' : m ≠ 0 := fun e => hc (by rw [e]; exact decide_eq_true rfl)
        rw [if_neg (by intro h; cases h; exact hc' rfl)] at q
        exact q H2 (k1.trans k2)
theorem ok_cnt (D : Df K mg "_count" s__count ["word", "letters"]) (bi : Bi mg) : ∀ n : Nat, Cal P w K mg base n "_count" ["word", "letters"] (spCnt K n)
  | 0 => D.no fun vs H Q E h => by
    obtain ⟨v, t, u, L, _, _, _, h, _⟩ := h
    have := t.dep_pos
    omega
  | n + 1 => ok_cnt1 D bi (ok_cnt D bi n)
/-! ### letter_count, length -/
def spLc (K : PySem.W.Frag) : Sp := fun vs H Q _ => ∃ v t c, vs = [v, .str c] ∧ WV K H v t ∧ t.Ok abcABC ∧ t.dep ≤ 12 ∧ ∀ H', Same H H' → Q (toV (t.cnt [c])) H'
theorem sc_letter_count : FnScope ["word", "letter"] ["word", "letter"] (defScope s_letter_count) := ⟨rfl, rfl, rfl, by decide +kernel, rfl, by decide +kernel, by decide +kernel⟩
theorem ok_lc (D : Df K mg "letter_count" s_letter_count ["word", "letter"]) (c_count : Cal P w K mg base 12 "_count" ["word", "letters"] (spCnt K 12)) : Cal P w K mg base 13 "letter_count" ["word", "letter"] (spLc K) := by
  refine D.ok sc_letter_count (fun vs H Q E h => ?_) (fun f cdv A outer s H vs Q E hr h => ?_)
  · obtain ⟨v, t, c, rfl, _⟩ := h
    rfl
  obtain ⟨v, t, c, rfl, hv, ho, hd, q⟩ := h
  refine ⟨_, (pss_one (ps_ret (pe_own c_count hr (by omega) (by rfl) (pa_cons (pv 0) (pa_cons (pe_tup (pa_cons (pv 1) pa_nil)) pa_nil))))), ?_⟩
  refine ⟨_, rfl, _, rfl, (by show 1 ≤ sizeLine; decide), fun p hp => ?_⟩
  exact ⟨v, t, p, [c], rfl, WV.tp (tp_new hp) _ hv, ho, hd, by decide, SqT.of upd_same, fun H' k => q H' ((same_new hp).trans k)⟩

end
end SW

set_option Elab.async false
set_option linter.all false
set_option maxRecDepth 100000
set_option maxHeartbeats 4000000
namespace SW
open PySem PySem.Spec PyProof.Rows L2
section
variable {P : Program} {w : World} {K : PySem.W.Frag} {mg : Str → Option Value} {base : Heap}
/-! ### _law_tree -/
def spTree (K : PySem.W.Frag) (d : Nat) : Sp := fun vs H Q _ => ∃ r l k a b e, vs = [.ref r, .ref k, .int e] ∧ e = (d : Int) ∧ 1 ≤ d ∧ Rng H r l ∧ H k = some (.lst [.int a, .int b]) ∧ k ≠ r ∧ k ≠ l ∧
  ∀ v t a' b' H', WV K H' v t → t.Ok3 abc → t.dep ≤ d → Rng H' r l → H' k = some (.lst [.int a', .int b']) → Kp2 r k H H' → Q v H'
theorem sc__law_tree : FnScope ["_law_rng", "_law_kit", "_law_deep", "_law_way", "_law_k"] ["_law_rng", "_law_kit", "_law_deep"] (defScope s__law_tree) := ⟨rfl, rfl, rfl, by decide +kernel, rfl, by decide +kernel, by decide +kernel⟩
theorem ok_tree1 {n : Nat} (D : Df K mg "_law_tree" s__law_tree ["_law_rng", "_law_kit", "_law_deep"]) (bi : Bi mg) (c_law_draw : Cal P w K mg base 1 "_law_draw" ["_law_rng", "_law_many"] spDraw) (c_law_pick : Cal P w K mg base 2 "_law_pick" ["_law_rng", "_law_things"] spPick)
    (c_law_tree : Cal P w K mg base (n + 2) "_law_tree" ["_law_rng", "_law_kit", "_law_deep"] (spTree K n)) : Cal P w K mg base (n + 3) "_law_tree" ["_law_rng", "_law_kit", "_law_deep"] (spTree K (n + 1)) := by
  refine D.ok sc__law_tree (fun vs H Q E h => ?_) (fun f cdv A outer s H vs Q E hr h => ?_)
  · obtain ⟨r, l, k, a, b, e, rfl, _⟩ := h
    rfl
  obtain ⟨r, l, k, a, b, e, rfl, he, hd, g, hk, kr, kl, q⟩ := h
  refine ⟨_, (pss_cons (ps_if (pt_cmpR op_lt (pe_ix ix_list (pv 1) pe_int (fun _ _ => rfl)) pe_int (nomark _)) (pss_one (ps_ret (pe_tup (pa_cons pe_str pa_nil)))) pss_nil)
      (C8.pss_cut (ps_set (i := 3) sc__law_tree.nd rfl (.inl rfl) (pe_ifExp (pt_cmpR op_gt (pv 2) pe_int (nomark _)) (pe_own c_law_draw hr (by omega) (by rfl) (pa_cons (pv 0) (pa_cons pe_int pa_nil))) (pe_own c_law_draw hr (by omega) (by rfl) (pa_cons (pv 0) (pa_cons pe_int pa_nil)))))
      (pss_cons (ps_if (pt_cmpR op_lt (pv 3) pe_int (nomark _)) (pss_cons (ps_asg (pe_op op_sub (pe_ix ix_list (pv 1) pe_int (fun _ _ => rfl)) pe_int) (pg_sub (pv 1) pe_int set_list))
      (pss_one (ps_ret (pe_tup (pa_cons pe_str (pa_cons (pe_own c_law_pick hr (by omega) (by rfl) (pa_cons (pv 0) (pa_cons (pe_lst (pa_cons pe_str (pa_cons pe_str (pa_cons pe_str pa_nil)))) pa_nil))) pa_nil)))))) pss_nil)
      (pss_cons (ps_if (pt_cmpR op_eq (pv 3) pe_int (nomark _)) (pss_one (ps_ret (pe_tup (pa_cons pe_str pa_nil)))) pss_nil)
      (pss_cons (ps_if (pt_cmpR op_lt (pv 3) pe_int (nomark _)) (pss_one (ps_ret (pe_tup (pa_cons pe_str (pa_cons (pe_callTy call_tuple_of (by rfl) bi.tuple (by decide +kernel) (pa_cons (pe_lc (own := [("_law_k", 4)]) (g := gName 4) (tt := tYes) rfl sc__law_tree.nd (pi_range1 (by rfl) bi.range (pa_cons (pe_op op_add pe_int (pe_own c_law_draw hr (by omega) (by rfl) (pa_cons (pv 0) (pa_cons pe_int pa_nil)))) pa_nil)) (blkOk_by (N := ["_law_rng", "_law_kit", "_law_deep", "_law_way", "_law_k"]) (sc := defScope s__law_tree) (by decide +kernel)) (fun _ _ _ _ _ => (pg_name (i := 4) sc__law_tree.nd rfl (.inl rfl))) (fun _ _ _ _ _ => pts_nil) (fun _ _ _ _ _ => (pe_own c_law_tree hr (by omega) (by rfl) (pa_cons (pv 0) (pa_cons (pv 1) (pa_cons (pe_op op_sub (pv 2) pe_int) pa_nil)))))) pa_nil)) pa_nil))))) pss_nil)
      (pss_cons (ps_if (pt_cmpR op_eq (pv 3) pe_int (nomark _)) (pss_one (ps_ret (pe_tup (pa_cons pe_str (pa_cons (pe_own c_law_tree hr (by omega) (by rfl) (pa_cons (pv 0) (pa_cons (pv 1) (pa_cons (pe_op op_sub (pv 2) pe_int) pa_nil)))) (pa_cons (pe_own c_law_draw hr (by omega) (by rfl) (pa_cons (pv 0) (pa_cons pe_int pa_nil))) pa_nil)))))) pss_nil)
      (pss_cons (ps_if (pt_cmpR op_lt (pe_ix ix_list (pv 1) pe_int (fun _ _ => rfl)) pe_int (nomark _)) (pss_one (ps_ret (pe_own c_law_tree hr (by omega) (by rfl) (pa_cons (pv 0) (pa_cons (pv 1) (pa_cons (pe_op op_sub (pv 2) pe_int) pa_nil)))))) pss_nil)
      (pss_cons (ps_asg (pe_op op_sub (pe_ix ix_list (pv 1) pe_int (fun _ _ => rfl)) pe_int) (pg_sub (pv 1) pe_int set_list))
      (pss_one (ps_ret (pe_tup (pa_cons (pe_ix ix_list (pe_lst (pa_cons pe_str (pa_cons pe_str pa_nil))) (pe_op op_sub (pv 3) pe_int) (fun _ _ => rfl)) (pa_cons (pe_own c_law_tree hr (by omega) (by rfl) (pa_cons (pv 0) (pa_cons (pv 1) (pa_cons (pe_op op_sub (pv 2) pe_int) pa_nil)))) pa_nil))))))))))))), ?_⟩
  -- an empty kit
  refine ⟨_, rfl, _, _, _, _, rfl, rfl, SqL.of hk, rfl, _, _, rfl, rfl, _, rfl, ite2 (fun _ => ?_) (fun _ => ?_)⟩
  · refine ⟨(by show 1 ≤ sizeLine; decide), fun p hp => ?_⟩
    exact q _ .emp a b _ (wv_emp (SqT.of upd_same)) (by unfold W.Ok3; trivial) (by unfold W.dep; omega) (g.new hp) (by rw [upd_ne (ne_of_none hk hp)]; exact hk) ((Kp.new hp).two)
  -- the way
  refine ⟨fun σ' H1 => ∃ way : Int, σ' = [some (.ref r), some (.ref k), some (.int e), some (.int way), none] ∧ 0 ≤ way ∧ (way < 3 ∨ (way < 9 ∧ 1 ≤ n)) ∧ Rng H1 r l ∧ Kp r H H1, ?_, ?_⟩
  · refine ⟨_, rfl, _, _, rfl, rfl, _, rfl, ite2 (fun hc => ?_) (fun _ => ?_)⟩
    · have hc' : e > 1 := of_decide_eq_true hc
      refine ⟨_, rfl, r, l, _, rfl, by decide, by decide, g, fun v H1 hv0 hv1 g1 k1 => ?_⟩
      exact ⟨v, rfl, hv0, .inr ⟨hv1, by omega⟩, g1, k1⟩
    · refine ⟨_, rfl, r, l, _, rfl, by decide, by decide, g, fun v H1 hv0 hv1 g1 k1 => ?_⟩
      exact ⟨v, rfl, hv0, .inl hv1, g1, k1⟩
  rintro σ' H1 ⟨way, rfl, w0, w1, g1, k1⟩
  have hk1 : H1 k = some (.lst [.int a, .int b]) := k1 _ _ kr hk
  obtain ⟨z, hz⟩ := g1.lst
  obtain ⟨zl, hzl⟩ := g1.some_l
  refine ⟨_, rfl, _, _, rfl, rfl, _, rfl, ite2 (fun _ => ?_) (fun hc => ?_)⟩
  · -- a letter
    refine ⟨_, rfl, _, _, _, _, rfl, rfl, SqL.of hk1, rfl, _, _, rfl, rfl, _, rfl, k, _, 0, 0, rfl, rfl, hk1, rfl, ?_⟩
    have k2 : Kp2 r k H1 (upd H1 k (.lst [.int (a - 1), .int b])) := Kp2.at
    refine ⟨_, rfl, (by show 3 ≤ sizeLine; decide), fun p hp => ?_⟩
    have hp1 : H1 p = none := by
      rw [← hp]
      exact (upd_ne (fun e => by rw [e, upd_same] at hp; cases hp)).symm
    have g2 : Rng (upd H1 k (.lst [.int (a - 1), .int b])) r l := g1.of (fun o h => by rw [upd_ne kr.symm]; exact h) (fun o h => by rw [upd_ne kl.symm]; exact h)
    have g3 := g2.new (o := .lst [.str "a", .str "b", .str "c"]) hp
    refine ⟨r, l, p, _, rfl, g3, upd_same, (ne_of_none hz hp1).symm, by decide, by decide, fun j x H4 ex g4 k4 => ?_⟩
    have hk4 : H4 k = some (.lst [.int (a - 1), .int b]) := k4 _ _ kr (by rw [upd_ne (fun e => by rw [← e, upd_same] at hp; cases hp), upd_same]; rfl)
    have kk : Kp2 r k H H4 := k1.two.trans (k2.trans ((Kp.new hp).two.trans k4.two))
    have hx : ∃ c, x = .str c ∧ c ∈ abc := by
      match j, ex with
      | 0, e => cases e; exact ⟨_, rfl, by decide⟩
      | 1, e => cases e; exact ⟨_, rfl, by decide⟩
      | 2, e => cases e; exact ⟨_, rfl, by decide⟩
    obtain ⟨c, rfl, hcm⟩ := hx
    refine ⟨(by show 2 ≤ sizeLine; decide), fun p2 hp2 => ?_⟩
    exact q _ (.ltr c) (a - 1) b _ (wv_ltr (SqT.of upd_same)) (by unfold W.Ok3; exact hcm) (by unfold W.dep; omega) (g4.new hp2) (by rw [upd_ne (ne_of_none hk4 hp2)]; exact hk4) (kk.trans (Kp.new hp2).two)
  have hc' : ¬ way < 3 := of_decide_eq_false (Bool.eq_false_iff.mpr hc)
  have hn : 1 ≤ n := by omega
  have en : e - 1 = (n : Int) := by omega
  refine ⟨_, rfl, rfl, _, rfl, ite2 (fun _ => ?_) (fun q3 => ?_)⟩
  · refine ⟨(by show 1 ≤ sizeLine; decide), fun p hp => ?_⟩
    exact q _ .emp a b _ (wv_emp (SqT.of upd_same)) (by unfold W.Ok3; trivial) (by unfold W.dep; omega) (g1.new hp) (by rw [upd_ne (ne_of_none hk1 hp)]; exact hk1) (k1.trans (Kp.new hp)).two
  refine ⟨_, rfl, _, _, rfl, rfl, _, rfl, ite2 (fun _ => ?_) (fun q6 => ?_)⟩
  · -- a join
    refine ⟨_, rfl, r, l, _, rfl, by decide, by decide, g1, fun v H2 v0 v1 g2 k2 => ?_⟩
    have hk2 : H2 k = some (.lst [.int a, .int b]) := k2 _ _ kr hk1
    have v1' : v < 2 := v1
    refine ⟨_, _, rfl, rfl, _, rfl, by omega, by omega, fun Dd hD => ?_⟩
    obtain ⟨z2, hz2⟩ := g2.lst
    obtain ⟨zl2, hzl2⟩ := g2.some_l
    have Dr : Dd ≠ r := (ne_of_none hz2 hD).symm
    have Dk : Dd ≠ k := (ne_of_none hk2 hD).symm
    have Dl : Dd ≠ l := (ne_of_none hzl2 hD).symm
    have kH2 : Kp r H H2 := k1.trans k2
    refine lcr (lo := 0) (n := (2 + v).toNat) (fun i H3 => ∃ ts acc a' b', H3 Dd = some (.lst acc) ∧ WVs K H3 acc ts ∧ ts.length = i ∧ (∀ t ∈ ts, t.Ok3 abc ∧ t.dep ≤ n) ∧ Rng H3 r l ∧ H3 k = some (.lst [.int a', .int b']) ∧ Kp2 r k H2 H3) ?_ ?_ ?_
    · exact ⟨[], [], a, b, upd_same, wvs_nil, rfl, fun t h => (List.not_mem_nil h).elim, g2.new hD, by rw [upd_ne Dk.symm]; exact hk2, (Kp.new hD).two⟩
    · rintro i H3 hi ⟨ts, acc, a', b', hA, hW, hlen, hall, g3, hk3, k3⟩
      refine ⟨_, rfl, _, rfl, _, rfl, _, _, rfl, rfl, ?_⟩
      refine ⟨r, l, k, a', b', _, rfl, en, hn, g3, hk3, kr, kl, fun y t a2 b2 H4 hy ho hdp g4 hk4 k4 => ?_⟩
      have hA4 : H4 Dd = some (.lst acc) := k4 _ _ Dr Dk hA
      obtain ⟨z3, hz3⟩ := g3.lst
      have tp : Tp H3 H4 := k4.tp hz3 hk3
      have al := hW.length
      refine ⟨acc, hA4, Nat.lt_of_le_of_lt (show acc.length ≤ 1000 by omega) (by decide), ts ++ [t], acc ++ [y], a2, b2, upd_same, ?_, by rw [List.length_append, hlen]; rfl, ?_, ?_, ?_, ?_⟩
      · exact WVs.tp (tp_set hA4) _ (WVs.app hy (WVs.tp tp _ hW))
      · intro t' ht'
        rcases List.mem_append.mp ht' with h | h
        · exact hall t' h
        · rw [List.mem_singleton.mp h]
          exact ⟨ho, hdp⟩
      · exact g4.of (fun o h => by rw [upd_ne Dr.symm]; exact h) (fun o h => by rw [upd_ne Dl.symm]; exact h)
      · rw [upd_ne Dk.symm]
        exact hk4
      · intro b o n1 n2 hb
        have nb : b ≠ Dd := ne_of_none hb hD
        rw [upd_ne nb]
        exact k4 b o n1 n2 (k3 b o n1 n2 hb)
    · rintro H3 ⟨ts, acc, a', b', hA, hW, hlen, hall, g3, hk3, k3⟩
      refine ⟨Dd, acc, rfl, .inl ⟨SqL.of hA, fun p hp => ?_⟩⟩
      refine ⟨(by show 2 ≤ sizeLine; decide), fun p2 hp2 => ?_⟩
      have t1 : Tp H3 (upd H3 p (.tup acc)) := tp_new hp
      have t2 := tp_new (o := .tup [.str "join", .ref p]) hp2
      refine q _ (.join ts) a' b' _ (wv_join (SqT.of upd_same) (t2.sq (SqT.of upd_same)) (WVs.tp (t1.trans t2) _ hW)) ?_ ?_ ((g3.new hp).new hp2) ?_ ?_
      · unfold W.Ok3
        exact ⟨by omega, W.oks3_of fun t ht => (hall t ht).1⟩
      · unfold W.dep
        have := W.deps_le (n := n) fun t ht => (hall t ht).2
        omega
      · have e1 : (upd H3 p (.tup acc)) k = some (.lst [.int a', .int b']) := by
          rw [upd_ne (ne_of_none hk3 hp)]
          exact hk3
        rw [upd_ne (ne_of_none e1 hp2)]
        exact e1
      · exact kH2.two.trans (k3.trans ((Kp.new hp).trans (Kp.new hp2)).two)
  refine ⟨_, rfl, rfl, _, rfl, ite2 (fun _ => ?_) (fun q7 => ?_)⟩
  · -- copies
    refine ⟨_, rfl, _, rfl, _, rfl, _, _, rfl, rfl, ?_⟩
    refine ⟨r, l, k, a, b, _, rfl, en, hn, g1, hk1, kr, kl, fun y t a2 b2 H4 hy ho hdp g4 hk4 k4 => ?_⟩
    refine ⟨_, rfl, r, l, _, rfl, by decide, by decide, g4, fun v H5 v0 v1 g5 k5 => ?_⟩
    have v1' : v < 4 := v1
    refine ⟨(by show 3 ≤ sizeLine; decide), fun p hp => ?_⟩
    obtain ⟨z4, hz4⟩ := g4.lst
    have hk5 : H5 k = some (.lst [.int a2, .int b2]) := k5 _ _ kr hk4
    refine q _ (.times t v) a2 b2 _ (wv_times (SqT.of upd_same) (WV.tp ((k5.tp hz4).trans (tp_new hp)) _ hy)) ?_ ?_ (g5.new hp) (by rw [upd_ne (ne_of_none hk5 hp)]; exact hk5) ?_
    · unfold W.Ok3
      exact ⟨v0, by omega, ho⟩
    · unfold W.dep
      omega
    · exact k1.two.trans (k4.trans (k5.trans (Kp.new hp)).two)
  refine ⟨_, rfl, _, _, _, _, rfl, rfl, SqL.of hk1, rfl, _, _, rfl, rfl, _, rfl, ite2 (fun _ => ?_) (fun _ => ?_)⟩
  · refine ⟨_, rfl, _, rfl, _, rfl, _, _, rfl, rfl, ?_⟩
    refine ⟨r, l, k, a, b, _, rfl, en, hn, g1, hk1, kr, kl, fun y t a2 b2 H4 hy ho hdp g4 hk4 k4 => ?_⟩
    exact q _ t a2 b2 _ hy ho (by omega) g4 hk4 (k1.two.trans k4)
  -- endless copies
  refine ⟨_, rfl, _, _, _, _, rfl, rfl, SqL.of hk1, rfl, _, _, rfl, rfl, _, rfl, k, _, 1, 1, rfl, rfl, hk1, rfl, ?_⟩
  have k2 : Kp2 r k H1 (upd H1 k (.lst [.int a, .int (b - 1)])) := Kp2.at
  have g2 : Rng (upd H1 k (.lst [.int a, .int (b - 1)])) r l := g1.of (fun o h => by rw [upd_ne kr.symm]; exact h) (fun o h => by rw [upd_ne kl.symm]; exact h)
  refine ⟨(by show 2 ≤ sizeLine; decide), fun p hp => ?_⟩
  have hkp : (upd (upd H1 k (.lst [.int a, .int (b - 1)])) p (.lst [.str "right", .str "left"])) k = some (.lst [.int a, .int (b - 1)]) := by
    rw [upd_ne (ne_of_none upd_same hp), upd_same]
  have n3 : way ≠ 3 := fun e => q3 (by rw [e]; exact decide_eq_true rfl)
  have n6 : ¬ way < 6 := of_decide_eq_false (Bool.eq_false_iff.mpr q6)
  have n7 : way ≠ 6 := fun e => q7 (by rw [e]; exact decide_eq_true rfl)
  have h9 : way = 7 ∨ way = 8 := by omega
  have g3 := g2.new (o := .lst [.str "right", .str "left"]) hp
  have hH : Kp2 r k H (upd (upd H1 k (.lst [.int a, .int (b - 1)])) p (.lst [.str "right", .str "left"])) := k1.two.trans (k2.trans (Kp.new hp).two)
  rcases h9 with h9 | h9
  · have e0 : way - 7 = 0 := by omega
    refine ⟨_, rfl, _, _, rfl, rfl, _, _, _, _, rfl, rfl, SqL.of upd_same, at_of (j := 0) e0 rfl, ?_⟩
    refine ⟨_, rfl, _, rfl, _, rfl, _, _, rfl, rfl, ?_⟩
    refine ⟨r, l, k, a, b - 1, _, rfl, en, hn, g3, hkp, kr, kl, fun y t a2 b2 H4 hy ho hdp g4 hk4 k4 => ?_⟩
    refine ⟨(by show 2 ≤ sizeLine; decide), fun p2 hp2 => ?_⟩
    exact q _ (.right t) a2 b2 _ (wv_right (SqT.of upd_same) (WV.tp (tp_new hp2) _ hy)) (by unfold W.Ok3; exact ho) (by unfold W.dep; omega) (g4.new hp2) (by rw [upd_ne (ne_of_none hk4 hp2)]; exact hk4) (hH.trans (k4.trans (Kp.new hp2).two))
  · have e0 : way - 7 = 1 := by omega
    refine ⟨_, rfl, _, _, rfl, rfl, _, _, _, _, rfl, rfl, SqL.of upd_same, at_of (j := 1) e0 rfl, ?_⟩
    refine ⟨_, rfl, _, rfl, _, rfl, _, _, rfl, rfl, ?_⟩
    refine ⟨r, l, k, a, b - 1, _, rfl, en, hn, g3, hkp, kr, kl, fun y t a2 b2 H4 hy ho hdp g4 hk4 k4 => ?_⟩
    refine ⟨(by show 2 ≤ sizeLine; decide), fun p2 hp2 => ?_⟩
    exact q _ (.left t) a2 b2 _ (wv_left (SqT.of upd_same) (WV.tp (tp_new hp2) _ hy)) (by unfold W.Ok3; exact ho) (by unfold W.dep; omega) (g4.new hp2) (by rw [upd_ne (ne_of_none hk4 hp2)]; exact hk4) (hH.trans (k4.trans (Kp.new hp2).two))
theorem ok_tree (D : Df K mg "_law_tree" s__law_tree ["_law_rng", "_law_kit", "_law_deep"]) (bi : Bi mg) (c_law_draw : Cal P w K mg base 1 "_law_draw" ["_law_rng", "_law_many"] spDraw) (c_law_pick : Cal P w K mg base 2 "_law_pick" ["_law_rng", "_law_things"] spPick) :
    ∀ n : Nat, Cal P w K mg base (n + 2) "_law_tree" ["_law_rng", "_law_kit", "_law_deep"] (spTree K n)
  | 0 => D.no fun vs H Q E h => by
    obtain ⟨r, l, k, a, b, e, _, _, h1, _⟩ := h
    omega
  | n + 1 => ok_tree1 D bi c_law_draw c_law_pick (ok_tree D bi c_law_draw c_law_pick n)
/-! ### _law_word, _law_wide -/
def spWord (K : PySem.W.Frag) (n : Nat) : Sp := fun vs H Q _ => ∃ r l, vs = [.ref r] ∧ Rng H r l ∧ ∀ v t H', WV K H' v t → t.Ok3 abc → t.dep ≤ n → Rng H' r l → Kp r H H' → Q v H'
theorem sc__law_word : FnScope ["_law_rng", "_law_first"] ["_law_rng"] (defScope s__law_word) := ⟨rfl, rfl, rfl, by decide +kernel, rfl, by decide +kernel, by decide +kernel⟩
theorem ok_word (D : Df K mg "_law_word" s__law_word ["_law_rng"]) (bi : Bi mg) (c_law_draw : Cal P w K mg base 1 "_law_draw" ["_law_rng", "_law_many"] spDraw) (c_law_tree : Cal P w K mg base 5 "_law_tree" ["_law_rng", "_law_kit", "_law_deep"] (spTree K 3)) :
    Cal P w K mg base 6 "_law_word" ["_law_rng"] (spWord K 4) := by
  refine D.ok sc__law_word (fun vs H Q E h => ?_) (fun f cdv A outer s H vs Q E hr h => ?_)
  · obtain ⟨r, l, rfl, _⟩ := h
    rfl
  obtain ⟨r, l, rfl, g, q⟩ := h
  refine ⟨_, (pss_cons (ps_set (i := 1) sc__law_word.nd rfl (.inl rfl) (pe_own c_law_tree hr (by omega) (by rfl) (pa_cons (pv 0) (pa_cons (pe_lst (pa_cons pe_int (pa_cons pe_int pa_nil))) (pa_cons pe_int pa_nil)))))
      (pss_cons (ps_if (pt_cmpR op_eq (pe_own c_law_draw hr (by omega) (by rfl) (pa_cons (pv 0) (pa_cons pe_int pa_nil))) pe_int (nomark _)) (pss_one (ps_ret (pv 1))) pss_nil)
      (pss_one (ps_ret (pe_tup (pa_cons pe_str (pa_cons (pe_tup (pa_cons (pv 1) (pa_cons (pe_own c_law_tree hr (by omega) (by rfl) (pa_cons (pv 0) (pa_cons (pe_lst (pa_cons pe_int (pa_cons pe_int pa_nil))) (pa_cons pe_int pa_nil)))) pa_nil))) pa_nil))))))), ?_⟩
  refine ⟨_, rfl, (by show 2 ≤ sizeLine; decide), fun k hk => ?_⟩
  obtain ⟨z, hz⟩ := g.lst
  obtain ⟨zl, hzl⟩ := g.some_l
  refine ⟨r, l, k, 3, 1, _, rfl, rfl, by decide, g.new hk, upd_same, (ne_of_none hz hk).symm, (ne_of_none hzl hk).symm, fun v1 t1 a1 b1 H1 hv1 ho1 hd1 g1 hk1 k1 => ?_⟩
  have k1' : Kp r H H1 := Kp2.fresh hk k1
  refine ⟨_, rfl, r, l, _, rfl, by decide, by decide, g1, fun v2 H2 a2 b2 g2 k2 => ?_⟩
  obtain ⟨z1, hz1⟩ := g1.lst
  have hv2 := WV.tp (k2.tp hz1) _ hv1
  refine ⟨rfl, _, rfl, ite2 (fun _ => ?_) (fun _ => ?_)⟩
  · exact ⟨_, rfl, q _ _ _ hv2 ho1 (by omega) g2 (k1'.trans k2)⟩
  refine ⟨_, rfl, _, rfl, (by show 2 ≤ sizeLine; decide), fun k3 hk3 => ?_⟩
  obtain ⟨z2, hz2⟩ := g2.lst
  obtain ⟨zl2, hzl2⟩ := g2.some_l
  refine ⟨r, l, k3, 3, 1, _, rfl, rfl, by decide, g2.new hk3, upd_same, (ne_of_none hz2 hk3).symm, (ne_of_none hzl2 hk3).symm, fun v3 t3 a3 b3 H3 hv3 ho3 hd3 g3 hk3' k3' => ?_⟩
  have k4 : Kp r H2 H3 := Kp2.fresh hk3 k3'
  refine ⟨(by show 2 ≤ sizeLine; decide), fun p hp => ⟨(by show 2 ≤ sizeLine; decide), fun p2 hp2 => ?_⟩⟩
  have tt : Tp H3 (upd (upd H3 p (.tup [v1, v3])) p2 (.tup [.str "join", .ref p])) := (tp_new hp).trans (tp_new hp2)
  have hvA := WV.tp (k4.tp hz2) _ hv2
  refine q _ (.join [t1, t3]) _ (wv_join (SqT.of upd_same) ((tp_new hp2).sq (SqT.of upd_same)) (wvs_cons (WV.tp tt _ hvA) (wvs_cons (WV.tp tt _ hv3) wvs_nil))) ?_ ?_ ((g3.new hp).new hp2) ((k1'.trans k2).trans (k4.trans ((Kp.new hp).trans (Kp.new hp2))))
  · unfold W.Ok3
    refine ⟨by show 2 ≤ 3; decide, W.oks3_of fun t h => ?_⟩
    simp only [List.mem_cons, List.not_mem_nil, or_false] at h
    rcases h with rfl | rfl <;> assumption
  · rw [W.dep]
    have := W.deps_le (ws := [t1, t3]) (n := 3) fun t h => by
      simp only [List.mem_cons, List.not_mem_nil, or_false] at h
      rcases h with rfl | rfl <;> assumption
    omega
theorem sc__law_wide : FnScope ["_law_rng", "_law_tree_here"] ["_law_rng"] (defScope s__law_wide) := ⟨rfl, rfl, rfl, by decide +kernel, rfl, by decide +kernel, by decide +kernel⟩
theorem ok_wide (D : Df K mg "_law_wide" s__law_wide ["_law_rng"]) (bi : Bi mg) (c_law_draw : Cal P w K mg base 1 "_law_draw" ["_law_rng", "_law_many"] spDraw) (c_law_great : Cal P w K mg base 3 "_law_great" ["_law_rng"] spGreat) (c_law_word : Cal P w K mg base 6 "_law_word" ["_law_rng"] (spWord K 4)) :
    Cal P w K mg base 7 "_law_wide" ["_law_rng"] (spWord K 6) := by
  refine D.ok sc__law_wide (fun vs H Q E h => ?_) (fun f cdv A outer s H vs Q E hr h => ?_)
  · obtain ⟨r, l, rfl, _⟩ := h
    rfl
  obtain ⟨r, l, rfl, g, q⟩ := h
  refine ⟨_, (pss_cons (ps_set (i := 1) sc__law_wide.nd rfl (.inl rfl) (pe_own c_law_word hr (by omega) (by rfl) (pa_cons (pv 0) pa_nil)))
      (C8.pss_cut (ps_if (pt_cmpR op_eq (pe_own c_law_draw hr (by omega) (by rfl) (pa_cons (pv 0) (pa_cons pe_int pa_nil))) pe_int (nomark _)) (pss_one (ps_set (i := 1) sc__law_wide.nd rfl (.inl rfl) (pe_tup (pa_cons pe_str (pa_cons (pv 1) (pa_cons (pe_own c_law_great hr (by omega) (by rfl) (pa_cons (pv 0) pa_nil)) pa_nil)))))) pss_nil)
      (pss_one (ps_ret (pe_ifExp (pt_cmpR op_eq (pe_own c_law_draw hr (by omega) (by rfl) (pa_cons (pv 0) (pa_cons pe_int pa_nil))) pe_int (nomark _)) (pe_tup (pa_cons pe_str (pa_cons (pe_tup (pa_cons (pv 1) (pa_cons (pe_tup (pa_cons pe_str (pa_cons (pe_tup (pa_cons pe_str (pa_cons pe_str pa_nil))) (pa_cons (pe_own c_law_great hr (by omega) (by rfl) (pa_cons (pv 0) pa_nil)) pa_nil)))) pa_nil))) pa_nil))) (pv 1)))))), ?_⟩
  refine ⟨_, rfl, r, l, rfl, g, fun v1 t1 H1 hv1 ho1 hd1 g1 k1 => ?_⟩
  refine ⟨fun σ' H' => ∃ v t, σ' = [some (.ref r), some v] ∧ WV K H' v t ∧ t.Ok3 abc ∧ t.dep ≤ 5 ∧ Rng H' r l ∧ Kp r H H', ?_, ?_⟩
  · refine ⟨_, rfl, r, l, _, rfl, by decide, by decide, g1, fun v2 H2 a2 b2 g2 k2 => ?_⟩
    obtain ⟨z1, hz1⟩ := g1.lst
    have hv2 := WV.tp (k2.tp hz1) _ hv1
    refine ⟨rfl, _, rfl, ite2 (fun _ => ?_) (fun _ => ?_)⟩
    · refine ⟨_, rfl, _, rfl, r, l, rfl, g2, fun m H3 m1 m2 g3 k3 => ?_⟩
      refine ⟨(by show 3 ≤ sizeLine; decide), fun p hp => ?_⟩
      obtain ⟨z2, hz2⟩ := g2.lst
      exact ⟨_, .times t1 m, rfl, wv_times (SqT.of upd_same) (WV.tp ((k3.tp hz2).trans (tp_new hp)) _ hv2), by unfold W.Ok3; exact ⟨by omega, m2, ho1⟩, by rw [W.dep]; omega, g3.new hp, (k1.trans k2).trans (k3.trans (Kp.new hp))⟩
    · exact ⟨_, t1, rfl, hv2, ho1, by omega, g2, k1.trans k2⟩
  rintro σ' H2 ⟨v, t, rfl, hv, ho, hd, g2, k2⟩
  refine ⟨_, rfl, r, l, _, rfl, by decide, by decide, g2, fun v3 H3 a3 b3 g3 k3 => ?_⟩
  obtain ⟨z2, hz2⟩ := g2.lst
  have hv3 := WV.tp (k3.tp hz2) _ hv
  refine ⟨rfl, _, rfl, ite2 (fun _ => ?_) (fun _ => ?_)⟩
  · refine ⟨_, rfl, (by show 2 ≤ sizeLine; decide), fun p1 hp1 => ?_⟩
    refine ⟨_, rfl, r, l, rfl, g3.new hp1, fun m H4 m1 m2 g4 k4 => ?_⟩
    refine ⟨(by show 3 ≤ sizeLine; decide), fun p2 hp2 => ⟨(by show 2 ≤ sizeLine; decide), fun p3 hp3 => ⟨(by show 2 ≤ sizeLine; decide), fun p4 hp4 => ?_⟩⟩⟩
    obtain ⟨z3, hz3⟩ := (g3.new (o := .tup [.str "letter", .str "b"]) hp1).lst
    have tA := k4.tp hz3
    have t2 := tp_new (o := .tup [.str "times", .ref p1, .int m]) hp2
    have t3 := tp_new (o := .tup [v, .ref p2]) hp3
    have t4 := tp_new (o := .tup [.str "join", .ref p3]) hp4
    have hb : WV K H4 (.ref p1) (.ltr "b") := wv_ltr (tA.sq (SqT.of upd_same))
    refine q _ (.join [t, .times (.ltr "b") m]) _ (wv_join (SqT.of upd_same) (t4.sq (SqT.of upd_same)) (wvs_cons (WV.tp ((tp_new hp1).trans (tA.trans (t2.trans (t3.trans t4)))) _ hv3) (wvs_cons (wv_times ((t3.trans t4).sq (SqT.of upd_same)) (WV.tp (t2.trans (t3.trans t4)) _ hb)) wvs_nil))) ?_ ?_ (((g4.new hp2).new hp3).new hp4) ((k2.trans k3).trans ((Kp.new hp1).trans (k4.trans ((Kp.new hp2).trans ((Kp.new hp3).trans (Kp.new hp4))))))
    · unfold W.Ok3
      refine ⟨by show 2 ≤ 3; decide, W.oks3_of fun x h => ?_⟩
      simp only [List.mem_cons, List.not_mem_nil, or_false] at h
      rcases h with rfl | rfl
      · exact ho
      · unfold W.Ok3
        exact ⟨by omega, m2, by unfold W.Ok3; decide⟩
    · rw [W.dep]
      have := W.deps_le (ws := [t, .times (.ltr "b") m]) (n := 5) fun x h => by
        simp only [List.mem_cons, List.not_mem_nil, or_false] at h
        rcases h with rfl | rfl
        · exact hd
        · rw [W.dep, W.dep]
          decide
      omega
  · exact ⟨_, rfl, q _ _ _ hv3 ho (by omega) g3 (k2.trans k3)⟩

end
end SW

set_option Elab.async false
set_option linter.all false
set_option maxRecDepth 100000
set_option maxHeartbeats 4000000
namespace SW
open PySem PySem.Spec PyProof.Rows L2
section
variable {P : Program} {w : World} {K : PySem.W.Frag} {mg : Str → Option Value} {base : Heap}
/-! ### _inner, at valid numbers -/
def spInnerN (K : PySem.W.Frag) : Sp := fun vs H Q _ => ∃ v t i u, vs = [v, .int i] ∧ WV K H v t ∧ t.Ok abc ∧ t.stp i = some u ∧ (∀ x H', WV K H' x u → Same H H' → Q x H')
theorem sc__inner : FnScope ["word", "number", "kind"] ["word", "number"] (defScope s__inner) := ⟨rfl, rfl, rfl, by decide +kernel, rfl, by decide +kernel, by decide +kernel⟩
theorem ok_innerN {tm : Tok} (D : Df K mg "_inner" s__inner ["word", "number"]) (bi : Bi mg) (mMAX : mg "MAX_COPIES" = some (.int 1000000000000000000000000000000 tm)) :
    Cal P w K mg base 5 "_inner" ["word", "number"] (spInnerN K) := by
  refine D.ok sc__inner (fun vs H Q E h => ?_) (fun f cdv A outer s H vs Q E hr h => ?_)
  · obtain ⟨v, t, i, u, rfl, _⟩ := h
    rfl
  obtain ⟨v, t, i, u0, rfl, hv, ho, hst, q0⟩ := h
  have z : t.stp i = none → False := fun h => by rw [hst] at h; cases h
  have q : ∀ u x H', t.stp i = some u → WV K H' x u → Same H H' → Q x H' := fun u x H' h hx k => by
    rw [hst] at h
    cases h
    exact q0 x H' hx k
  refine ⟨_, (pss_cons (ps_set (i := 2) sc__inner.nd rfl (.inl rfl) (pe_ix ix_tup (pv 0) pe_int (fun _ _ => rfl)))
      (pss_cons (ps_if (PW.pt (pw_and (pt_cmpR op_eq (pv 2) pe_str (nomark _)) (pw_and1 (pt_chain op_le op_lt pe_int (pv 1) (pe_callB call_len_seq (by rfl) bi.len PySem.boot_len (pa_cons (pe_ix ix_tup (pv 0) pe_int (fun _ _ => rfl)) pa_nil)))))) (pss_one (ps_ret (pe_ix ix_tup (pe_ix ix_tup (pv 0) pe_int (fun _ _ => rfl)) (pv 1) (fun _ _ => rfl)))) pss_nil)
      (pss_cons (ps_if (PW.pt (pw_and (pt_cmpR op_eq (pv 2) pe_str (nomark _)) (pw_and1 (pt_chain op_le op_lt pe_int (pv 1) (pe_ix ix_tup (pv 0) pe_int (fun _ _ => rfl)))))) (pss_one (ps_ret (pe_ix ix_tup (pv 0) pe_int (fun _ _ => rfl)))) pss_nil)
      (pss_cons (ps_if (PW.pt (pw_and (pt_cmpR op_in_seq (pv 2) (pe_tup (pa_cons pe_str (pa_cons pe_str pa_nil))) (by rfl)) (pw_and1 (pt_chain op_le op_le pe_int (pv 1) (pe_glob (v := .int 1000000000000000000000000000000) (by rfl) mMAX ⟨_, rfl⟩))))) (pss_one (ps_ret (pe_ix ix_tup (pv 0) pe_int (fun _ _ => rfl)))) pss_nil)
      pss_never)))), ?_⟩
  have at_ := hv.at
  cases at_ with
  | emp e s =>
    cases e
    refine ⟨_, rfl, _, _, _, _, rfl, rfl, s, rfl, ?_⟩
    refine ⟨_, rfl, rfl, eq_no (by decide +kernel) ?_⟩
    refine ⟨_, rfl, rfl, eq_no (by decide +kernel) ?_⟩
    refine ⟨_, rfl, (by show 2 ≤ sizeLine; decide), fun p hp => ?_⟩
    refine ⟨p, _, rfl, .inr (SqT.of upd_same), rfl, rfl, in_no ["right", "left"] (by decide +kernel) ?_⟩
    exact (z rfl).elim
  | nam e s =>
    unfold W.Ok at ho
    exact ho.elim
  | ltr e s =>
    cases e
    refine ⟨_, rfl, _, _, _, _, rfl, rfl, s, rfl, ?_⟩
    refine ⟨_, rfl, rfl, eq_no (by decide +kernel) ?_⟩
    refine ⟨_, rfl, rfl, eq_no (by decide +kernel) ?_⟩
    refine ⟨_, rfl, (by show 2 ≤ sizeLine; decide), fun p hp => ?_⟩
    refine ⟨p, _, rfl, .inr (SqT.of upd_same), rfl, rfl, in_no ["right", "left"] (by decide +kernel) ?_⟩
    exact (z rfl).elim
  | @join a b xs ws e s s2 hw =>
    cases e
    have hl := hw.length
    refine ⟨_, rfl, _, _, _, _, rfl, rfl, s, rfl, ?_⟩
    refine ⟨_, rfl, rfl, eq_yes rfl ?_⟩
    refine ⟨_, rfl, _, _, rfl, rfl, _, rfl, ite2 (fun h0 => ?_) (fun h0 => ?_)⟩
    · have h0' : 0 ≤ i := of_decide_eq_true h0
      refine ⟨_, rfl, _, _, _, _, rfl, rfl, s, rfl, b, xs, rfl, .inr s2, _, _, rfl, rfl, _, rfl, ite2 (fun h1 => ?_) (fun h1 => ?_)⟩
      · have h1' : i < ((xs.length : Nat) : Int) := of_decide_eq_true h1
        have hi : i.toNat < xs.length := by omega
        obtain ⟨u, eu, hu⟩ := hw.get (List.getElem?_eq_getElem hi)
        refine ⟨_, rfl, _, _, _, _, rfl, rfl, s, rfl, _, rfl, _, _, _, _, rfl, rfl, s2, at_of (j := i.toNat) (by omega) (List.getElem?_eq_getElem hi), ?_⟩
        exact q u _ H (by rw [stpJ, if_pos ⟨h0', by omega⟩]; exact eu) hu (Same.refl H)
      · have h1' : ¬ i < ((xs.length : Nat) : Int) := of_decide_eq_false (Bool.eq_false_iff.mpr h1)
        have hz := z (by rw [stpJ, if_neg (by omega)])
        refine ⟨_, rfl, rfl, eq_no (by decide +kernel) ?_⟩
        refine ⟨_, rfl, (by show 2 ≤ sizeLine; decide), fun p hp => ?_⟩
        refine ⟨p, _, rfl, .inr (SqT.of upd_same), rfl, rfl, in_no ["right", "left"] (by decide +kernel) ?_⟩
        exact hz.elim
    · have h0' : ¬ 0 ≤ i := of_decide_eq_false (Bool.eq_false_iff.mpr h0)
      have hz := z (by rw [stpJ, if_neg (by omega)])
      refine ⟨_, rfl, ?_⟩
      refine ⟨_, rfl, rfl, eq_no (by decide +kernel) ?_⟩
      refine ⟨_, rfl, (by show 2 ≤ sizeLine; decide), fun p hp => ?_⟩
      refine ⟨p, _, rfl, .inr (SqT.of upd_same), rfl, rfl, in_no ["right", "left"] (by decide +kernel) ?_⟩
      exact hz.elim
  | @times a x t n e s hx =>
    cases e
    refine ⟨_, rfl, _, _, _, _, rfl, rfl, s, rfl, ?_⟩
    refine ⟨_, rfl, rfl, eq_no (by decide +kernel) ?_⟩
    refine ⟨_, rfl, rfl, eq_yes rfl ?_⟩
    refine ⟨_, rfl, _, _, rfl, rfl, _, rfl, ite2 (fun h0 => ?_) (fun h0 => ?_)⟩
    · have h0' : 0 ≤ i := of_decide_eq_true h0
      refine ⟨_, rfl, _, _, _, _, rfl, rfl, s, rfl, _, _, rfl, rfl, _, rfl, ite2 (fun h1 => ?_) (fun h1 => ?_)⟩
      · have h1' : i < n := of_decide_eq_true h1
        refine ⟨_, rfl, _, _, _, _, rfl, rfl, s, rfl, ?_⟩
        exact q t _ H (stp_times h0' h1') hx (Same.refl H)
      · have h1' : ¬ i < n := of_decide_eq_false (Bool.eq_false_iff.mpr h1)
        have hz := z (by rw [stpT, if_neg (by omega)])
        refine ⟨_, rfl, (by show 2 ≤ sizeLine; decide), fun p hp => ?_⟩
        refine ⟨p, _, rfl, .inr (SqT.of upd_same), rfl, rfl, in_no ["right", "left"] (by decide +kernel) ?_⟩
        exact hz.elim
    · have h0' : ¬ 0 ≤ i := of_decide_eq_false (Bool.eq_false_iff.mpr h0)
      have hz := z (by rw [stpT, if_neg (by omega)])
      refine ⟨_, rfl, ?_⟩
      refine ⟨_, rfl, (by show 2 ≤ sizeLine; decide), fun p hp => ?_⟩
      refine ⟨p, _, rfl, .inr (SqT.of upd_same), rfl, rfl, in_no ["right", "left"] (by decide +kernel) ?_⟩
      exact hz.elim
  | @right a x t e s hx =>
    cases e
    refine ⟨_, rfl, _, _, _, _, rfl, rfl, s, rfl, ?_⟩
    refine ⟨_, rfl, rfl, eq_no (by decide +kernel) ?_⟩
    refine ⟨_, rfl, rfl, eq_no (by decide +kernel) ?_⟩
    refine ⟨_, rfl, (by show 2 ≤ sizeLine; decide), fun p hp => ?_⟩
    refine ⟨p, _, rfl, .inr (SqT.of upd_same), rfl, rfl, in_yes ["right", "left"] (by decide +kernel) ?_⟩
    have k1 : Same H (upd H p (.tup [.str "right", .str "left"])) := same_new hp
    refine ⟨_, rfl, _, _, rfl, rfl, _, rfl, ite2 (fun h0 => ?_) (fun h0 => ?_)⟩
    · have h0' : 0 ≤ i := of_decide_eq_true h0
      refine ⟨_, _, rfl, rfl, _, rfl, ite2 (fun h1 => ?_) (fun h1 => ?_)⟩
      · have h1' : i ≤ 1000000000000000000000000000000 := of_decide_eq_true h1
        refine ⟨_, rfl, _, _, _, _, rfl, rfl, (tp_same k1).sq s, rfl, ?_⟩
        exact q t _ _ (stp_right h0' h1') (WV.tp (tp_same k1) _ hx) k1
      · have h1' : ¬ i ≤ 1000000000000000000000000000000 := of_decide_eq_false (Bool.eq_false_iff.mpr h1)
        exact (z (by rw [stpR]; exact if_neg (fun h => h1' h.2))).elim
    · have h0' : ¬ 0 ≤ i := of_decide_eq_false (Bool.eq_false_iff.mpr h0)
      refine ⟨_, rfl, ?_⟩
      exact (z (by rw [stpR]; exact if_neg (fun h => h0' h.1))).elim
  | @left a x t e s hx =>
    cases e
    refine ⟨_, rfl, _, _, _, _, rfl, rfl, s, rfl, ?_⟩
    refine ⟨_, rfl, rfl, eq_no (by decide +kernel) ?_⟩
    refine ⟨_, rfl, rfl, eq_no (by decide +kernel) ?_⟩
    refine ⟨_, rfl, (by show 2 ≤ sizeLine; decide), fun p hp => ?_⟩
    refine ⟨p, _, rfl, .inr (SqT.of upd_same), rfl, rfl, in_yes ["right", "left"] (by decide +kernel) ?_⟩
    have k1 : Same H (upd H p (.tup [.str "right", .str "left"])) := same_new hp
    refine ⟨_, rfl, _, _, rfl, rfl, _, rfl, ite2 (fun h0 => ?_) (fun h0 => ?_)⟩
    · have h0' : 0 ≤ i := of_decide_eq_true h0
      refine ⟨_, _, rfl, rfl, _, rfl, ite2 (fun h1 => ?_) (fun h1 => ?_)⟩
      · have h1' : i ≤ 1000000000000000000000000000000 := of_decide_eq_true h1
        refine ⟨_, rfl, _, _, _, _, rfl, rfl, (tp_same k1).sq s, rfl, ?_⟩
        exact q t _ _ (stp_left h0' h1') (WV.tp (tp_same k1) _ hx) k1
      · have h1' : ¬ i ≤ 1000000000000000000000000000000 := of_decide_eq_false (Bool.eq_false_iff.mpr h1)
        exact (z (by rw [stpL]; exact if_neg (fun h => h1' h.2))).elim
    · have h0' : ¬ 0 ≤ i := of_decide_eq_false (Bool.eq_false_iff.mpr h0)
      refine ⟨_, rfl, ?_⟩
      exact (z (by rw [stpL]; exact if_neg (fun h => h0' h.1))).elim
/-! ### _nodes_on_the_way, all nodes told -/
/-- the nodes on the way -/
def Nds (K : PySem.W.Frag) (H : Hp) (t : W) (ns : List Int) (xs : List V) : Prop := ∀ (i : Nat) x, xs[i]? = some x → ∃ u, t.go (ns.take i) = some u ∧ WV K H x u
def spNodesN (K : PySem.W.Frag) : Sp := fun vs H Q _ => ∃ v t a ns, vs = [v, .ref a] ∧ WV K H v t ∧ t.Ok abc ∧ SqT K H a (ns.map V.int) ∧ ns.length ≤ 1000 ∧
  (∀ c p xs H', t.go ns = some (.ltr c) → H' p = some (.lst xs) → xs.length = ns.length + 1 → Nds K H' t ns xs → Same H H' → Q (.ref p) H') ∧ Vd t ns
theorem sc__nodes_on_the_way : FnScope ["word", "address", "nodes", "number"] ["word", "address"] (defScope s__nodes_on_the_way) := ⟨rfl, rfl, rfl, by decide +kernel, rfl, by decide +kernel, by decide +kernel⟩
theorem ok_nodesN (D : Df K mg "_nodes_on_the_way" s__nodes_on_the_way ["word", "address"]) (bi : Bi mg) (c_inner : Cal P w K mg base 5 "_inner" ["word", "number"] (spInnerN K)) :
    Cal P w K mg base 6 "_nodes_on_the_way" ["word", "address"] (spNodesN K) := by
  refine D.ok sc__nodes_on_the_way (fun vs H Q E h => ?_) (fun f cdv A outer s H vs Q E hr h => ?_)
  · obtain ⟨v, t, a, ns, rfl, _⟩ := h
    rfl
  obtain ⟨v, t, a, ns, rfl, hv, ho, ha, hn, q, vd⟩ := h
  refine ⟨_, (pss_cons (ps_set (i := 2) sc__nodes_on_the_way.nd rfl (.inl rfl) (pe_lst (pa_cons (pv 0) pa_nil)))
      (pss_cons (ps_for PassesOwn.never rfl (pi_tup (pv 1)) (pg_name (i := 3) sc__nodes_on_the_way.nd rfl (.inl rfl)) (pss_one (ps_expr (pe_bm PySem.F.plainAttrs_list PySem.F.slot_list_append PySem.F.type_list_append mt_append (pv 2) (pa_cons (pe_own c_inner hr (by omega) (by rfl) (pa_cons (pe_ix ix_list (pv 2) (pe_un un_neg pe_int) (fun _ _ => rfl)) (pa_cons (pv 3) pa_nil))) pa_nil)))))
      (pss_cons (ps_if (pt_cmpR op_ne (pe_ix ix_tup (pe_ix ix_list (pv 2) (pe_un un_neg pe_int) (fun _ _ => rfl)) pe_int (fun _ _ => rfl)) pe_str (nomark _)) pss_never pss_nil)
      (pss_one (ps_ret (pv 2)))))), ?_⟩
  refine ⟨_, rfl, (by show 1 ≤ sizeLine; decide), fun p hp => ?_⟩
  have k0 : Same H (upd H p (.lst [v])) := same_new hp
  refine ⟨_, rfl, a, rfl, ⟨_, (tp_same k0).sq ha⟩, for_tup (xs := ns.map V.int) (fun i σ' H' => ∃ xs x u y3, σ' = [some v, some (.ref a), some (.ref p), y3] ∧ H' p = some (.lst (xs ++ [x])) ∧ xs.length = i ∧ WV K H' x u ∧ t.go (ns.take i) = some u ∧ Same H H' ∧ Nds K H' t ns (xs ++ [x])) ?_ ?_ ?_ ?_⟩
  · refine ⟨[], v, t, none, rfl, upd_same, rfl, WV.tp (tp_same k0) _ hv, go_nil _, k0, fun i x h => ?_⟩
    cases i with
    | zero =>
      cases h
      exact ⟨t, go_nil _, WV.tp (tp_same k0) _ hv⟩
    | succ i => cases h
  · rintro i σ' H' _ ⟨xs, x, u, y3, rfl, hl, hlen, hx, hg, k, hall⟩
    exact (tp_same k).sq ha
  · rintro i y σ' H' hy ⟨xs, x, u, y3, rfl, hl, hlen, hx, hg, k, hall⟩
    rw [List.getElem?_map] at hy
    cases e : ns[i]? with
    | none => rw [e] at hy; cases hy
    | some j =>
      rw [e] at hy
      cases hy
      have hi : i < ns.length := (List.getElem?_eq_some_iff.mp e).1
      have et : ns.take (i + 1) = ns.take i ++ [j] := by rw [List.take_add_one, e]; rfl
      have ou := (go_ok _ ho hg).1
      refine ⟨_, rfl, .inl ⟨rfl, _, SqL.of hl⟩, _, rfl, _, rfl, _, _, _, _, rfl, rfl, SqL.of hl, atI_last, _, rfl, ?_⟩
      obtain ⟨u2, es'⟩ := vd_take vd (i + 1)
      have es : u.stp j = some u2 := by
        rw [et, go_app_some hg] at es'
        cases e2 : u.stp j with
        | none => rw [go_none e2] at es'; cases es'
        | some z => rw [go_cons e2, go_nil] at es'; exact es'
      refine ⟨x, u, j, u2, rfl, hx, ou, es, fun x2 H2 hx2 k2 => ?_⟩
      · have hl2 := k2 _ _ hl
        refine ⟨p, _, x2, rfl, rfl, hl2, ?_, xs ++ [x], x2, u2, _, rfl, upd_same, ?_, ?_, ?_, ?_, ?_⟩
        · rw [List.length_append, hlen]
          exact Nat.lt_of_le_of_lt (show _ ≤ 2000 by show i + 1 ≤ 2000; omega) (by decide)
        · rw [List.length_append, hlen]; rfl
        · exact WV.tp (tp_set hl2) _ hx2
        · rw [et, go_app_some hg, go_cons es, go_nil]
        · intro b o hb
          by_cases hbp : b = p
          · rw [hbp, hp] at hb; cases hb
          · rw [upd_ne hbp]
            exact k2 _ _ (k _ _ hb)
        · intro i' x' h'
          have tset := tp_set (o := .lst ((xs ++ [x]) ++ [x2])) hl2
          by_cases hi' : i' < (xs ++ [x]).length
          · rw [List.getElem?_append_left hi'] at h'
            obtain ⟨u', e1, e2⟩ := hall i' x' h'
            exact ⟨u', e1, WV.tp ((tp_same k2).trans tset) _ e2⟩
          · rw [List.getElem?_append_right (by omega)] at h'
            have hz : i' - (xs ++ [x]).length = 0 := by
              have h1 := (List.getElem?_eq_some_iff.mp h').1
              rw [List.length_singleton] at h1
              omega
            rw [hz] at h'
            cases h'
            have e : i' = i + 1 := by
              rw [List.length_append, hlen] at hz hi'
              have hz' : i' - (i + 1) = 0 := hz
              have hi'' : ¬ i' < i + 1 := hi'
              omega
            subst e
            exact ⟨u2, by rw [et, go_app_some hg, go_cons es, go_nil], WV.tp tset _ hx2⟩
  · rintro σ' H' ⟨xs, x, u, y3, rfl, hl, hlen, hx, hg, k, hall⟩
    rw [List.length_map, List.take_length] at hg
    have at_ := hx.at
    have hb : u.isL = false → False := fun n => by
      obtain ⟨c, h⟩ := vd
      exact bad_of hg n c h
    cases at_ with
    | ltr e s =>
      cases e
      refine ⟨_, rfl, _, rfl, _, _, _, _, rfl, rfl, SqL.of hl, atI_last, _, _, _, _, rfl, rfl, s, rfl, rfl, ne_no rfl ?_⟩
      exact ⟨_, rfl, q _ p (xs ++ [.ref _]) H' hg hl (by rw [List.length_append, hlen, List.length_map]; rfl) hall k⟩
    | nam e s =>
      cases e
      exact ⟨_, rfl, _, rfl, _, _, _, _, rfl, rfl, SqL.of hl, atI_last, _, _, _, _, rfl, rfl, s, rfl, rfl, ne_yes (by decide +kernel) (hb rfl).elim⟩
    | emp e s =>
      cases e
      exact ⟨_, rfl, _, rfl, _, _, _, _, rfl, rfl, SqL.of hl, atI_last, _, _, _, _, rfl, rfl, s, rfl, rfl, ne_yes (by decide +kernel) (hb rfl).elim⟩
    | join e s s2 hw =>
      cases e
      exact ⟨_, rfl, _, rfl, _, _, _, _, rfl, rfl, SqL.of hl, atI_last, _, _, _, _, rfl, rfl, s, rfl, rfl, ne_yes (by decide +kernel) (hb rfl).elim⟩
    | times e s hx =>
      cases e
      exact ⟨_, rfl, _, rfl, _, _, _, _, rfl, rfl, SqL.of hl, atI_last, _, _, _, _, rfl, rfl, s, rfl, rfl, ne_yes (by decide +kernel) (hb rfl).elim⟩
    | right e s hx =>
      cases e
      exact ⟨_, rfl, _, rfl, _, _, _, _, rfl, rfl, SqL.of hl, atI_last, _, _, _, _, rfl, rfl, s, rfl, rfl, ne_yes (by decide +kernel) (hb rfl).elim⟩
    | left e s hx =>
      cases e
      exact ⟨_, rfl, _, rfl, _, _, _, _, rfl, rfl, SqL.of hl, atI_last, _, _, _, _, rfl, rfl, s, rfl, rfl, ne_yes (by decide +kernel) (hb rfl).elim⟩

end
end SW

set_option Elab.async false
set_option linter.all false
set_option maxRecDepth 100000
set_option maxHeartbeats 4000000
namespace SW
open PySem PySem.Spec PyProof.Rows L2
section
variable {P : Program} {w : World} {K : PySem.W.Frag} {mg : Str → Option Value} {base : Heap}
/-! ### _pieces_beside -/
theorem sl_preW {K : PySem.W.Frag} {H : Hp} {a : Addr} {xs : List V} {i : Int} {k : Nat} {Q : VK} (hi : i = (k : Int)) (ha : SqT K H a xs) (q : ∀ b H', SqT K H' b (xs.take k) → Same H H' → Q (.ref b) H') : rSlA K (.ref a) none (some i) H Q := by
  subst hi
  refine ⟨a, _, rfl, ha, fun h => q a H ?_ (Same.refl H), fun _ p hp => q p _ (by rw [cut_to]; exact SqT.of upd_same) (same_new hp)⟩
  have h2 := h.2
  rw [HT.sIx_nat] at h2
  rw [List.take_of_length_le (by omega)]
  exact ha
theorem sl_sufW {K : PySem.W.Frag} {σ : L2.St} {H : Hp} {a : Addr} {xs : List V} {i : Int} {k : Nat} {Q : VK} (hi : i = (k : Int)) (ha : SqT K H a xs) (q : ∀ b H', SqT K H' b (xs.drop k) → Same H H' → Q (.ref b) H') : tNoPart σ H fun u H3 => rSlA K (.ref a) (some i) u H3 Q := by
  show rSlA K (.ref a) (some i) none H Q
  subst hi
  have e : cutV xs (some (k : Int)) none = xs.drop k := by
    unfold cutV
    rw [HT.sIx_nat, HT.sIx_none]
    by_cases hk : k ≤ xs.length
    · rw [Nat.min_eq_left hk]
      exact List.take_of_length_le (by rw [List.length_drop]; omega)
    · rw [Nat.min_eq_right (by omega), Nat.sub_self, List.take_zero, List.drop_eq_nil_of_le (by omega)]
  refine ⟨a, _, rfl, ha, fun h => q a H ?_ (Same.refl H), fun _ p hp => q p _ (by rw [e]; exact SqT.of upd_same) (same_new hp)⟩
  have h2 := h.1
  rw [HT.sIx_nat] at h2
  have h3 : xs.drop k = xs := by
    by_cases hk : k = 0
    · rw [hk, List.drop_zero]
    · have : xs.length = 0 := by omega
      rw [List.length_eq_zero_iff.mp this, List.drop_nil]
  rw [h3]
  exact ha
theorem wvs_take {K : PySem.W.Frag} {H : Hp} : ∀ {ws : List W} {xs : List V} (k : Nat), WVs K H xs ws → WVs K H (xs.take k) (ws.take k)
  | [], xs, k, h => by
    unfold WVs W.dats at h
    cases h
    rw [List.take_nil, List.take_nil]
    exact wvs_nil
  | w :: r, xs, 0, h => by rw [List.take_zero, List.take_zero]; exact wvs_nil
  | w :: r, xs, k + 1, h => by
    unfold WVs W.dats at h
    cases h with | cons a b => ?_
    rw [List.take_succ_cons, List.take_succ_cons]
    exact wvs_cons a (wvs_take (ws := r) k b)
theorem wvs_drop {K : PySem.W.Frag} {H : Hp} : ∀ {ws : List W} {xs : List V} (k : Nat), WVs K H xs ws → WVs K H (xs.drop k) (ws.drop k)
  | [], xs, k, h => by
    unfold WVs W.dats at h
    cases h
    rw [List.drop_nil, List.drop_nil]
    exact wvs_nil
  | w :: r, xs, 0, h => by rw [List.drop_zero, List.drop_zero]; exact h
  | w :: r, xs, k + 1, h => by
    unfold WVs W.dats at h
    cases h with | cons a b => ?_
    rw [List.drop_succ_cons, List.drop_succ_cons]
    exact wvs_drop (ws := r) k b
theorem wvs_app {K : PySem.W.Frag} {H : Hp} : ∀ {ws zs : List W} {xs ys : List V}, WVs K H xs ws → WVs K H ys zs → WVs K H (xs ++ ys) (ws ++ zs)
  | [], zs, xs, ys, h, g => by
    unfold WVs W.dats at h
    cases h
    exact g
  | w :: r, zs, xs, ys, h, g => by
    unfold WVs W.dats at h
    cases h with | cons a b => ?_
    exact wvs_cons a (wvs_app (ws := r) b g)
def spPieces (K : PySem.W.Frag) : Sp := fun vs H Q _ => ∃ v t i u, vs = [v, .int i] ∧ WV K H v t ∧ t.Ok abc ∧ t.stp i = some u ∧
  ∀ p b1 b2 xs ys H', SqT K H' p [.ref b1, .ref b2] → SqT K H' b1 xs → SqT K H' b2 ys → WVs K H' xs (bef repW t i) → WVs K H' ys (aft repW t i) → Same H H' → Q (.ref p) H'
theorem sc__pieces_beside : FnScope ["word", "number", "kind", "inner"] ["word", "number"] (defScope s__pieces_beside) := ⟨rfl, rfl, rfl, by decide +kernel, rfl, by decide +kernel, by decide +kernel⟩
theorem ok_pieces (D : Df K mg "_pieces_beside" s__pieces_beside ["word", "number"]) (crepeated : Cal P w K mg base 1 "repeated" ["word", "many"] (spRep K)) : Cal P w K mg base 2 "_pieces_beside" ["word", "number"] (spPieces K) := by
  refine D.ok sc__pieces_beside (fun vs H Q E h => ?_) (fun f cdv A outer s H vs Q E hr h => ?_)
  · obtain ⟨v, t, i, u, rfl, _⟩ := h
    rfl
  obtain ⟨v, t, i, u, rfl, hv, ho, hst, q⟩ := h
  refine ⟨_, (pss_cons (ps_par (i := 2) (j := 3) rfl sc__pieces_beside.nd rfl rfl (by decide) rfl rfl (pa_cons (pe_ix ix_tup (pv 0) pe_int (fun _ _ => rfl)) (pa_cons (pe_ix ix_tup (pv 0) pe_int (fun _ _ => rfl)) pa_nil)) (by rfl))
      (pss_cons (ps_if (pt_cmpR op_eq (pv 2) pe_str (nomark _)) (pss_one (ps_ret (pe_tup (pa_cons (pe_slice sl_tupA (pv 3) po_none (po_some (pv 1))) (pa_cons (pe_slice sl_tupA (pv 3) (po_some (pe_op op_add (pv 1) pe_int)) po_none) pa_nil))))) pss_nil)
      (pss_cons (ps_if (pt_cmpR op_eq (pv 2) pe_str (nomark _)) (pss_one (ps_ret (pe_tup (pa_cons (pe_tup (pa_cons (pe_own crepeated hr (by omega) (by rfl) (pa_cons (pv 3) (pa_cons (pv 1) pa_nil))) pa_nil)) (pa_cons (pe_tup (pa_cons (pe_own crepeated hr (by omega) (by rfl) (pa_cons (pv 3) (pa_cons (pe_op op_sub (pe_op op_sub (pe_ix ix_tup (pv 0) pe_int (fun _ _ => rfl)) (pv 1)) pe_int) pa_nil))) pa_nil)) pa_nil))))) pss_nil)
      (pss_cons (ps_if (pt_cmpR op_eq (pv 2) pe_str (nomark _)) (pss_one (ps_ret (pe_tup (pa_cons (pe_tup (pa_cons (pe_own crepeated hr (by omega) (by rfl) (pa_cons (pv 3) (pa_cons (pv 1) pa_nil))) pa_nil)) (pa_cons (pe_tup (pa_cons (pv 0) pa_nil)) pa_nil))))) pss_nil)
      (pss_one (ps_ret (pe_tup (pa_cons (pe_tup (pa_cons (pv 0) pa_nil)) (pa_cons (pe_tup (pa_cons (pe_own crepeated hr (by omega) (by rfl) (pa_cons (pv 3) (pa_cons (pv 1) pa_nil))) pa_nil)) pa_nil))))))))), ?_⟩
  have at_ := hv.at
  cases at_ with
  | emp e s => cases hst
  | nam e s => cases hst
  | ltr e s => cases hst
  | @join a b xs ws e s s2 hw =>
    cases e
    rw [stpJ] at hst
    split at hst
    · rename_i hh
      obtain ⟨k, rfl⟩ := Int.eq_ofNat_of_zero_le hh.1
      refine ⟨_, rfl, _, _, _, _, rfl, rfl, s, rfl, _, rfl, _, _, _, _, rfl, rfl, s, rfl, _, _, rfl, ?_⟩
      refine ⟨_, rfl, rfl, eq_yes rfl ?_⟩
      refine ⟨_, rfl, _, rfl, _, rfl, sl_preW rfl s2 (fun b1 H1 hb1 k1 => ?_)⟩
      refine ⟨_, rfl, _, rfl, _, _, rfl, rfl, _, rfl, sl_sufW (i := (k : Int) + 1) (k := k + 1) (by omega) ((tp_same k1).sq s2) (fun b2 H2 hb2 k2 => ?_)⟩
      refine ⟨(by show 2 ≤ sizeLine; decide), fun p hp => ?_⟩
      have S3 : Same H (upd H2 p (.tup [.ref b1, .ref b2])) := k1.trans (k2.trans (same_new hp))
      have hw3 := WVs.tp (tp_same S3) _ hw
      exact q p b1 b2 _ _ _ (SqT.of upd_same) (((tp_same k2).trans (tp_new hp)).sq hb1) ((tp_new hp).sq hb2) (wvs_take k hw3) (wvs_drop (k + 1) hw3) S3
    · cases hst
  | @times a x t' n e s hx =>
    cases e
    refine ⟨_, rfl, _, _, _, _, rfl, rfl, s, rfl, _, rfl, _, _, _, _, rfl, rfl, s, rfl, _, _, rfl, ?_⟩
    refine ⟨_, rfl, rfl, eq_no (by decide +kernel) ?_⟩
    refine ⟨_, rfl, rfl, eq_yes rfl ?_⟩
    refine ⟨_, rfl, _, rfl, x, t', i, rfl, hx, fun v1 H1 hv1 k1 => ⟨(by show 1 ≤ sizeLine; decide), fun b1 hb1 => ?_⟩⟩
    have t1 := (tp_same k1).trans (tp_new (o := .tup [v1]) hb1)
    refine ⟨_, rfl, _, rfl, _, _, _, _, rfl, rfl, t1.sq s, rfl, _, rfl, _, _, rfl, rfl, _, _, rfl, rfl, x, t', n - i - 1, rfl, WV.tp t1 _ hx, fun v2 H2 hv2 k2 => ⟨(by show 1 ≤ sizeLine; decide), fun b2 hb2 => ⟨(by show 2 ≤ sizeLine; decide), fun p hp => ?_⟩⟩⟩
    have t2 := (tp_same k2).trans ((tp_new (o := .tup [v2]) hb2).trans (tp_new (o := .tup [.ref b1, .ref b2]) hp))
    exact q p b1 b2 _ _ _ (SqT.of upd_same) (t2.sq (SqT.of upd_same)) ((tp_new hp).sq (SqT.of upd_same)) (wvs_cons (WV.tp ((tp_new hb1).trans t2) _ hv1) wvs_nil) (wvs_cons (WV.tp ((tp_new hb2).trans (tp_new hp)) _ hv2) wvs_nil) (k1.trans ((same_new hb1).trans (k2.trans ((same_new hb2).trans (same_new hp)))))
  | @right a x t' e s hx =>
    cases e
    refine ⟨_, rfl, _, _, _, _, rfl, rfl, s, rfl, _, rfl, _, _, _, _, rfl, rfl, s, rfl, _, _, rfl, ?_⟩
    refine ⟨_, rfl, rfl, eq_no (by decide +kernel) ?_⟩
    refine ⟨_, rfl, rfl, eq_no (by decide +kernel) ?_⟩
    refine ⟨_, rfl, rfl, eq_yes rfl ?_⟩
    refine ⟨_, rfl, _, rfl, x, t', i, rfl, hx, fun v1 H1 hv1 k1 => ⟨(by show 1 ≤ sizeLine; decide), fun b1 hb1 => ?_⟩⟩
    refine ⟨_, rfl, (by show 1 ≤ sizeLine; decide), fun b2 hb2 => ⟨(by show 2 ≤ sizeLine; decide), fun p hp => ?_⟩⟩
    have t2 := (tp_new (o := .tup [.ref a]) hb2).trans (tp_new (o := .tup [.ref b1, .ref b2]) hp)
    have S := k1.trans ((same_new (o := .tup [v1]) hb1).trans ((same_new (o := .tup [.ref a]) hb2).trans (same_new (o := .tup [.ref b1, .ref b2]) hp)))
    exact q p b1 b2 _ _ _ (SqT.of upd_same) (t2.sq (SqT.of upd_same)) ((tp_new hp).sq (SqT.of upd_same)) (wvs_cons (WV.tp ((tp_new hb1).trans t2) _ hv1) wvs_nil) (wvs_cons (WV.tp (tp_same S) _ hv) wvs_nil) S
  | @left a x t' e s hx =>
    cases e
    refine ⟨_, rfl, _, _, _, _, rfl, rfl, s, rfl, _, rfl, _, _, _, _, rfl, rfl, s, rfl, _, _, rfl, ?_⟩
    refine ⟨_, rfl, rfl, eq_no (by decide +kernel) ?_⟩
    refine ⟨_, rfl, rfl, eq_no (by decide +kernel) ?_⟩
    refine ⟨_, rfl, rfl, eq_no (by decide +kernel) ?_⟩
    refine ⟨_, rfl, (by show 1 ≤ sizeLine; decide), fun b1 hb1 => ?_⟩
    refine ⟨_, rfl, _, rfl, x, t', i, rfl, WV.tp (tp_new hb1) _ hx, fun v1 H1 hv1 k1 => ⟨(by show 1 ≤ sizeLine; decide), fun b2 hb2 => ⟨(by show 2 ≤ sizeLine; decide), fun p hp => ?_⟩⟩⟩
    have t2 := (tp_new (o := .tup [v1]) hb2).trans (tp_new (o := .tup [.ref b1, .ref b2]) hp)
    have S := (same_new (o := .tup [.ref a]) hb1).trans (k1.trans ((same_new (o := .tup [v1]) hb2).trans (same_new (o := .tup [.ref b1, .ref b2]) hp)))
    exact q p b1 b2 _ _ _ (SqT.of upd_same) (((tp_same k1).trans t2).sq (SqT.of upd_same)) ((tp_new hp).sq (SqT.of upd_same)) (wvs_cons (WV.tp (tp_same S) _ hv) wvs_nil) (wvs_cons (WV.tp t2 _ hv1) wvs_nil) S
/-! ### cut -/
theorem rep_eq : rep = repW := rfl
theorem jnd_eq (ws : List W) : joinW (W.kept ws) = jnd ws := by
  have e : W.kept ws = noEmp ws := by
    unfold W.kept noEmp
    congr 1
  unfold jnd
  rw [e]
  cases noEmp ws with
  | nil => rfl
  | cons w r =>
    cases r with
    | nil => rfl
    | cons x s => rfl
theorem bef_len {t : W} {i : Int} (o : t.Ok abc) (c : W → Int → W) : (bef c t i).length ≤ 16 ∧ (aft c t i).length ≤ 16 := by
  cases t with
  | join ws =>
    unfold W.Ok at o
    show (ws.take i.toNat).length ≤ 16 ∧ (ws.drop (i.toNat + 1)).length ≤ 16
    rw [List.length_take, List.length_drop]
    omega
  | times w n => exact ⟨by show 1 ≤ 16; decide, by show 1 ≤ 16; decide⟩
  | right w => exact ⟨by show 1 ≤ 16; decide, by show 1 ≤ 16; decide⟩
  | left w => exact ⟨by show 1 ≤ 16; decide, by show 1 ≤ 16; decide⟩
  | emp => exact ⟨Nat.zero_le _, Nat.zero_le _⟩
  | ltr c => exact ⟨Nat.zero_le _, Nat.zero_le _⟩
  | nam c => exact ⟨Nat.zero_le _, Nat.zero_le _⟩
theorem pe_ownS {X : Cx} {k j : Nat} {x : Str} {sp : Sp} {p sp_ pos : Pos} {e : Expr} {te : TE} (c : CalR X.prog X.w X.K X.mg X.base k x sp) (hr : Room j X.A) (hk : k ≤ j) (hg : Gl X x) (he : PE X e te) (hd : (x == ("__debug__" : Str)) = false := by decide)
    (hst : starEach [.Starred e sp_] X.env = [(true, eval e X.env)] := by rfl) :
    PE X (.Call (.Name x p) [.Starred e sp_] [] pos) (fun σ H Q => te σ H fun y H1 => ∃ a xs, y = V.ref a ∧ (SqT X.K H1 a xs ∨ SqL X.K H1 a xs) ∧ sp xs H1 Q E0) := by
  obtain ⟨f, F, hm, hK⟩ := c.ex
  exact StX.pe_callS1 (FnR.mono F hk) hr hK hg hm pass0 he hd hst
def spCut (K : PySem.W.Frag) : Sp := fun vs H Q _ => ∃ v t a ns c, vs = [v, .ref a] ∧ WV K H v t ∧ t.Ok3 abc ∧ t.dep ≤ 10 ∧ SqT K H a (ns.map V.int) ∧ t.go ns = some (.ltr c) ∧
  ∀ p v1 v2 H', SqT K H' p [v1, .str c, v2] → WV K H' v1 (jnd (befs rep t ns)) → WV K H' v2 (jnd (afts rep t ns)) → Same H H' → Q (.ref p) H'
theorem sc_cut : FnScope ["word", "address", "nodes", "ahead", "behind", "node", "number", "before", "after"] ["word", "address"] (defScope s_cut) := ⟨rfl, rfl, rfl, by decide +kernel, rfl, by decide +kernel, by decide +kernel⟩
theorem ok_cut (D : Df K mg "cut" s_cut ["word", "address"]) (bi : Bi mg) (c_nodes_on_the_way : Cal P w K mg base 6 "_nodes_on_the_way" ["word", "address"] (spNodesN K)) (c_pieces_beside : Cal P w K mg base 2 "_pieces_beside" ["word", "number"] (spPieces K))
    (cjoined : CalR P w K mg base 1 "joined" (spJoin K)) : Cal P w K mg base 7 "cut" ["word", "address"] (spCut K) := by
  refine D.ok sc_cut (fun vs H Q E h => ?_) (fun f cdv A outer s H vs Q E hr h => ?_)
  · obtain ⟨v, t, a, ns, c, rfl, _⟩ := h
    rfl
  obtain ⟨v, t, a, ns, c, rfl, hv, ho3, hd, ha, hg0, q⟩ := h
  have ho := W.Ok3.ok _ ho3
  have hn : ns.length ≤ 10 := by
    have := (go_ok _ ho hg0).2
    omega
  refine ⟨_, (pss_cons (ps_set (i := 2) sc_cut.nd rfl (.inl rfl) (pe_own c_nodes_on_the_way hr (by omega) (by rfl) (pa_cons (pv 0) (pa_cons (pv 1) pa_nil))))
      (pss_cons (ps_set (i := 3) sc_cut.nd rfl (.inl rfl) (pe_lst pa_nil))
      (pss_cons (ps_set (i := 4) sc_cut.nd rfl (.inl rfl) (pe_lst pa_nil))
      (pss_cons (ps_for PassesOwn.never rfl (pi_zip2 (by rfl) bi.zip (pa_cons (pv 2) (pa_cons (pv 1) pa_nil))) (pg_tup rfl (pgs_cons (pg_name (i := 5) sc_cut.nd rfl (.inl rfl)) (pgs_cons (pg_name (i := 6) sc_cut.nd rfl (.inl rfl)) pgs_nil))) (pss_cons (ps_asg (pe_own c_pieces_beside hr (by omega) (by rfl) (pa_cons (pv 5) (pa_cons (pv 6) pa_nil))) (pg_tup rfl (pgs_cons (pg_name (i := 7) sc_cut.nd rfl (.inl rfl)) (pgs_cons (pg_name (i := 8) sc_cut.nd rfl (.inl rfl)) pgs_nil))))
      (pss_cons (ps_set (i := 3) sc_cut.nd rfl (.inl rfl) (pe_lst (StX.pa_star (pv 3) (StX.pa_star (pv 7) pa_nil))))
      (pss_one (ps_set (i := 4) sc_cut.nd rfl (.inl rfl) (pe_lst (StX.pa_star (pv 8) (StX.pa_star (pv 4) pa_nil))))))))
      (pss_one (ps_ret (pe_tup (pa_cons (pe_ownS cjoined hr (by omega) (by rfl) (pv 3)) (pa_cons (pe_ix ix_tup (pe_ix ix_list (pv 2) (pe_un un_neg pe_int) (fun _ _ => rfl)) pe_int (fun _ _ => rfl)) (pa_cons (pe_ownS cjoined hr (by omega) (by rfl) (pv 4)) pa_nil)))))))))), ?_⟩
  refine ⟨_, rfl, _, rfl, v, t, a, ns, rfl, hv, ho, ha, by omega, fun c' p xs H1 hg hp hlen hall k1 => ?_, c, hg0⟩
  rw [hg0] at hg
  cases hg
  refine ⟨Nat.zero_le _, fun pa hpa => ⟨Nat.zero_le _, fun pb hpb => ?_⟩⟩
  have S2 : Same H1 (upd (upd H1 pa (.lst [])) pb (.lst [])) := (same_new hpa).trans (same_new hpb)
  have hA0 : (upd (upd H1 pa (.lst [])) pb (.lst [])) pa = some (.lst []) := (same_new hpb) _ _ upd_same
  have hB0 : (upd (upd H1 pa (.lst [])) pb (.lst [])) pb = some (.lst []) := upd_same
  generalize upd (upd H1 pa (.lst [])) pb (.lst []) = H2 at S2 hA0 hB0
  have hl1 : (ns.map V.int).length = ns.length := List.length_map _
  have t2 := tp_same S2
  refine ⟨_, rfl, _, rfl, p, a, xs, ns.map V.int, rfl, SqL.of (S2 _ _ hp), (tp_same (k1.trans S2)).sq ha, for_zip2 (n := min xs.length (ns.map V.int).length) rfl
    (fun i σ' H' => ∃ qa qb as bs wa wb y5 y6 y7 y8, σ' = [some v, some (.ref a), some (.ref p), some (.ref qa), some (.ref qb), y5, y6, y7, y8] ∧ H' qa = some (.lst as) ∧ H' qb = some (.lst bs) ∧ WVs K H' as wa ∧ WVs K H' bs wb ∧ as.length ≤ 16 * i ∧ bs.length ≤ 16 * i ∧
      (∀ u, t.go (ns.take i) = some u → wa ++ befs repW u (ns.drop i) = befs repW t ns ∧ afts repW u (ns.drop i) ++ wb = afts repW t ns) ∧ Same H2 H') ?_ ?_ ?_ ?_⟩
  · refine ⟨pa, pb, [], [], [], [], none, none, none, none, rfl, hA0, hB0, wvs_nil, wvs_nil, Nat.le_refl _, Nat.le_refl _, fun u hu => ?_, Same.refl H2⟩
    rw [List.take_zero, go_nil] at hu
    cases hu
    exact ⟨rfl, List.append_nil _⟩
  · rintro i σ' H' ⟨qa, qb, as, bs, wa, wb, y5, y6, y7, y8, rfl, hA, hB, hwa, hwb, la, lb, hinv, S3⟩
    exact ⟨SqL.of (S3 _ _ (S2 _ _ hp)), (tp_same (k1.trans (S2.trans S3))).sq ha⟩
  · rintro i x y T σ' H' hx hy ⟨qa, qb, as, bs, wa, wb, y5, y6, y7, y8, rfl, hA, hB, hwa, hwb, la, lb, hinv, S3⟩ hT
    rw [List.getElem?_map] at hy
    obtain ⟨j, ej, rfl⟩ := Option.map_eq_some_iff.mp hy
    have hi : i < ns.length := (List.getElem?_eq_some_iff.mp ej).1
    have S4 : Same H' (upd H' T (.tup [x, .int j])) := same_new hT
    obtain ⟨u, eu, hu⟩ := hall i x hx
    have hu4 := WV.tp (tp_same (S2.trans (S3.trans S4))) _ hu
    have ou := (go_ok _ ho eu).1
    have et : ns.take (i + 1) = ns.take i ++ [j] := by rw [List.take_add_one, ej]; rfl
    obtain ⟨u2, es'⟩ := vd_take (t := t) ⟨c, hg0⟩ (i + 1)
    have es : u.stp j = some u2 := by
      rw [et, go_app_some eu] at es'
      cases e2 : u.stp j with
      | none => rw [go_none e2] at es'; cases es'
      | some z => rw [go_cons e2, go_nil] at es'; exact es'
    refine ⟨T, [x, .int j], rfl, SqT.of upd_same, rfl, _, _, rfl, _, _, rfl, rfl, ?_⟩
    refine ⟨_, rfl, _, rfl, x, u, j, u2, rfl, hu4, ou, es, fun pp b1 b2 xs1 ys1 H5 hpp hb1 hb2 hw1 hw2 k5 => ?_⟩
    refine ⟨pp, _, rfl, hpp, rfl, _, _, rfl, _, _, rfl, rfl, ?_⟩
    have S5 := S4.trans k5
    have bl := bef_len (i := j) ou repW
    have l1 := hw1.length
    have l2 := hw2.length
    refine ⟨_, rfl, qa, as, rfl, .inr (SqL.of (S5 _ _ hA)), _, rfl, b1, xs1, rfl, .inl hb1, ?_, fun qa' hqa' => ?_⟩
    · rw [List.length_append, List.length_append]
      exact Nat.le_trans (show as.length + (xs1.length + 0) ≤ 1000 by omega) (by decide)
    have S6 : Same H5 (upd H5 qa' (.lst (as ++ (xs1 ++ [])))) := same_new hqa'
    refine ⟨_, rfl, b2, ys1, rfl, .inl ((tp_same S6).sq hb2), _, rfl, qb, bs, rfl, .inr (SqL.of ((S5.trans S6) _ _ hB)), ?_, fun qb' hqb' => ?_⟩
    · rw [List.length_append, List.length_append]
      exact Nat.le_trans (show ys1.length + (bs.length + 0) ≤ 1000 by omega) (by decide)
    have S7 : Same (upd H5 qa' (.lst (as ++ (xs1 ++ [])))) (upd (upd H5 qa' (.lst (as ++ (xs1 ++ [])))) qb' (.lst (ys1 ++ (bs ++ [])))) := same_new hqb'
    have SA := S5.trans (S6.trans S7)
    have SB := S6.trans S7
    refine ⟨qa', qb', _, _, wa ++ (bef repW u j ++ []), aft repW u j ++ (wb ++ []), _, _, _, _, rfl, S7 _ _ upd_same, upd_same, ?_, ?_, ?_, ?_, fun u3 hu3 => ?_, S3.trans SA⟩
    · exact wvs_app (WVs.tp (tp_same SA) _ hwa) (wvs_app (WVs.tp (tp_same SB) _ hw1) wvs_nil)
    · exact wvs_app (WVs.tp (tp_same SB) _ hw2) (wvs_app (WVs.tp (tp_same SA) _ hwb) wvs_nil)
    · rw [List.length_append, List.length_append]
      show as.length + (xs1.length + 0) ≤ _
      omega
    · rw [List.length_append, List.length_append]
      show ys1.length + (bs.length + 0) ≤ _
      omega
    · rw [es'] at hu3
      cases hu3
      have dr : ns.drop i = j :: ns.drop (i + 1) := by rw [List.drop_eq_getElem_cons hi, (List.getElem?_eq_some_iff.mp ej).2]
      have h0 := hinv u eu
      rw [dr, befs, afts, es] at h0
      exact ⟨by rw [List.append_nil, List.append_assoc]; exact h0.1, by rw [List.append_nil, ← List.append_assoc]; exact h0.2⟩
  · rintro σ' H' ⟨qa, qb, as, bs, wa, wb, y5, y6, y7, y8, rfl, hA, hB, hwa, hwb, la, lb, hinv, S3⟩
    have emin : min xs.length (ns.map V.int).length = ns.length := by omega
    rw [emin] at hinv la lb
    obtain ⟨e1, e2⟩ := hinv (.ltr c) (by rw [List.take_length]; exact hg0)
    rw [List.drop_length] at e1 e2
    have e1' : wa = befs rep t ns := by rw [rep_eq, ← e1]; exact (List.append_nil _).symm
    have e2' : wb = afts rep t ns := by rw [rep_eq, ← e2]; rfl
    subst e1' e2'
    obtain ⟨o1, o2, n1, n2⟩ := befs_ok rep (fun w n o h h2 => rep_ok o h h2) (fun w n => rep_dep) ns ho3 ⟨c, hg0⟩
    refine ⟨_, rfl, qa, as, rfl, .inr (SqL.of hA), befs rep t ns, hwa, fun w hw => ⟨W.Ok.mono abc_sub _ (o1 w hw).1, by have := (o1 w hw).2; omega⟩, by omega, fun v1 H5 hv1 k5 => ?_⟩
    rw [jnd_eq] at hv1
    have S5 := S3.trans k5
    -- the place's letter
    obtain ⟨xs', x, rfl⟩ : ∃ xs' x, xs = xs' ++ [x] := by
      rcases List.eq_nil_or_concat xs with e | ⟨l, b, e⟩
      · rw [e] at hlen; cases hlen
      · exact ⟨l, b, by rw [e, List.concat_eq_append]⟩
    have hxl : xs'.length = ns.length := by rw [List.length_append] at hlen; exact Nat.succ.inj hlen
    obtain ⟨u, eu, hu⟩ := hall xs'.length x (by rw [List.getElem?_append_right (Nat.le_refl _), Nat.sub_self]; rfl)
    rw [hxl, List.take_length, hg0] at eu
    cases eu
    have hu5 := (WV.tp (tp_same (S2.trans S5)) _ hu).at
    cases hu5 with
    | ltr e s =>
      cases e
      refine ⟨_, rfl, _, rfl, _, _, _, _, rfl, rfl, SqL.of ((S2.trans S5) _ _ hp), atI_last, _, _, _, _, rfl, rfl, s, rfl, ?_⟩
      refine ⟨_, rfl, qb, bs, rfl, .inr (SqL.of (k5 _ _ hB)), afts rep t ns, WVs.tp (tp_same k5) _ hwb, fun w hw => ⟨W.Ok.mono abc_sub _ (o2 w hw).1, by have := (o2 w hw).2; omega⟩, by omega, fun v2 H6 hv2 k6 => ?_⟩
      rw [jnd_eq] at hv2
      refine ⟨(by show 3 ≤ sizeLine; decide), fun pr hpr => ?_⟩
      exact q pr v1 v2 _ (SqT.of upd_same) (WV.tp ((tp_same k6).trans (tp_new hpr)) _ hv1) (WV.tp (tp_new hpr) _ hv2) (k1.trans (S2.trans (S5.trans (k6.trans (same_new hpr)))))

end
end SW

set_option Elab.async false
set_option linter.all false
set_option maxRecDepth 100000
set_option maxHeartbeats 4000000
namespace SW
open PySem PySem.Spec PyProof.Rows L2
section
variable {P : Program} {w : World} {K : PySem.W.Frag} {mg : Str → Option Value} {base : Heap}
/-! ### _law_copies, _law_sides -/
def spCopies (K : PySem.W.Frag) : Sp := fun vs H Q _ => ∃ v t n, vs = [v, .int n] ∧ WV K H v t ∧ ∀ v' H', WV K H' v' (.times t n) → Same H H' → Q v' H'
theorem sc__law_copies : FnScope ["_law_tree_here", "_law_many"] ["_law_tree_here", "_law_many"] (defScope s__law_copies) := ⟨rfl, rfl, rfl, by decide +kernel, rfl, by decide +kernel, by decide +kernel⟩
theorem ok_copies (D : Df K mg "_law_copies" s__law_copies ["_law_tree_here", "_law_many"]) : Cal P w K mg base 1 "_law_copies" ["_law_tree_here", "_law_many"] (spCopies K) := by
  refine D.ok sc__law_copies (fun vs H Q E h => ?_) (fun f cdv A outer s H vs Q E hr h => ?_)
  · obtain ⟨v, t, n, rfl, _⟩ := h
    rfl
  obtain ⟨v, t, n, rfl, hv, q⟩ := h
  refine ⟨_, (pss_one (ps_ret (pe_tup (pa_cons pe_str (pa_cons (pv 0) (pa_cons (pv 1) pa_nil)))))), ?_⟩
  refine ⟨_, rfl, _, rfl, (by show 3 ≤ sizeLine; decide), fun p hp => ?_⟩
  exact q _ _ (wv_times (SqT.of upd_same) (WV.tp (tp_new hp) _ hv)) (same_new hp)
def spSides (K : PySem.W.Frag) : Sp := fun vs H Q _ => ∃ v t a ns c, vs = [v, .ref a] ∧ WV K H v t ∧ t.Ok3 abc ∧ t.dep ≤ 10 ∧ SqT K H a (ns.map V.int) ∧ t.go ns = some (.ltr c) ∧
  ∀ p v1 v2 H', SqT K H' p [v1, v2] → WV K H' v1 (.join ([.emp, .emp] ++ befs tms t ns)) → WV K H' v2 (.join (afts tms t ns ++ [.emp, .emp])) → Same H H' → Q (.ref p) H'
theorem sc__law_sides : FnScope ["_law_tree_here", "_law_spot_here", "_law_ahead", "_law_behind", "_law_here", "_law_number", "_law_left", "_law_right"] ["_law_tree_here", "_law_spot_here"] (defScope s__law_sides) := ⟨rfl, rfl, rfl, by decide +kernel, rfl, by decide +kernel, by decide +kernel⟩
theorem ok_sides (D : Df K mg "_law_sides" s__law_sides ["_law_tree_here", "_law_spot_here"]) (bi : Bi mg) (c_law_copies : Cal P w K mg base 1 "_law_copies" ["_law_tree_here", "_law_many"] (spCopies K)) : Cal P w K mg base 2 "_law_sides" ["_law_tree_here", "_law_spot_here"] (spSides K) := by
  refine D.ok sc__law_sides (fun vs H Q E h => ?_) (fun f cdv A outer s H vs Q E hr h => ?_)
  · obtain ⟨v, t, a, ns, c, rfl, _⟩ := h
    rfl
  obtain ⟨v, t, a, ns, c, rfl, hv, ho3, hd, ha, hg0, q⟩ := h
  have ho := W.Ok3.ok _ ho3
  have hn : ns.length ≤ 10 := by
    have := (go_ok _ ho hg0).2
    omega
  refine ⟨_, (pss_cons (ps_par3 (i := 2) (j := 3) (l := 4) rfl sc__law_sides.nd rfl rfl rfl (by decide) (by decide) (by decide) rfl rfl rfl (pa_cons (pe_lst pa_nil) (pa_cons (pe_lst pa_nil) (pa_cons (pv 0) pa_nil))) (by rfl))
      (pss_cons (ps_for PassesOwn.never rfl (pi_tup (pv 1)) (pg_name (i := 5) sc__law_sides.nd rfl (.inl rfl)) (pss_one (ps_if (pt_cmpR op_eq (pe_ix ix_tup (pv 4) pe_int (fun _ _ => rfl)) pe_str (nomark _)) (pss_cons (ps_par (i := 2) (j := 3) rfl sc__law_sides.nd rfl rfl (by decide) rfl rfl (pa_cons (pe_op op_cat (pv 2) (pe_callTy call_list_of (by rfl) bi.list (by decide +kernel) (pa_cons (pe_slice sl_tupA (pe_ix ix_tup (pv 4) pe_int (fun _ _ => rfl)) po_none (po_some (pv 5))) pa_nil))) (pa_cons (pe_op op_cat (pe_callTy call_list_of (by rfl) bi.list (by decide +kernel) (pa_cons (pe_slice sl_tupA (pe_ix ix_tup (pv 4) pe_int (fun _ _ => rfl)) (po_some (pe_op op_add (pv 5) pe_int)) po_none) pa_nil)) (pv 3)) pa_nil)) (by rfl))
      (pss_one (ps_set (i := 4) sc__law_sides.nd rfl (.inl rfl) (pe_ix ix_tup (pe_ix ix_tup (pv 4) pe_int (fun _ _ => rfl)) (pv 5) (fun _ _ => rfl))))) (C8.pss_cut (ps_set (i := 6) sc__law_sides.nd rfl (.inl rfl) (pe_ifExp (pt_cmpR op_eq (pe_ix ix_tup (pv 4) pe_int (fun _ _ => rfl)) pe_str (nomark _)) (pv 4) (pe_own c_law_copies hr (by omega) (by rfl) (pa_cons (pe_ix ix_tup (pv 4) pe_int (fun _ _ => rfl)) (pa_cons (pv 5) pa_nil)))))
      (C8.pss_cut (ps_set (i := 7) sc__law_sides.nd rfl (.inl rfl) (pe_ifExp (pt_cmpR op_eq (pe_ix ix_tup (pv 4) pe_int (fun _ _ => rfl)) pe_str (nomark _)) (pv 4) (pe_own c_law_copies hr (by omega) (by rfl) (pa_cons (pe_ix ix_tup (pv 4) pe_int (fun _ _ => rfl)) (pa_cons (pv 5) pa_nil)))))
      (C8.pss_cut (ps_if (pt_cmpR op_eq (pe_ix ix_tup (pv 4) pe_int (fun _ _ => rfl)) pe_str (nomark _)) (pss_one (ps_set (i := 7) sc__law_sides.nd rfl (.inl rfl) (pe_own c_law_copies hr (by omega) (by rfl) (pa_cons (pe_ix ix_tup (pv 4) pe_int (fun _ _ => rfl)) (pa_cons (pe_op op_sub (pe_op op_sub (pe_ix ix_tup (pv 4) pe_int (fun _ _ => rfl)) (pv 5)) pe_int) pa_nil))))) pss_nil)
      (pss_cons (ps_par (i := 2) (j := 3) rfl sc__law_sides.nd rfl rfl (by decide) rfl rfl (pa_cons (pe_op op_cat (pv 2) (pe_lst (pa_cons (pv 6) pa_nil))) (pa_cons (pe_op op_cat (pe_lst (pa_cons (pv 7) pa_nil)) (pv 3)) pa_nil)) (by rfl))
      (pss_one (ps_set (i := 4) sc__law_sides.nd rfl (.inl rfl) (pe_ix ix_tup (pv 4) pe_int (fun _ _ => rfl)))))))))))
      (pss_one (ps_ret (pe_tup (pa_cons (pe_tup (pa_cons pe_str (pa_cons (pe_callTy call_tuple_of (by rfl) bi.tuple (by decide +kernel) (pa_cons (pe_op op_cat (pe_lst (pa_cons (pe_tup (pa_cons pe_str pa_nil)) (pa_cons (pe_tup (pa_cons pe_str pa_nil)) pa_nil))) (pv 2)) pa_nil)) pa_nil))) (pa_cons (pe_tup (pa_cons pe_str (pa_cons (pe_callTy call_tuple_of (by rfl) bi.tuple (by decide +kernel) (pa_cons (pe_op op_cat (pv 3) (pe_lst (pa_cons (pe_tup (pa_cons pe_str pa_nil)) (pa_cons (pe_tup (pa_cons pe_str pa_nil)) pa_nil)))) pa_nil)) pa_nil))) pa_nil))))))), ?_⟩
  refine ⟨Nat.zero_le _, fun pa hpa => ⟨Nat.zero_le _, fun pb hpb => ?_⟩⟩
  have S2 : Same H (upd (upd H pa (.lst [])) pb (.lst [])) := (same_new hpa).trans (same_new hpb)
  have hA0 : (upd (upd H pa (.lst [])) pb (.lst [])) pa = some (.lst []) := (same_new hpb) _ _ upd_same
  have hB0 : (upd (upd H pa (.lst [])) pb (.lst [])) pb = some (.lst []) := upd_same
  generalize upd (upd H pa (.lst [])) pb (.lst []) = H2 at S2 hA0 hB0
  refine ⟨_, rfl, _, _, _, rfl, ?_⟩
  refine ⟨_, rfl, a, rfl, ⟨_, (tp_same S2).sq ha⟩, for_tup (xs := ns.map V.int)
    (fun i σ' H' => ∃ qa qb as bs wa wb x u y5 y6 y7, σ' = [some v, some (.ref a), some (.ref qa), some (.ref qb), some x, y5, y6, y7] ∧ H' qa = some (.lst as) ∧ H' qb = some (.lst bs) ∧ WVs K H' as wa ∧ WVs K H' bs wb ∧ as.length ≤ 16 * i ∧ bs.length ≤ 16 * i ∧ WV K H' x u ∧
      t.go (ns.take i) = some u ∧ wa ++ befs tms u (ns.drop i) = befs tms t ns ∧ afts tms u (ns.drop i) ++ wb = afts tms t ns ∧ Same H H') ?_ ?_ ?_ ?_⟩
  · exact ⟨pa, pb, [], [], [], [], v, t, none, none, none, rfl, hA0, hB0, wvs_nil, wvs_nil, Nat.le_refl _, Nat.le_refl _, WV.tp (tp_same S2) _ hv, go_nil _, rfl, List.append_nil _, S2⟩
  · rintro i σ' H' _ ⟨qa, qb, as, bs, wa, wb, x, u, y5, y6, y7, rfl, hA, hB, hwa, hwb, la, lb, hx, eu, i1, i2, S3⟩
    exact (tp_same S3).sq ha
  · rintro i y σ' H' hy ⟨qa, qb, as, bs, wa, wb, x, u, y5, y6, y7, rfl, hA, hB, hwa, hwb, la, lb, hx, eu, i1, i2, S3⟩
    rw [List.getElem?_map] at hy
    obtain ⟨j, ej, rfl⟩ := Option.map_eq_some_iff.mp hy
    have hi : i < ns.length := (List.getElem?_eq_some_iff.mp ej).1
    have ou := (go_ok _ ho eu).1
    have et : ns.take (i + 1) = ns.take i ++ [j] := by rw [List.take_add_one, ej]; rfl
    obtain ⟨u2, es'⟩ := vd_take (t := t) ⟨c, hg0⟩ (i + 1)
    have es : u.stp j = some u2 := by
      rw [et, go_app_some eu] at es'
      cases e2 : u.stp j with
      | none => rw [go_none e2] at es'; cases es'
      | some z => rw [go_cons e2, go_nil] at es'; exact es'
    have dr : ns.drop i = j :: ns.drop (i + 1) := by rw [List.drop_eq_getElem_cons hi, (List.getElem?_eq_some_iff.mp ej).2]
    rw [dr, befs, es] at i1
    rw [dr, afts, es] at i2
    have bl := bef_len (i := j) ou tms
    have i1' : ∀ l : List W, l = bef tms u j → (wa ++ l) ++ befs tms u2 (ns.drop (i + 1)) = befs tms t ns := fun l e => by rw [e, List.append_assoc]; exact i1
    have i2' : ∀ l : List W, l = aft tms u j → afts tms u2 (ns.drop (i + 1)) ++ (l ++ wb) = afts tms t ns := fun l e => by rw [e, ← List.append_assoc]; exact i2
    have at_ := hx.at
    by_cases hj : ∃ ws, u = .join ws
    · obtain ⟨ws, rfl⟩ := hj
      cases at_ with | @join a' b' xs ws e s s2 hw => ?_
      cases e
      rw [stpJ] at es
      split at es
      · rename_i hh
        obtain ⟨k, rfl⟩ := Int.eq_ofNat_of_zero_le hh.1
        refine ⟨_, rfl, _, _, _, _, rfl, rfl, s, rfl, rfl, eq_yes rfl ?_⟩
        have hlw := hw.length
        unfold W.Ok at ou
        refine ⟨_, rfl, _, rfl, _, _, _, _, rfl, rfl, s, rfl, _, rfl, _, rfl, sl_preW rfl s2 (fun b1 H4 hb1 k4 => ?_)⟩
        refine ⟨b1, _, rfl, .inr hb1, fun l1 hl1 => ?_⟩
        have S4 : Same H' (upd H4 l1 (.lst (xs.take k))) := k4.trans (same_new hl1)
        refine ⟨qa, l1, as, xs.take k, rfl, rfl, S4 _ _ hA, upd_same, ?_, fun q1 hq1 => ?_⟩
        · rw [List.length_take]
          exact Nat.le_trans (show as.length + min k xs.length ≤ 1000 by omega) (by decide)
        have S5 := S4.trans (same_new (o := .lst (as ++ xs.take k)) hq1)
        have hq1' : (upd (upd H4 l1 (.lst (xs.take k))) q1 (.lst (as ++ xs.take k))) q1 = some (.lst (as ++ xs.take k)) := upd_same
        generalize upd (upd H4 l1 (.lst (xs.take k))) q1 (.lst (as ++ xs.take k)) = H5 at S5 hq1'
        have t5 := tp_same S5
        refine ⟨_, rfl, _, _, _, _, rfl, rfl, t5.sq s, rfl, _, rfl, _, _, rfl, rfl, _, rfl, sl_sufW (i := (k : Int) + 1) (k := k + 1) (by omega) (t5.sq s2) (fun b2 H6 hb2 k6 => ?_)⟩
        refine ⟨b2, _, rfl, .inr hb2, fun l2 hl2 => ?_⟩
        have S6 : Same H5 (upd H6 l2 (.lst (xs.drop (k + 1)))) := k6.trans (same_new hl2)
        refine ⟨_, rfl, l2, qb, xs.drop (k + 1), bs, rfl, rfl, upd_same, (S5.trans S6) _ _ hB, ?_, fun q2 hq2 => ?_⟩
        · rw [List.length_drop]
          exact Nat.le_trans (show xs.length - (k + 1) + bs.length ≤ 1000 by omega) (by decide)
        have S7 : Same H5 (upd (upd H6 l2 (.lst (xs.drop (k + 1)))) q2 (.lst (xs.drop (k + 1) ++ bs))) := S6.trans (same_new hq2)
        have hq2' : (upd (upd H6 l2 (.lst (xs.drop (k + 1)))) q2 (.lst (xs.drop (k + 1) ++ bs))) q2 = some (.lst (xs.drop (k + 1) ++ bs)) := upd_same
        generalize upd (upd H6 l2 (.lst (xs.drop (k + 1)))) q2 (.lst (xs.drop (k + 1) ++ bs)) = H7 at S7 hq2'
        have SA := S5.trans S7
        have tA := tp_same SA
        have hk : k < xs.length := by rw [hlw]; omega
        obtain ⟨u3, e3, hu3⟩ := hw.get (List.getElem?_eq_getElem hk)
        have eu3 : u3 = u2 := by
          have : ws[k]? = some u2 := es
          rw [e3] at this
          exact Option.some.inj this
        subst eu3
        refine ⟨_, _, rfl, ?_⟩
        refine ⟨_, rfl, _, _, _, _, rfl, rfl, tA.sq s, rfl, _, rfl, _, _, _, _, rfl, rfl, tA.sq s2, at_of (j := k) (by omega) (List.getElem?_eq_getElem hk), ?_⟩
        have hw7 := WVs.tp tA _ hw
        refine ⟨q1, q2, _, _, wa ++ ws.take k, ws.drop (k + 1) ++ wb, _, u3, _, _, _, rfl, S7 _ _ hq1', hq2', wvs_app (WVs.tp tA _ hwa) (wvs_take k hw7), wvs_app (wvs_drop (k + 1) hw7) (WVs.tp tA _ hwb), ?_, ?_, WV.tp tA _ hu3, es', i1' _ rfl, i2' _ rfl, S3.trans SA⟩
        · rw [List.length_append, List.length_take]
          omega
        · rw [List.length_append, List.length_drop]
          omega
      · cases es
    · -- copies
      obtain ⟨ax, kk, xi, zs, ex, s, hxi, hk⟩ : ∃ ax kk xi zs, x = .ref ax ∧ SqT K H' ax (.str kk :: xi :: zs) ∧ WV K H' xi u2 ∧ kk ≠ "join" := by
        cases at_ with
        | nam e s => cases es
        | ltr e s => cases es
        | emp e s => cases es
        | join e s s2 hw => exact absurd ⟨_, rfl⟩ hj
        | times e s hx' =>
          rw [stpT] at es
          split at es
          · cases es
            exact ⟨_, _, _, _, e, s, hx', by decide +kernel⟩
          · cases es
        | right e s hx' =>
          rw [stpR] at es
          split at es
          · cases es
            exact ⟨_, _, _, _, e, s, hx', by decide +kernel⟩
          · cases es
        | left e s hx' =>
          rw [stpL] at es
          split at es
          · cases es
            exact ⟨_, _, _, _, e, s, hx', by decide +kernel⟩
          · cases es
      subst ex
      refine ⟨_, rfl, _, _, _, _, rfl, rfl, s, at_of (j := 0) (by omega) rfl, rfl, eq_no hk ?_⟩
      refine ⟨fun σ' H4 => ∃ vl, σ' = [some v, some (.ref a), some (.ref qa), some (.ref qb), some (.ref ax), some (.int j), some vl, y7] ∧ WVs K H4 [vl] (bef tms u j) ∧ Same H' H4, ?_, ?_⟩
      · have at2 := hx.at
        cases at2 with
        | nam e s => cases es
        | ltr e s => cases es
        | emp e s => cases es
        | join e s s2 hw => exact absurd ⟨_, rfl⟩ hj
        | @times a' xi' w' n' e s hx' =>
          cases e
          exact ⟨_, rfl, _, _, _, _, rfl, rfl, s, rfl, rfl, eq_no (by decide +kernel) ⟨_, rfl, _, _, _, _, rfl, rfl, s, rfl, _, rfl, xi', w', j, rfl, hx', fun v1 H4 hv1 k4 => ⟨v1, rfl, wvs_cons hv1 wvs_nil, k4⟩⟩⟩
        | @right a' xi' w' e s hx' =>
          cases e
          exact ⟨_, rfl, _, _, _, _, rfl, rfl, s, rfl, rfl, eq_no (by decide +kernel) ⟨_, rfl, _, _, _, _, rfl, rfl, s, rfl, _, rfl, xi', w', j, rfl, hx', fun v1 H4 hv1 k4 => ⟨v1, rfl, wvs_cons hv1 wvs_nil, k4⟩⟩⟩
        | @left a' xi' w' e s hx' =>
          cases e
          exact ⟨_, rfl, _, _, _, _, rfl, rfl, s, rfl, rfl, eq_yes rfl ⟨_, rfl, _, rfl, wvs_cons hx wvs_nil, Same.refl H'⟩⟩
      rintro σ' H4 ⟨vl, rfl, hvl, S4⟩
      have hx4 := WV.tp (tp_same S4) _ hx
      refine ⟨fun σ' H5 => ∃ vr, σ' = [some v, some (.ref a), some (.ref qa), some (.ref qb), some (.ref ax), some (.int j), some vl, some vr] ∧ ((∀ w n, u ≠ .times w n) → WVs K H5 [vr] (aft tms u j)) ∧ Same H4 H5, ?_, ?_⟩
      · have at2 := hx4.at
        cases at2 with
        | nam e s => cases es
        | ltr e s => cases es
        | emp e s => cases es
        | join e s s2 hw => exact absurd ⟨_, rfl⟩ hj
        | @times a' xi' w' n' e s hx' =>
          cases e
          exact ⟨_, rfl, _, _, _, _, rfl, rfl, s, rfl, rfl, eq_no (by decide +kernel) ⟨_, rfl, _, _, _, _, rfl, rfl, s, rfl, _, rfl, xi', w', j, rfl, hx', fun v1 H5 hv1 k5 => ⟨v1, rfl, fun h => absurd rfl (h w' n'), k5⟩⟩⟩
        | @right a' xi' w' e s hx' =>
          cases e
          exact ⟨_, rfl, _, _, _, _, rfl, rfl, s, rfl, rfl, eq_yes rfl ⟨_, rfl, _, rfl, fun _ => wvs_cons hx4 wvs_nil, Same.refl H4⟩⟩
        | @left a' xi' w' e s hx' =>
          cases e
          exact ⟨_, rfl, _, _, _, _, rfl, rfl, s, rfl, rfl, eq_no (by decide +kernel) ⟨_, rfl, _, _, _, _, rfl, rfl, s, rfl, _, rfl, xi', w', j, rfl, hx', fun v1 H5 hv1 k5 => ⟨v1, rfl, fun _ => wvs_cons hv1 wvs_nil, k5⟩⟩⟩
      rintro σ' H5 ⟨vr, rfl, hvr, S5⟩
      have hx5 := WV.tp (tp_same S5) _ hx4
      refine ⟨fun σ' H6 => ∃ vr, σ' = [some v, some (.ref a), some (.ref qa), some (.ref qb), some (.ref ax), some (.int j), some vl, some vr] ∧ WVs K H6 [vr] (aft tms u j) ∧ Same H5 H6, ?_, ?_⟩
      · have at2 := hx5.at
        cases at2 with
        | nam e s => cases es
        | ltr e s => cases es
        | emp e s => cases es
        | join e s s2 hw => exact absurd ⟨_, rfl⟩ hj
        | @times a' xi' w' n' e s hx' =>
          cases e
          exact ⟨_, rfl, _, _, _, _, rfl, rfl, s, rfl, rfl, eq_yes rfl ⟨_, rfl, _, _, _, _, rfl, rfl, s, rfl, _, rfl, _, _, _, _, rfl, rfl, s, rfl, _, rfl, _, _, rfl, rfl, _, _, rfl, rfl, xi', w', n' - j - 1, rfl, hx', fun v1 H6 hv1 k6 => ⟨v1, rfl, wvs_cons hv1 wvs_nil, k6⟩⟩⟩
        | @right a' xi' w' e s hx' =>
          cases e
          exact ⟨_, rfl, _, _, _, _, rfl, rfl, s, rfl, rfl, eq_no (by decide +kernel) ⟨vr, rfl, hvr (fun _ _ h => nomatch h), Same.refl H5⟩⟩
        | @left a' xi' w' e s hx' =>
          cases e
          exact ⟨_, rfl, _, _, _, _, rfl, rfl, s, rfl, rfl, eq_no (by decide +kernel) ⟨vr, rfl, hvr (fun _ _ h => nomatch h), Same.refl H5⟩⟩
      rintro σ' H6 ⟨vr, rfl, hvr6, S6⟩
      have S46 := S5.trans S6
      have S06 := S4.trans S46
      refine ⟨_, rfl, _, rfl, (by show 1 ≤ sizeLine; decide), fun l1 hl1 => ⟨qa, l1, as, _, rfl, rfl, (S06.trans (same_new hl1)) _ _ hA, upd_same, ?_, fun q1 hq1 => ?_⟩⟩
      · exact Nat.le_trans (show as.length + 1 ≤ 1000 by omega) (by decide)
      have S7 : Same H6 (upd (upd H6 l1 (.lst [vl])) q1 (.lst (as ++ [vl]))) := (same_new hl1).trans (same_new hq1)
      have hq1' : (upd (upd H6 l1 (.lst [vl])) q1 (.lst (as ++ [vl]))) q1 = some (.lst (as ++ [vl])) := upd_same
      generalize upd (upd H6 l1 (.lst [vl])) q1 (.lst (as ++ [vl])) = H7 at S7 hq1'
      refine ⟨_, rfl, (by show 1 ≤ sizeLine; decide), fun l2 hl2 => ⟨_, rfl, l2, qb, _, bs, rfl, rfl, upd_same, (S06.trans (S7.trans (same_new hl2))) _ _ hB, ?_, fun q2 hq2 => ?_⟩⟩
      · exact Nat.le_trans (show 1 + bs.length ≤ 1000 by omega) (by decide)
      have S8 : Same H7 (upd (upd H7 l2 (.lst [vr])) q2 (.lst ([vr] ++ bs))) := (same_new hl2).trans (same_new hq2)
      have hq2' : (upd (upd H7 l2 (.lst [vr])) q2 (.lst ([vr] ++ bs))) q2 = some (.lst ([vr] ++ bs)) := upd_same
      generalize upd (upd H7 l2 (.lst [vr])) q2 (.lst ([vr] ++ bs)) = H8 at S8 hq2'
      have S68 := S7.trans S8
      have S08 := S06.trans S68
      refine ⟨_, _, rfl, ?_⟩
      refine ⟨_, rfl, _, _, _, _, rfl, rfl, (tp_same S08).sq s, at_of (j := 1) (by omega) rfl, ?_⟩
      refine ⟨q1, q2, _, _, wa ++ bef tms u j, aft tms u j ++ wb, _, u2, _, _, _, rfl, S8 _ _ hq1', hq2', wvs_app (WVs.tp (tp_same S08) _ hwa) (WVs.tp (tp_same (S46.trans S68)) _ hvl), wvs_app (WVs.tp (tp_same S68) _ hvr6) (WVs.tp (tp_same S08) _ hwb), ?_, ?_, WV.tp (tp_same S08) _ hxi, es', i1' _ rfl, i2' _ rfl, S3.trans S08⟩
      · rw [List.length_append]
        show as.length + 1 ≤ _
        omega
      · rw [List.length_append]
        show 1 + bs.length ≤ _
        omega
  · rintro σ' H' ⟨qa, qb, as, bs, wa, wb, x, u, y5, y6, y7, rfl, hA, hB, hwa, hwb, la, lb, hx, eu, i1, i2, S3⟩
    rw [List.length_map] at eu i1 i2 la lb
    rw [List.take_length, hg0] at eu
    cases eu
    rw [List.drop_length] at i1 i2
    have e1 : wa = befs tms t ns := by rw [← i1]; exact (List.append_nil _).symm
    have e2 : wb = afts tms t ns := by rw [← i2]; rfl
    subst e1 e2
    have s1 : 1 ≤ sizeLine := by decide
    have s2 : 2 ≤ sizeLine := by decide
    refine ⟨s1, fun p1 h1 => ⟨s1, fun p2 h2 => ⟨s2, fun l0 h3 => ?_⟩⟩⟩
    have hA3 := ((same_new h1).trans ((same_new h2).trans (same_new (o := .lst [.ref p1, .ref p2]) h3))) _ _ hA
    refine ⟨_, rfl, l0, qa, [.ref p1, .ref p2], as, rfl, rfl, upd_same, hA3, ?_, fun q1 h4 => ?_⟩
    · exact Nat.le_trans (show 2 + as.length ≤ 1000 by omega) (by decide)
    refine ⟨q1, _, rfl, .inl ⟨SqL.of upd_same, fun T1 h5 => ⟨s2, fun P1 h6 => ?_⟩⟩⟩
    have e1 : WVs K (upd (upd H' p1 (.tup [.str "empty"])) p2 (.tup [.str "empty"])) [.ref p1, .ref p2] [.emp, .emp] :=
      wvs_cons (wv_emp ((tp_new h2).sq (SqT.of upd_same))) (wvs_cons (wv_emp (SqT.of upd_same)) wvs_nil)
    have S0 : Same (upd (upd H' p1 (.tup [.str "empty"])) p2 (.tup [.str "empty"])) (upd (upd (upd (upd (upd (upd H' p1 (.tup [.str "empty"])) p2 (.tup [.str "empty"])) l0 (.lst [.ref p1, .ref p2])) q1 (.lst ([.ref p1, .ref p2] ++ as))) T1 (.tup ([.ref p1, .ref p2] ++ as))) P1 (.tup [.str "join", .ref T1])) :=
      (same_new h3).trans ((same_new h4).trans ((same_new h5).trans (same_new h6)))
    have S1 : Same H' _ := (same_new h1).trans ((same_new h2).trans S0)
    have w1 : WV K (upd (upd (upd (upd (upd (upd H' p1 (.tup [.str "empty"])) p2 (.tup [.str "empty"])) l0 (.lst [.ref p1, .ref p2])) q1 (.lst ([.ref p1, .ref p2] ++ as))) T1 (.tup ([.ref p1, .ref p2] ++ as))) P1 (.tup [.str "join", .ref T1])) (.ref P1) (.join ([.emp, .emp] ++ befs tms t ns)) :=
      wv_join (SqT.of upd_same) ((tp_new h6).sq (SqT.of upd_same)) (wvs_app (WVs.tp (tp_same S0) _ e1) (WVs.tp (tp_same S1) _ hwa))
    have hB1 := S1 _ _ hB
    have hwb1 := WVs.tp (tp_same S1) _ hwb
    generalize (upd (upd (upd (upd (upd (upd H' p1 (.tup [.str "empty"])) p2 (.tup [.str "empty"])) l0 (.lst [.ref p1, .ref p2])) q1 (.lst ([.ref p1, .ref p2] ++ as))) T1 (.tup ([.ref p1, .ref p2] ++ as))) P1 (.tup [.str "join", .ref T1])) = H8 at w1 S1 hB1 hwb1
    clear S0 e1 hA3
    refine ⟨_, rfl, s1, fun p3 g1 => ⟨s1, fun p4 g2 => ⟨s2, fun l1 g3 => ?_⟩⟩⟩
    have hB3 := ((same_new g1).trans ((same_new g2).trans (same_new (o := .lst [.ref p3, .ref p4]) g3))) _ _ hB1
    refine ⟨qb, l1, bs, [.ref p3, .ref p4], rfl, rfl, hB3, upd_same, ?_, fun q2 g4 => ?_⟩
    · exact Nat.le_trans (show bs.length + 2 ≤ 1000 by omega) (by decide)
    refine ⟨q2, _, rfl, .inl ⟨SqL.of upd_same, fun T2 g5 => ⟨s2, fun P2 g6 => ⟨s2, fun pr g7 => ?_⟩⟩⟩⟩
    have e2 : WVs K (upd (upd H8 p3 (.tup [.str "empty"])) p4 (.tup [.str "empty"])) [.ref p3, .ref p4] [.emp, .emp] :=
      wvs_cons (wv_emp ((tp_new g2).sq (SqT.of upd_same))) (wvs_cons (wv_emp (SqT.of upd_same)) wvs_nil)
    have S3' := (same_new (o := .lst [.ref p3, .ref p4]) g3).trans ((same_new (o := .lst (bs ++ [.ref p3, .ref p4])) g4).trans ((same_new (o := .tup (bs ++ [.ref p3, .ref p4])) g5).trans ((same_new (o := .tup [.str "join", .ref T2]) g6).trans (same_new (o := .tup [.ref P1, .ref P2]) g7))))
    have S2' := (same_new (o := .tup [.str "empty"]) g1).trans ((same_new (o := .tup [.str "empty"]) g2).trans S3')
    exact q pr (.ref P1) (.ref P2) _ (SqT.of upd_same) (WV.tp (tp_same S2') _ w1)
      (wv_join ((tp_new g7).sq (SqT.of upd_same)) (((tp_new g6).trans (tp_new g7)).sq (SqT.of upd_same)) (wvs_app (WVs.tp (tp_same S2') _ hwb1) (WVs.tp (tp_same S3') _ e2)))
      (S3.trans (S1.trans S2'))

end
end SW

set_option Elab.async false
set_option linter.all false
set_option maxRecDepth 100000
set_option maxHeartbeats 4000000
namespace SW
open PySem PySem.Spec PyProof.Rows L2
section
variable {P : Program} {w : World} {K : PySem.W.Frag} {mg : Str → Option Value} {base : Heap}
/-! ### _law_begin -/
def Ad1 (K : PySem.W.Frag) (H : Hp) (t : W) (x : V) (c : Str) : Prop := ∃ a ns, x = .ref a ∧ SqT K H a (ns.map V.int) ∧ t.go ns = some (.ltr c)
/-- addresses of places with these letters -/
def Adr (K : PySem.W.Frag) (H : Hp) (t : W) : List V → List Str → Prop
  | [], [] => True
  | x :: xs, c :: cs => Ad1 K H t x c ∧ Adr K H t xs cs
  | _, _ => False
theorem Ad1.tp {K : PySem.W.Frag} {H H' : Hp} {t : W} {x : V} {c : Str} (k : Tp H H') (h : Ad1 K H t x c) : Ad1 K H' t x c := by
  obtain ⟨a, ns, e, s, g⟩ := h
  exact ⟨a, ns, e, k.sq s, g⟩
theorem Adr.tp {K : PySem.W.Frag} {H H' : Hp} {t : W} (k : Tp H H') : ∀ {xs : List V} {cs : List Str}, Adr K H t xs cs → Adr K H' t xs cs
  | [], [], _ => trivial
  | [], _ :: _, h => h
  | _ :: _, [], h => h
  | x :: xs, c :: cs, h => ⟨h.1.tp k, Adr.tp k (xs := xs) (cs := cs) h.2⟩
theorem Adr.app {K : PySem.W.Frag} {H : Hp} {t : W} {ys : List V} {ds : List Str} (g : Adr K H t ys ds) : ∀ {xs : List V} {cs : List Str}, Adr K H t xs cs → Adr K H t (xs ++ ys) (cs ++ ds)
  | [], [], _ => g
  | [], _ :: _, h => h.elim
  | _ :: _, [], h => h.elim
  | x :: xs, c :: cs, h => ⟨h.1, Adr.app g (xs := xs) (cs := cs) h.2⟩
theorem Adr.len {K : PySem.W.Frag} {H : Hp} {t : W} : ∀ {xs : List V} {cs : List Str}, Adr K H t xs cs → xs.length = cs.length
  | [], [], _ => rfl
  | [], _ :: _, h => h.elim
  | _ :: _, [], h => h.elim
  | x :: xs, c :: cs, h => congrArg Nat.succ (Adr.len (xs := xs) (cs := cs) h.2)
theorem Adr.get {K : PySem.W.Frag} {H : Hp} {t : W} : ∀ {xs : List V} {cs : List Str} {i : Nat} {x : V}, Adr K H t xs cs → xs[i]? = some x → ∃ c, cs[i]? = some c ∧ Ad1 K H t x c
  | [], [], i, x, _, h => by cases h
  | [], _ :: _, i, x, h, _ => h.elim
  | _ :: _, [], i, x, h, _ => h.elim
  | y :: ys, c :: cs, 0, x, h, e => by
    cases e
    exact ⟨c, rfl, h.1⟩
  | y :: ys, c :: cs, i + 1, x, h, e => Adr.get (xs := ys) (cs := cs) (i := i) h.2 e
theorem ad1_cons {K : PySem.W.Frag} {H : Hp} {t u : W} {m : Int} {p : Addr} {ns : List Int} {c : Str} (e : t.stp m = some u) (s : SqT K H p ((m :: ns).map V.int)) (g : u.go ns = some (.ltr c)) : Ad1 K H t (.ref p) c := ⟨p, m :: ns, rfl, s, by rw [go_cons e]; exact g⟩
theorem begin_lc {K : PySem.W.Frag} {p D : Addr} {zs : List V} {cs : List Str} {m : Int} {σ : L2.St} {H1 : Hp} {Qd : Hp → Prop} {t u : W} (hjv : ∀ x, (σ.set 6 (some x))[3]? = some (some (.int m))) (h10 : ∀ x, (σ.set 6 (some x))[6]? = some (some x)) (hst : t.stp m = some u)
    (hp : SqL K H1 p zs) (hz : Adr K H1 u zs cs) (ou : u.Ok abc) (du : u.dep ≤ 100) (hD : H1 D = none) (hsz : zs.length < 1000) (q : ∀ acc H3, H3 D = some (.lst acc) → Adr K H3 t acc cs → Same H1 H3 → Qd H3) :
    ∃ W : Nat → Nat → Hp → Prop, (∃ m, W 0 m (upd H1 D (.lst []))) ∧ ∀ i m H, W i m H →
      ((Itl K p).stop i H ∧ Qd H) ∨ ((Itl K p).go i H ∧ ∃ Nx : Hp → Prop, (∀ H', Nx H' → ∃ m', m' < m ∧ W (i + 1) m' H') ∧ ∀ x H', (Itl K p).yld i H x H' → gName 6 x (wipe σ [6]) H' fun σ2 H2 => wipe σ2 [6] = wipe σ [6] ∧ tYes σ2 H2 fun b H3 =>
        if b = true then (tOp (rCatT K) (tTup (tCons (tVar 3) tNil)) (tVar 6)) σ2 H3 fun y H4 => ∃ acc, H4 D = some (.lst acc) ∧ acc.length < sizeLine ∧ Nx (upd H4 D (.lst (acc ++ [y]))) else Nx H3) := by
  have hlen := hz.len
  refine lcl (xs := zs) (fun i H3 => ∃ acc, H3 D = some (.lst acc) ∧ acc.length = i ∧ Adr K H3 t acc (cs.take i) ∧ Same H1 H3) ?_ ?_ ?_ ?_
  · exact ⟨[], upd_same, rfl, trivial, same_new hD⟩
  · rintro i H3 _ ⟨acc, _, _, _, k3⟩
    exact k3.seq hp
  · rintro i x H3 hx ⟨acc, hA, hal, hads, k3⟩
    have hi : i < zs.length := (List.getElem?_eq_some_iff.mp hx).1
    obtain ⟨c, ec, a, ns, rfl, s, hg⟩ := hz.get hx
    have hns : ns.length ≤ 1000 := by
      have := (go_ok _ ou hg).2
      omega
    refine ⟨_, hjv _, (by show 1 ≤ sizeLine; decide), fun p2 hp2 => ⟨_, h10 _, ?_⟩⟩
    refine cat_one (SqT.of upd_same) ((tp_new hp2).sq ((tp_same k3).sq s)) hns (fun p4 H4 hs4 k4 => ?_)
    have k34 : Same H3 H4 := (same_new hp2).trans k4
    have hA4 := k34 _ _ hA
    refine ⟨acc, hA4, ?_, acc ++ [.ref p4], upd_same, ?_, ?_, ?_⟩
    · rw [hal]
      exact Nat.lt_of_lt_of_le hi (Nat.le_trans (Nat.le_of_lt hsz) (by decide))
    · rw [List.length_append, hal]; rfl
    · refine Adr.tp (tp_set hA4) ?_
      rw [List.take_add_one, ec]
      exact Adr.app (ys := [.ref p4]) (ds := [c]) ⟨ad1_cons hst hs4 hg, trivial⟩ (Adr.tp (tp_same k34) hads)
    · intro b' o hb
      rw [upd_ne (ne_of_none hb hD)]
      exact k34 _ _ (k3 _ _ hb)
  · rintro H3 ⟨acc, hA, hal, hads, k3⟩
    rw [hlen, List.take_length] at hads
    exact q acc H3 hA hads k3
/-- the parts of a word that the walk goes over, and the letters that remain behind each -/
structure Wk (t : W) (m : Nat) (k : Nat) (part : Nat → W) (rem : Nat → Nat → List Str) : Prop where
  stp : ∀ i, i < k → t.stp (i : Int) = some (part i)
  st : ∀ i, i < k → ∀ m', rem i m' = if (part i).noEnd = true then (part i).op m' else (part i).op m' ++ rem (i + 1) (m' - ((part i).op m').length)
  en : ∀ m', rem k m' = []
  op : t.op m = rem 0 m
theorem cpl_succ {f : Nat → List Str} {e : Bool} {k m : Nat} : cpl f e (k + 1) m = if e = true then f m else f m ++ cpl f e k (m - (f m).length) := by rw [cpl]
theorem wk_join {ws : List W} {m : Nat} (o : W.Oks abc ws) : Wk (.join ws) m ws.length (fun i => ws[i]?.getD .emp) (fun i m' => W.ops (ws.drop i) m') := by
  refine ⟨fun i hi => ?_, fun i hi m' => ?_, fun m' => ?_, ?_⟩
  · have e : ws[i]? = some ws[i] := List.getElem?_eq_getElem hi
    rw [stp_join e]
    show some ws[i] = some (ws[i]?.getD .emp)
    rw [e]
    rfl
  · have e : ws[i]? = some ws[i] := List.getElem?_eq_getElem hi
    have e2 : ws[i]?.getD .emp = ws[i] := by rw [e]; rfl
    show W.ops (ws.drop i) m' = _
    rw [List.drop_eq_getElem_cons hi, ops_cons]
    show _ = if (ws[i]?.getD .emp).noEnd = true then (ws[i]?.getD .emp).op m' else (ws[i]?.getD .emp).op m' ++ W.ops (ws.drop (i + 1)) (m' - ((ws[i]?.getD .emp).op m').length)
    rw [e2]
  · show W.ops (ws.drop ws.length) m' = []
    rw [List.drop_length, ops_nil]
  · rw [op_join' o]
    rfl
theorem wk_cpl {t u : W} {m k : Nat} (hs : ∀ i, i < k → t.stp (i : Int) = some u) (ho : t.op m = cpl u.op u.noEnd k m) : Wk t m k (fun _ => u) (fun i m' => cpl u.op u.noEnd (k - i) m') := by
  refine ⟨hs, fun i hi m' => ?_, fun m' => ?_, ho⟩
  · have : k - i = (k - (i + 1)) + 1 := by omega
    show cpl u.op u.noEnd (k - i) m' = _
    rw [this, cpl_succ]
  · show cpl u.op u.noEnd (k - k) m' = []
    rw [Nat.sub_self, cpl]
def spBegin (K : PySem.W.Frag) (n : Nat) : Sp := fun vs H Q _ => ∃ v t, ∃ m : Nat, vs = [v, .int m] ∧ WV K H v t ∧ t.Ok abc ∧ t.dep ≤ n ∧ n ≤ 12 ∧ m ≤ 8 ∧ ∀ p as H', H' p = some (.lst as) → Adr K H' t as (t.op m) → Same H H' → Q (.ref p) H'
theorem sc__law_begin : FnScope ["_law_tree_here", "_law_many", "_law_found", "_law_at", "_law_total", "_law_part", "_law_spot_here"] ["_law_tree_here", "_law_many"] (defScope s__law_begin) := ⟨rfl, rfl, rfl, by decide +kernel, rfl, by decide +kernel, by decide +kernel⟩
theorem ok_begin1 (D : Df K mg "_law_begin" s__law_begin ["_law_tree_here", "_law_many"]) {n : Nat} (bi : Bi mg) (c_law_places : Cal P w K mg base 14 "_law_places" ["_law_tree_here"] (spPlaces K)) (c_law_begin : Cal P w K mg base (n + 15) "_law_begin" ["_law_tree_here", "_law_many"] (spBegin K n)) : Cal P w K mg base (n + 15 + 1) "_law_begin" ["_law_tree_here", "_law_many"] (spBegin K (n + 1)) := by
  refine D.ok sc__law_begin (fun vs H Q E h => ?_) (fun f cdv A outer s H vs Q E hr h => ?_)
  · obtain ⟨v, t, m, rfl, _⟩ := h
    rfl
  obtain ⟨v, t, m, rfl, hv, ho, hd, hn, hm, q⟩ := h
  refine ⟨_, (pss_cons (ps_if (PW.pt (pw_or (pt_cmpR op_lt (pv 1) pe_int (nomark _)) (pw_or (pt_cmpR op_eq (pe_ix ix_tup (pv 0) pe_int (fun _ _ => rfl)) pe_str (nomark _)) (pw_or (pt_cmpR op_eq (pe_ix ix_tup (pv 0) pe_int (fun _ _ => rfl)) pe_str (nomark _)) (pw_or1 (pt_cmpR op_eq (pe_own c_law_places hr (by omega) (by rfl) (pa_cons (pv 0) pa_nil)) pe_int (nomark _))))))) (pss_one (ps_ret (pe_lst pa_nil))) pss_nil)
      (pss_cons (ps_if (pt_cmpR op_eq (pe_ix ix_tup (pv 0) pe_int (fun _ _ => rfl)) pe_str (nomark _)) (pss_one (ps_ret (pe_lst (pa_cons (pe_tup pa_nil) pa_nil)))) pss_nil)
      (pss_cons (ps_asg (pe_tup (pa_cons (pe_lst pa_nil) (pa_cons pe_int pa_nil))) (pg_tup rfl (pgs_cons (pg_name (i := 2) sc__law_begin.nd rfl (.inl rfl)) (pgs_cons (pg_name (i := 3) sc__law_begin.nd rfl (.inr rfl)) pgs_nil))))
      (C8.pss_cut (ps_set (i := 4) sc__law_begin.nd rfl (.inl rfl) (pe_ifExp (pt_cmpR op_eq (pe_ix ix_tup (pv 0) pe_int (fun _ _ => rfl)) pe_str (nomark _)) (pe_callB call_len_seq (by rfl) bi.len PySem.boot_len (pa_cons (pe_ix ix_tup (pv 0) pe_int (fun _ _ => rfl)) pa_nil)) (pe_ifExp (pt_cmpR op_eq (pe_ix ix_tup (pv 0) pe_int (fun _ _ => rfl)) pe_str (nomark _)) (pe_ix ix_tup (pv 0) pe_int (fun _ _ => rfl)) (pv 1))))
      (pss_cons (ps_for PassesOwn.never rfl (pi_range1 (by rfl) bi.range (pa_cons (pe_callB (call_min2 rfl) (by rfl) bi.min (by decide +kernel) (pa_cons (pv 4) (pa_cons (pe_op op_add (pv 1) pe_int) pa_nil))) pa_nil)) (pg_name (i := 3) sc__law_begin.nd rfl (.inr rfl)) (C8.pss_cut (ps_set (i := 5) sc__law_begin.nd rfl (.inl rfl) (pe_ifExp (pt_cmpR op_eq (pe_ix ix_tup (pv 0) pe_int (fun _ _ => rfl)) pe_str (nomark _)) (pe_ix ix_tup (pe_ix ix_tup (pv 0) pe_int (fun _ _ => rfl)) (pv 3) (fun _ _ => rfl)) (pe_ix ix_tup (pv 0) pe_int (fun _ _ => rfl))))
      (C8.pss_cut (ps_if (pt_cmpR op_lt (pe_callB call_len_seq (by rfl) bi.len PySem.boot_len (pa_cons (pv 2) pa_nil)) (pv 1) (nomark _)) (pss_one (ps_set (i := 2) sc__law_begin.nd rfl (.inl rfl) (pe_op op_cat (pv 2) (pe_lc (own := [("_law_spot_here", 6)]) (g := gName 6) (tt := tYes) (te := tOp (rCatT K) (tTup (tCons (tVar 3) tNil)) (tVar 6)) rfl sc__law_begin.nd (pi_list (pe_own c_law_begin hr (by omega) (by rfl) (pa_cons (pv 5) (pa_cons (pe_op op_sub (pv 1) (pe_callB call_len_seq (by rfl) bi.len PySem.boot_len (pa_cons (pv 2) pa_nil))) pa_nil)))) (blkOk_by (N := ["_law_tree_here", "_law_many", "_law_found", "_law_at", "_law_total", "_law_part", "_law_spot_here"]) (sc := defScope s__law_begin) (by decide +kernel)) (fun _ _ _ _ _ => (pg_name (i := 6) sc__law_begin.nd rfl (.inl rfl))) (fun _ _ _ _ _ => pts_nil) (fun _ _ _ _ _ => (pe_op op_catT (pe_tup (pa_cons (pv 3) pa_nil)) (pv 6))))))) pss_nil)
      (pss_one (ps_if (pt_cmpR op_lt (pe_own c_law_places hr (by omega) (by rfl) (pa_cons (pv 5) pa_nil)) pe_int (nomark _)) (pss_one (ps_ret (pv 2))) pss_nil)))))
      (pss_one (ps_ret (pv 2)))))))), ?_⟩
  have hoA := W.Ok.mono abc_sub _ ho
  have nil0 : ∀ {H0 : Hp}, Same H H0 → t.op m = [] → Nat.zero ≤ sizeLine ∧ ∀ p, H0 p = none → Q (.ref p) (upd H0 p (.lst [])) := fun S0 e => ⟨Nat.zero_le _, fun p hp => q p [] _ upd_same (by rw [e]; trivial) (S0.trans (same_new hp))⟩
  refine ⟨_, rfl, _, _, rfl, rfl, _, rfl, ite2 (fun hc => ?_) (fun hc => ?_)⟩
  · have h0 : m = 0 := by
      have := of_decide_eq_true hc
      omega
    exact nil0 (Same.refl H) (by rw [h0, op_zero])
  have hm1 : 1 ≤ m := by
    have := of_decide_eq_false (Bool.eq_false_iff.mpr hc)
    omega
  clear hc
  -- the kind
  obtain ⟨a, kk, zs, ev, s⟩ : ∃ a kk zs, v = .ref a ∧ SqT K H a (.str kk :: zs) ∧ ((kk = "empty" → t.op m = []) ∧ (kk = "left" → t.op m = []) ∧ (kk = "letter" → ∃ c, t = .ltr c) ∧ (∀ u, t = .left u → kk = "left")) := by
    have at_ := hv.at
    cases at_ with
    | nam e s => unfold W.Ok at ho; exact ho.elim
    | emp e s => exact ⟨_, _, _, e, s, fun _ => op_emp, fun _ => op_emp, fun h => absurd h (by decide +kernel), fun _ h => nomatch h⟩
    | ltr e s => exact ⟨_, _, _, e, s, fun h => absurd h (by decide +kernel), fun h => absurd h (by decide +kernel), fun _ => ⟨_, rfl⟩, fun _ h => nomatch h⟩
    | join e s s2 hw => exact ⟨_, _, _, e, s, fun h => absurd h (by decide +kernel), fun h => absurd h (by decide +kernel), fun h => absurd h (by decide +kernel), fun _ h => nomatch h⟩
    | times e s hx => exact ⟨_, _, _, e, s, fun h => absurd h (by decide +kernel), fun h => absurd h (by decide +kernel), fun h => absurd h (by decide +kernel), fun _ h => nomatch h⟩
    | right e s hx => exact ⟨_, _, _, e, s, fun h => absurd h (by decide +kernel), fun h => absurd h (by decide +kernel), fun h => absurd h (by decide +kernel), fun _ h => nomatch h⟩
    | left e s hx => exact ⟨_, _, _, e, s, fun _ => op_left, fun _ => op_left, fun h => absurd h (by decide +kernel), fun _ _ => rfl⟩
  obtain ⟨s, k1, k2, k3, k4⟩ := s
  subst ev
  refine ⟨_, rfl, _, _, _, _, rfl, rfl, s, at_of (j := 0) (by omega) rfl, rfl, ?_⟩
  by_cases h1 : kk = "empty"
  · exact eq_yes h1 (nil0 (Same.refl H) (k1 h1))
  refine eq_no h1 ⟨_, rfl, _, _, _, _, rfl, rfl, s, at_of (j := 0) (by omega) rfl, rfl, ?_⟩
  by_cases h2 : kk = "left"
  · exact eq_yes h2 (nil0 (Same.refl H) (k2 h2))
  refine eq_no h2 ⟨_, rfl, _, t, rfl, hv, hoA, by omega, fun H0 S0 => ⟨rfl, eq0 (fun h3 => nil0 S0 (op_none ho h3 m)) (fun h3 => ?_)⟩⟩
  have hv0 := WV.tp (tp_same S0) _ hv
  have s0 := (tp_same S0).sq s
  by_cases hl : ∃ c, t = .ltr c
  · obtain ⟨c, rfl⟩ := hl
    have at_ := hv0.at
    cases at_ with
    | ltr e s =>
      cases e
      refine ⟨_, rfl, _, _, _, _, rfl, rfl, s, rfl, rfl, eq_yes rfl ⟨Nat.zero_le _, fun p1 hp1 => ⟨(by show 1 ≤ sizeLine; decide), fun p2 hp2 => ?_⟩⟩⟩
      refine q p2 [.ref p1] _ upd_same ?_ (S0.trans ((same_new hp1).trans (same_new hp2)))
      rw [op_ltr, if_neg (by omega)]
      exact ⟨⟨p1, [], rfl, (tp_new hp2).sq (SqT.of upd_same), go_nil _⟩, trivial⟩
  refine ⟨_, rfl, _, _, _, _, rfl, rfl, s0, at_of (j := 0) (by omega) rfl, rfl, eq_no (fun e => hl (k3 e)) ?_⟩
  refine ⟨Nat.zero_le _, fun pf hpf => ?_⟩
  refine ⟨(by show 2 ≤ sizeLine; decide), fun pt hpt => ?_⟩
  refine ⟨pt, [.ref pf, .int 0], rfl, SqT.of upd_same, rfl, _, _, rfl, _, _, rfl, rfl, ?_⟩
  have S1 : Same H (upd (upd H0 pf (.lst [])) pt (.tup [.ref pf, .int 0])) := S0.trans ((same_new hpf).trans (same_new hpt))
  have hF : (upd (upd H0 pf (.lst [])) pt (.tup [.ref pf, .int 0])) pf = some (.lst []) := (same_new hpt) _ _ upd_same
  generalize upd (upd H0 pf (.lst [])) pt (.tup [.ref pf, .int 0]) = H1 at S1 hF
  have hv1 := WV.tp (tp_same S1) _ hv
  have s1 := (tp_same S1).sq s
  refine ⟨fun σ' H' => ∃ (T : Int) (k : Nat) (part : Nat → W) (rem : Nat → Nat → List Str), σ' = [some (.ref a), some (.int m), some (.ref pf), some (.int 0), some (.int T), none, none] ∧ H' = H1 ∧ (if (m : Int) + 60 < T then (m : Int) + 60 else T) = (k : Int) ∧ k ≤ 100 ∧ Wk t m k part rem, ?_, ?_⟩
  · have at_ := hv1.at
    cases at_ with
    | nam e s' => unfold W.Ok at ho; exact ho.elim
    | emp e s' => exact absurd (by rw [cnt_emp]) h3
    | ltr e s' => exact absurd ⟨_, rfl⟩ hl
    | left e s' => exact absurd (k4 _ rfl) h2
    | @join a' b xs ws e s' s2 hw =>
      cases e
      have hlw := hw.length
      unfold W.Ok at ho
      refine ⟨_, rfl, _, _, _, _, rfl, rfl, s', rfl, rfl, eq_yes rfl ?_⟩
      refine ⟨_, rfl, _, _, _, _, rfl, rfl, s', rfl, b, xs, rfl, .inr s2, ?_⟩
      refine ⟨_, ws.length, _, _, rfl, rfl, ?_, by omega, wk_join ho.2⟩
      rw [hlw, if_neg (by omega)]
    | @times a' x u n' e s' hx =>
      cases e
      unfold W.Ok at ho
      refine ⟨_, rfl, _, _, _, _, rfl, rfl, s', rfl, rfl, eq_no (by decide +kernel) ?_⟩
      refine ⟨_, rfl, _, _, _, _, rfl, rfl, s', rfl, rfl, eq_yes rfl ?_⟩
      refine ⟨_, rfl, _, _, _, _, rfl, rfl, s', rfl, ?_⟩
      refine ⟨n', min n'.toNat (m + 60), _, _, rfl, rfl, ?_, by omega, wk_cpl (u := u) (fun i hi => stp_times (by omega) (by omega)) ?_⟩
      · split <;> omega
      · rw [op_times, if_neg]
        rintro (h | h)
        · omega
        · exact h3 h
    | @right a' x u e s' hx =>
      cases e
      unfold W.Ok at ho
      refine ⟨_, rfl, _, _, _, _, rfl, rfl, s', rfl, rfl, eq_no (by decide +kernel) ?_⟩
      refine ⟨_, rfl, _, _, _, _, rfl, rfl, s', rfl, rfl, eq_no (by decide +kernel) ?_⟩
      refine ⟨_, rfl, m, m, _, _, rfl, rfl, ?_, by omega, wk_cpl (u := u) (fun i hi => stp_right (by omega) ?_) ?_⟩
      · split <;> omega
      · have : (8 : Int) ≤ big := by decide
        omega
      · rw [op_right, if_neg]
        rintro (h | h)
        · omega
        · exact h3 h
  rintro σ' H' ⟨T, k, part, rem, rfl, rfl, ek, hk, wk⟩
  refine ⟨_, rfl, _, rfl, _, _, rfl, rfl, _, _, rfl, _, rfl, ?_⟩
  rw [ek]
  refine ⟨by omega, by omega, for_range (n := k) (fun i σ' H2 => ∃ pg as fc y3 y5, σ' = [some (.ref a), some (.int m), some (.ref pg), y3, some (.int T), y5, none] ∧ H2 pg = some (.lst as) ∧ Adr K H2 t as fc ∧ fc.length ≤ m ∧ fc ++ rem i (m - fc.length) = t.op m ∧ Same H' H2) ?_ ?_ ?_⟩
  · exact ⟨pf, [], [], _, _, rfl, hF, trivial, Nat.zero_le _, by rw [wk.op]; rfl, Same.refl H'⟩
  · rintro i σ' H2 hi ⟨pg, as, fc, y3, y5, rfl, hA, hads, hfl, hin, S2⟩
    have hst := wk.stp i hi
    have ou := (stp_ok ho hst).1
    have du := (stp_ok ho hst).2
    have hal := hads.len
    have hrem := wk.st i hi (m - fc.length)
    refine ⟨fun σ' H4 => ∃ x, σ' = [some (.ref a), some (.int m), some (.ref pg), some (.int (0 + (i : Int))), some (.int T), some x, none] ∧ WV K H2 x (part i) ∧ H4 = H2, ?_, ?_⟩
    · have at_ := (WV.tp (tp_same S2) _ hv1).at
      cases at_ with
      | nam e s' => unfold W.Ok at ho; exact ho.elim
      | emp e s' => cases hst
      | ltr e s' => cases hst
      | left e s' => exact absurd (k4 _ rfl) h2
      | @join a' b xs ws e s' s2 hw =>
        cases e
        have hlw := hw.length
        have hlt : i < ws.length := by
          rw [stpJ] at hst
          split at hst
          · omega
          · cases hst
        have hgx : xs[i]? = some xs[i] := List.getElem?_eq_getElem (by omega)
        obtain ⟨u, eu, hu⟩ := hw.get hgx
        have e2 : u = part i := by
          have := (stp_join eu).symm.trans hst
          exact Option.some.inj this
        refine ⟨_, rfl, _, _, _, _, rfl, rfl, s', rfl, rfl, eq_yes rfl ?_⟩
        refine ⟨_, rfl, _, _, _, _, rfl, rfl, s', rfl, _, rfl, _, _, _, _, rfl, rfl, s2, at_of (j := i) (by omega) hgx, ?_⟩
        exact ⟨_, rfl, e2 ▸ hu, rfl⟩
      | @times a' x u n' e s' hx =>
        cases e
        rw [stpT] at hst
        split at hst
        · have e2 := Option.some.inj hst
          refine ⟨_, rfl, _, _, _, _, rfl, rfl, s', rfl, rfl, eq_no (by decide +kernel) ?_⟩
          exact ⟨_, rfl, _, _, _, _, rfl, rfl, s', rfl, _, rfl, e2 ▸ hx, rfl⟩
        · cases hst
      | @right a' x u e s' hx =>
        cases e
        rw [stpR] at hst
        split at hst
        · have e2 := Option.some.inj hst
          refine ⟨_, rfl, _, _, _, _, rfl, rfl, s', rfl, rfl, eq_no (by decide +kernel) ?_⟩
          exact ⟨_, rfl, _, _, _, _, rfl, rfl, s', rfl, _, rfl, e2 ▸ hx, rfl⟩
        · cases hst
    rintro σ' H4 ⟨x, rfl, hx, rfl⟩
    refine ⟨fun σ' H5 => ∃ pg' as' fc', σ' = [some (.ref a), some (.int m), some (.ref pg'), some (.int (0 + (i : Int))), some (.int T), some x, none] ∧ H5 pg' = some (.lst as') ∧ Adr K H5 t as' fc' ∧ fc' = fc ++ (part i).op (m - fc.length) ∧ Same H4 H5, ?_, ?_⟩
    · refine ⟨_, rfl, pg, as, rfl, .inl (SqL.of hA), _, rfl, _, _, rfl, rfl, _, rfl, ite2 (fun hc => ?_) (fun hc => ?_)⟩
      · have hc' := of_decide_eq_true hc
        have ee : V.int ((m : Int) - (as.length : Nat)) = V.int ((m - fc.length : Nat) : Int) := by
          congr 1
          omega
        refine ⟨_, rfl, _, rfl, _, rfl, _, rfl, pg, as, rfl, .inl (SqL.of hA), _, _, rfl, rfl, ?_⟩
        refine ⟨x, part i, m - fc.length, congrArg (fun z => [x, z]) ee, hx, ou, by omega, by omega, by omega, fun p zs H5 hp hz S5 => ?_⟩
        have hzl := hz.len
        have hol := op_len (part i) (m - fc.length)
        refine ⟨p, rfl, ⟨zs, SqL.of hp⟩, fun D2 hD2 => ?_⟩
        refine begin_lc (m := 0 + (i : Int)) (t := t) (u := part i) (fun _ => rfl) (fun _ => rfl) (by rw [Int.zero_add]; exact hst) (SqL.of hp) hz ou (by omega) hD2 (by omega) (fun acc2 H6 hA2 hads2 S6 => ?_)
        have S46 := S5.trans S6
        have hal2 := hads2.len
        refine ⟨pg, D2, as, acc2, rfl, rfl, S46 _ _ hA, hA2, ?_, fun p6 hp6 => ?_⟩
        · exact Nat.le_trans (show as.length + acc2.length ≤ 1000 by omega) (by decide)
        have S7 : Same H6 (upd H6 p6 (.lst (as ++ acc2))) := same_new hp6
        exact ⟨p6, as ++ acc2, _, rfl, upd_same, Adr.app (Adr.tp (tp_same S7) hads2) (Adr.tp (tp_same (S46.trans S7)) hads), rfl, S46.trans S7⟩
      · have hc' := of_decide_eq_false (Bool.eq_false_iff.mpr hc)
        have e0 : m - fc.length = 0 := by omega
        exact ⟨pg, as, fc, rfl, hA, hads, by rw [e0, op_zero, List.append_nil], Same.refl H4⟩
    rintro σ' H5 ⟨pg', as', fc', rfl, hA', hads', rfl, S5⟩
    have hol := op_len (part i) (m - fc.length)
    have hx5 := WV.tp (tp_same S5) _ hx
    refine ⟨_, rfl, x, part i, rfl, hx5, W.Ok.mono abc_sub _ ou, by omega, fun H6 S6 => ⟨_, _, rfl, rfl, _, rfl, ite2 (fun hc => ?_) (fun hc => ?_)⟩⟩
    · have hc' := of_decide_eq_true hc
      have hno : (part i).noEnd = true := by
        unfold W.noEnd
        cases e : (part i).cnt abcABC with
        | none => rfl
        | some z =>
          rw [e] at hc'
          have := (W.cnt_bd (part i) ou e).1
          exact absurd hc' (by show ¬ z < 0; omega)
      rw [if_pos hno] at hrem
      refine ⟨_, rfl, q pg' as' H6 (S6 _ _ hA') ?_ (S1.trans (S2.trans (S5.trans S6)))⟩
      rw [← hin, hrem]
      exact hads'.tp (tp_same S6)
    · have hc' := of_decide_eq_false (Bool.eq_false_iff.mpr hc)
      have hno : ¬ (part i).noEnd = true := by
        unfold W.noEnd
        cases e : (part i).cnt abcABC with
        | none =>
          rw [e] at hc'
          exact absurd (show (-1 : Int) < 0 by decide) hc'
        | some z => exact fun h => nomatch (of_decide_eq_true h)
      rw [if_neg hno] at hrem
      refine ⟨pg', as', _, _, _, rfl, S6 _ _ hA', hads'.tp (tp_same S6), ?_, ?_, S2.trans (S5.trans S6)⟩
      · rw [List.length_append]
        omega
      · rw [← hin, hrem, List.length_append, List.append_assoc, Nat.sub_add_eq]
  · rintro σ' H2 ⟨pg, as, fc, y3, y5, rfl, hA, hads, hfl, hin, S2⟩
    rw [wk.en, List.append_nil] at hin
    subst hin
    exact ⟨_, rfl, q pg as H2 hA hads (S1.trans S2)⟩
theorem ok_begin (D : Df K mg "_law_begin" s__law_begin ["_law_tree_here", "_law_many"]) (bi : Bi mg) (c_law_places : Cal P w K mg base 14 "_law_places" ["_law_tree_here"] (spPlaces K)) : ∀ n : Nat, Cal P w K mg base (n + 15) "_law_begin" ["_law_tree_here", "_law_many"] (spBegin K n)
  | 0 => D.no fun vs H Q E h => by
    obtain ⟨v, t, m, _, _, _, h, _⟩ := h
    have := t.dep_pos
    omega
  | n + 1 => ok_begin1 D bi c_law_places (ok_begin D bi c_law_places n)

end
end SW

set_option Elab.async false
set_option linter.all false
set_option maxRecDepth 100000
set_option maxHeartbeats 4000000
namespace SW
open PySem PySem.Spec PyProof.Rows L2
section
variable {P : Program} {w : World} {K : PySem.W.Frag} {mg : Str → Option Value} {base : Heap}
/-! ### _law_letter -/
def spLLet (K : PySem.W.Frag) : Sp := fun vs H Q _ => ∃ v t a ns c, vs = [v, .ref a] ∧ WV K H v t ∧ SqT K H a (ns.map V.int) ∧ t.go ns = some (.ltr c) ∧ Q (.str c) H
theorem sc__law_letter : FnScope ["_law_tree_here", "_law_spot_here", "_law_here", "_law_number"] ["_law_tree_here", "_law_spot_here"] (defScope s__law_letter) := ⟨rfl, rfl, rfl, by decide +kernel, rfl, by decide +kernel, by decide +kernel⟩
theorem ok_lletter (D : Df K mg "_law_letter" s__law_letter ["_law_tree_here", "_law_spot_here"]) (bi : Bi mg) : Cal P w K mg base 1 "_law_letter" ["_law_tree_here", "_law_spot_here"] (spLLet K) := by
  refine D.ok sc__law_letter (fun vs H Q E h => ?_) (fun f cdv A outer s H vs Q E hr h => ?_)
  · obtain ⟨v, t, a, ns, c, rfl, _⟩ := h
    rfl
  obtain ⟨v, t, a, ns, c, rfl, hv, ha, hg, q⟩ := h
  refine ⟨_, (pss_cons (ps_set (i := 2) sc__law_letter.nd rfl (.inl rfl) (pv 0))
      (pss_cons (ps_for PassesOwn.never rfl (pi_tup (pv 1)) (pg_name (i := 3) sc__law_letter.nd rfl (.inl rfl)) (pss_one (ps_set (i := 2) sc__law_letter.nd rfl (.inl rfl) (pe_ifExp (pt_cmpR op_eq (pe_ix ix_tup (pv 2) pe_int (fun _ _ => rfl)) pe_str (nomark _)) (pe_ix ix_tup (pe_ix ix_tup (pv 2) pe_int (fun _ _ => rfl)) (pv 3) (fun _ _ => rfl)) (pe_ix ix_tup (pv 2) pe_int (fun _ _ => rfl))))))
      (pss_one (ps_ret (pe_ix ix_tup (pv 2) pe_int (fun _ _ => rfl)))))), ?_⟩
  refine ⟨_, rfl, _, rfl, a, rfl, ⟨_, ha⟩, for_tup (xs := ns.map V.int) (fun i σ' H' => ∃ x u y3, σ' = [some v, some (.ref a), some x, y3] ∧ H' = H ∧ WV K H x u ∧ t.go (ns.take i) = some u) ?_ ?_ ?_ ?_⟩
  · exact ⟨v, t, none, rfl, rfl, hv, go_nil _⟩
  · rintro i σ' H' _ ⟨x, u, y3, rfl, rfl, hx, hu⟩
    exact ha
  · rintro i y σ' H' hy ⟨x, u, y3, rfl, rfl, hx, hu⟩
    rw [List.getElem?_map] at hy
    cases e : ns[i]? with
    | none => rw [e] at hy; cases hy
    | some j =>
      rw [e] at hy
      cases hy
      have hi : i < ns.length := (List.getElem?_eq_some_iff.mp e).1
      have et : ns.take (i + 1) = ns.take i ++ [j] := by rw [List.take_add_one, e]; rfl
      have hd : t.go (ns.take (i + 1)) = u.go [j] := by rw [et, go_app_some hu]
      obtain ⟨u2, es⟩ := vd_take (t := t) ⟨c, hg⟩ (i + 1)
      have es2 : u.stp j = some u2 := by
        rw [hd] at es
        cases e2 : u.stp j with
        | none => rw [go_none e2] at es; cases es
        | some z => rw [go_cons e2, go_nil] at es; exact es
      exact walk_step (i := 2) (j := 3) hx es2 rfl rfl (fun y hy => ⟨y, u2, _, rfl, rfl, hy, es⟩)
  · rintro σ' H' ⟨x, u, y3, rfl, rfl, hx, hu⟩
    rw [List.length_map, List.take_length, hg] at hu
    cases hu
    have at_ := hx.at
    cases at_ with
    | ltr e s =>
      cases e
      exact ⟨_, rfl, _, _, _, _, rfl, rfl, s, rfl, q⟩


/-- the letters at addresses -/
theorem let_lc {K : PySem.W.Frag} {p D : Addr} {zs : List V} {cs : List Str} {y : V} {jv : Nat} {E : XK} {σ : L2.St} {H1 : Hp} {Qd : Hp → Prop} {t : W} (hjv : ∀ x, (σ.set 14 (some x))[jv]? = some (some y)) (h14 : ∀ x, (σ.set 14 (some x))[14]? = some (some x))
    (hy : WV K H1 y t) (hp : SqL K H1 p zs) (hz : Adr K H1 t zs cs) (hD : H1 D = none) (hsz : zs.length < 1000) (q : ∀ H3, H3 D = some (.lst (cs.map V.str)) → Same H1 H3 → Qd H3) :
    ∃ W : Nat → Nat → Hp → Prop, (∃ m, W 0 m (upd H1 D (.lst []))) ∧ ∀ i m H, W i m H →
      ((Itl K p).stop i H ∧ Qd H) ∨ ((Itl K p).go i H ∧ ∃ Nx : Hp → Prop, (∀ H', Nx H' → ∃ m', m' < m ∧ W (i + 1) m' H') ∧ ∀ x H', (Itl K p).yld i H x H' → gName 14 x (wipe σ [14]) H' fun σ2 H2 => wipe σ2 [14] = wipe σ [14] ∧ tYes σ2 H2 fun b H3 =>
        if b = true then (tCall (spLLet K) [] E (tCons (tVar jv) (tCons (tVar 14) tNil))) σ2 H3 fun y H4 => ∃ acc, H4 D = some (.lst acc) ∧ acc.length < sizeLine ∧ Nx (upd H4 D (.lst (acc ++ [y]))) else Nx H3) := by
  have hlen := hz.len
  refine lcl (xs := zs) (fun i H3 => H3 D = some (.lst ((cs.take i).map V.str)) ∧ Same H1 H3) ?_ ?_ ?_ ?_
  · exact ⟨upd_same, same_new hD⟩
  · rintro i H3 _ ⟨_, k3⟩
    exact k3.seq hp
  · rintro i x H3 hx ⟨hA, k3⟩
    have hi : i < zs.length := (List.getElem?_eq_some_iff.mp hx).1
    obtain ⟨c, ec, a, ns, rfl, s, hg⟩ := hz.get hx
    refine ⟨_, hjv _, _, h14 _, y, t, a, ns, c, rfl, WV.tp (tp_same k3) _ hy, (tp_same k3).sq s, hg, ?_⟩
    refine ⟨_, hA, ?_, ?_, ?_⟩
    · rw [List.length_map, List.length_take]
      exact Nat.lt_of_le_of_lt (show min i cs.length ≤ 1000 by omega) (by decide)
    · rw [upd_same, List.take_add_one, ec, List.map_append]
      rfl
    · intro b' o hb
      rw [upd_ne (ne_of_none hb hD)]
      exact k3 _ _ hb
  · rintro H3 ⟨hA, k3⟩
    rw [hlen, List.take_length] at hA
    exact q H3 hA k3
theorem strs_lay : ∀ {cs : List Str}, (∀ c ∈ cs, c ∈ abc) → PyData.canLayAll0 (cs.map PyData.str) = true
  | [], _ => rfl
  | c :: r, h => by
    have a := abc_ok c (abc_sub c (h c (List.mem_cons_self ..)))
    have b := strs_lay (cs := r) fun x hx => h x (List.mem_cons_of_mem _ hx)
    simp only [PyData.canLay0, PyData.canLayAll0, List.map_cons, Bool.and_true] at a b ⊢
    rw [a, b]
    rfl
theorem strs_sm (cs : List Str) (h : cs.length ≤ 1000) : Sm 1 (.list (cs.map PyData.str)) := by
  unfold Sm
  refine ⟨by rw [List.length_map]; exact h, fun d hd => ?_⟩
  obtain ⟨c, _, rfl⟩ := List.mem_map.mp hd
  unfold Sm
  trivial
theorem lay_ok {d : PyData} {n : Nat} (h : d.canLay0 = true) (s : Sm n d) (hn : n ≤ 63) : SeqAt.shaped d = true ∧ PyData.eqv d d = true := by
  refine ⟨?_, PySem.SeqAt.eqv_refl _ h⟩
  unfold SeqAt.shaped
  rw [h, decide_eq_true (p := d.depth ≤ 64) (Nat.le_trans (Sm.depth _ _ s) (by omega))]
  rfl
theorem cut_lay {x y : W} {c : Str} (hx : x.Ok abc) (hy : y.Ok abc) (hc : c ∈ abc) (dx : x.dep ≤ 20) (dy : y.dep ≤ 20) : SeqAt.shaped (.tuple [x.dat, .str c, y.dat]) = true ∧ PyData.eqv (.tuple [x.dat, .str c, y.dat]) (.tuple [x.dat, .str c, y.dat]) = true := by
  refine lay_ok (n := 50) ?_ ?_ (by decide)
  · have a := abc_ok c (abc_sub c hc)
    have b := W.lay abc_ok x (W.Ok.mono abc_sub _ hx)
    have d := W.lay abc_ok y (W.Ok.mono abc_sub _ hy)
    simp only [PyData.canLay0, PyData.canLayAll0, Bool.and_true] at a ⊢
    rw [b, d]
    first | rw [a]; rfl | exact a
  · unfold Sm
    refine ⟨by show 3 ≤ 1000; decide, fun d hd => ?_⟩
    have mx := (W.sm x (W.Ok.mono abc_sub _ hx)).mono (show 2 * x.dep ≤ 49 by omega)
    have my := (W.sm y (W.Ok.mono abc_sub _ hy)).mono (show 2 * y.dep ≤ 49 by omega)
    simp only [List.mem_cons, List.not_mem_nil, or_false] at hd
    rcases hd with rfl | rfl | rfl
    · exact mx
    · unfold Sm; trivial
    · exact my
theorem dp_strs {K : PySem.W.Frag} {H : Hp} : ∀ cs : List Str, DpAll K H (cs.map V.str) (cs.map PyData.str)
  | [] => .nil
  | c :: r => .cons (.str c) (dp_strs r)
theorem Adr.abc {K : PySem.W.Frag} {H : Hp} {t : W} (o : t.Ok abc) : ∀ {xs : List V} {cs : List Str}, Adr K H t xs cs → ∀ c ∈ cs, c ∈ abc
  | [], [], _, c, h => (List.not_mem_nil h).elim
  | [], _ :: _, h, _, _ => h.elim
  | _ :: _, [], h, _, _ => h.elim
  | x :: xs, d :: cs, h, c, hc => by
    rcases List.mem_cons.mp hc with e | e
    · subst e
      obtain ⟨a, ns, _, _, g⟩ := h.1
      have := (go_ok _ o g).1
      unfold W.Ok at this
      exact this
    · exact Adr.abc o (xs := xs) (cs := cs) h.2 c e

/-- two words of the same letters -/
structure Pair (x y : W) : Prop where
  ox : x.Ok abc
  oy : y.Ok abc
  dx : x.dep ≤ 12
  dy : y.dep ≤ 12
  al : Alike x y
theorem Pair.mir {x y : W} (p : Pair x y) : Pair x.mir y.mir := by
  refine ⟨W.mir_ok x p.ox, W.mir_ok y p.oy, by rw [W.mir_dep]; exact p.dx, by rw [W.mir_dep]; exact p.dy, ⟨p.al.mop, fun m => ?_, fun L => ?_⟩⟩
  · rw [W.mir_mir, W.mir_mir]
    exact p.al.op m
  · rw [W.mir_cnt, W.mir_cnt]
    exact p.al.cnt L
theorem tms_ok {L : List Str} {w : W} {n : Int} (o : w.Ok L) (h : 0 ≤ n) (h2 : n ≤ big) : (tms w n).Ok L := by
  show (W.times w n).Ok L
  unfold W.Ok
  exact ⟨h, h2, o⟩
theorem tms_dep {w : W} {n : Int} : (tms w n).dep ≤ w.dep + 1 := by
  show (W.times w n).dep ≤ _
  rw [W.dep]
  exact Nat.le_refl _
theorem pairs {t : W} {ns : List Int} {c : Str} (o3 : t.Ok3 abc) (hd : t.dep ≤ 6) (hg : t.go ns = some (.ltr c)) : Pair (jnd (befs rep t ns)) (.join ([.emp, .emp] ++ befs tms t ns)) ∧ Pair (jnd (afts rep t ns)) (.join (afts tms t ns ++ [.emp, .emp])) := by
  have o := W.Ok3.ok _ o3
  have hn : ns.length ≤ 5 := by
    have := (go_ok _ o hg).2
    have := (W.ltr c).dep_pos
    omega
  obtain ⟨o1, o2, n1, n2⟩ := befs_ok rep (fun w n o h h2 => rep_ok o h h2) (fun w n => rep_dep) ns o3 ⟨c, hg⟩
  obtain ⟨p1, p2, m1, m2⟩ := befs_ok tms (fun w n o h h2 => tms_ok o h h2) (fun w n => tms_dep) ns o3 ⟨c, hg⟩
  obtain ⟨e1, e2⟩ := befs_els ns o ⟨c, hg⟩
  have ks : ∀ {l : List W}, (∀ x ∈ l, x.Ok abc ∧ x.dep ≤ t.dep) → W.Oks abc l := fun h => W.oks_of fun w hw => (h w hw).1
  have emp2 : ∀ w ∈ ([.emp, .emp] : List W), w = .emp := fun w h => by
    simp only [List.mem_cons, List.not_mem_nil, or_false, or_self] at h
    exact h
  have nil2 : ∀ w ∈ ([] : List W), w = .emp := fun w h => (List.not_mem_nil h).elim
  have okE : (W.emp).Ok abc := by unfold W.Ok; trivial
  have dpE : (W.emp).dep ≤ 6 := by decide +kernel
  refine ⟨⟨jnd_ok (ks o1) (by omega), ?_, ?_, ?_, ?_⟩, ⟨jnd_ok (ks o2) (by omega), ?_, ?_, ?_, ?_⟩⟩
  · unfold W.Ok
    refine ⟨by rw [List.length_append]; show 2 + _ ≤ 16; omega, W.oks_of fun w hw => ?_⟩
    rcases List.mem_append.mp hw with h | h
    · rw [emp2 w h]; exact okE
    · exact (p1 w h).1
  · have := jnd_dep (ws := befs rep t ns) (n := 6) fun w hw => Nat.le_trans (o1 w hw).2 hd
    omega
  · rw [W.dep]
    have := W.deps_le (ws := [.emp, .emp] ++ befs tms t ns) (n := 6) fun w hw => by
      rcases List.mem_append.mp hw with h | h
      · rw [emp2 w h]; exact dpE
      · exact Nat.le_trans (p1 w h).2 hd
    omega
  · have := alike_of [.emp, .emp] [] (ks o1) (ks p1) e1 emp2 nil2
    rw [List.append_nil] at this
    exact this
  · unfold W.Ok
    refine ⟨by rw [List.length_append]; show _ + 2 ≤ 16; omega, W.oks_of fun w hw => ?_⟩
    rcases List.mem_append.mp hw with h | h
    · exact (p2 w h).1
    · rw [emp2 w h]; exact okE
  · have := jnd_dep (ws := afts rep t ns) (n := 6) fun w hw => Nat.le_trans (o2 w hw).2 hd
    omega
  · rw [W.dep]
    have := W.deps_le (ws := afts tms t ns ++ [.emp, .emp]) (n := 6) fun w hw => by
      rcases List.mem_append.mp hw with h | h
      · exact Nat.le_trans (p2 w h).2 hd
      · rw [emp2 w h]; exact dpE
    omega
  · have := alike_of [] [.emp, .emp] (ks o2) (ks p2) e2 nil2 emp2
    rw [List.nil_append] at this
    exact this
theorem dp_toV {K : PySem.W.Frag} {H : Hp} (o : Option Int) : ∃ d, Dp K H (toV o) d ∧ Sm 19 d := by
  cases o with
  | none => exact ⟨_, .non, by unfold Sm; trivial⟩
  | some m => exact ⟨_, .int m, by unfold Sm; trivial⟩
def abL : W := .left (.join [.ltr "a", .ltr "b"])
theorem abL_ok : abL.Ok3 abc ∧ abL.dep ≤ 6 := by
  refine ⟨?_, by decide +kernel⟩
  simp [abL, W.Ok3, W.Oks3, abc]
theorem abL_go : abL.go [(10 : Int) ^ (30 : Int).toNat, 0] = some (.ltr "a") := by
  have h1 : abL.stp ((10 : Int) ^ (30 : Int).toNat) = some (.join [.ltr "a", .ltr "b"]) := stp_left (by decide) (by decide)
  have h2 : (W.join [.ltr "a", .ltr "b"]).stp 0 = some (.ltr "a") := stp_join (k := 0) rfl
  rw [go_cons h1, go_cons h2, go_nil]
theorem abL_a : (jnd (afts rep abL [(10 : Int) ^ (30 : Int).toNat, 0])).cnt ["a"] = some ((10 : Int) ^ (30 : Int).toNat) := by decide +kernel
theorem abL_b : (jnd (befs rep abL [(10 : Int) ^ (30 : Int).toNat, 0])).cnt ["b"] = none := by decide +kernel
theorem sc_law : FnScope ["_law_script", "_law_rng", "_law_turn", "_law_tree_here", "_law_spot_here", "_law_found", "_law_due", "_law_k", "_law_told_here", "_law_side", "_law_letter_here", "_law_here", "_law_there", "_law_mine", "_law_place"] ["_law_script"] (defScope s_law) := ⟨rfl, rfl, rfl, by decide +kernel, rfl, by decide +kernel, by decide +kernel⟩
theorem ok_law (D : Df K mg "law" s_law ["_law_script"]) (bi : Bi mg)
    (c_law_draws : Cal P w K mg base 1 "_law_draws" ["_law_script"] (spDraws K)) (c_law_wide : Cal P w K mg base 7 "_law_wide" ["_law_rng"] (spWord K 6)) (c_law_spot : Cal P w K mg base 20 "_law_spot" ["_law_rng", "_law_tree_here"] (spSpot K 6))
    (ccut : Cal P w K mg base 7 "cut" ["word", "address"] (spCut K)) (c_law_same : Cal P w K mg base 20 "_law_same" ["_law_found", "_law_due"] (spSame K 20)) (c_law_letter : Cal P w K mg base 1 "_law_letter" ["_law_tree_here", "_law_spot_here"] (spLLet K))
    (c_law_sides : Cal P w K mg base 2 "_law_sides" ["_law_tree_here", "_law_spot_here"] (spSides K)) (cletter_count : Cal P w K mg base 13 "letter_count" ["word", "letter"] (spLc K)) (c_law_told : Cal P w K mg base 1 "_law_told" ["_law_count_here"] spTold) (c_law_count : Cal P w K mg base 13 "_law_count" ["_law_tree_here", "_law_letters"] (spLCnt K 12))
    (c_law_turned : Cal P w K mg base 12 "_law_turned" ["_law_tree_here"] (spMir K 12)) (c_law_begin : Cal P w K mg base 27 "_law_begin" ["_law_tree_here", "_law_many"] (spBegin K 12)) (Dcut : Df K mg "cut" s_cut ["word", "address"]) :
    Cal P w K mg base 31 "law" ["_law_script"] (spLaw K) := by
  refine D.ok sc_law (fun vs H Q E h => ?_) (fun f cdv A outer s H vs Q E hr h => ?_)
  · obtain ⟨a, ns, rfl, _⟩ := h
    rfl
  obtain ⟨a, ns, rfl, hS, q⟩ := h
  refine ⟨_, (pss_cons (ps_set (i := 1) sc_law.nd rfl (.inl rfl) (pe_own c_law_draws hr (by omega) (by rfl) (pa_cons (pv 0) pa_nil)))
      (pss_cons (ps_for PassesOwn.never rfl (pi_range1 (by rfl) bi.range (pa_cons pe_int pa_nil)) (pg_name (i := 2) sc_law.nd rfl (.inl rfl)) (pss_cons (ps_set (i := 3) sc_law.nd rfl (.inl rfl) (pe_own c_law_wide hr (by omega) (by rfl) (pa_cons (pv 1) pa_nil)))
      (pss_cons (ps_set (i := 4) sc_law.nd rfl (.inl rfl) (pe_own c_law_spot hr (by omega) (by rfl) (pa_cons (pv 1) (pa_cons (pv 3) pa_nil))))
      (pss_cons (ps_if (pt_cmpR op_isN (pv 4) pe_non (nomark _)) (pss_one ps_continue) pss_nil)
      (pss_cons (ps_set (i := 5) sc_law.nd rfl (.inl rfl) (pe_own ccut hr (by omega) (by rfl) (pa_cons (pv 3) (pa_cons (pv 4) pa_nil))))
      (pss_cons (ps_if (PW.pt (pw_or (pt_not (pt_val (pe_callB call_isi (by rfl) bi.isinstance (by decide +kernel) (pa_cons (pv 5) (pa_cons (pe_bltn (v := .ty "tuple") (u := .type "tuple") (by rfl) bi.tuple (by decide +kernel) rfl) pa_nil))))) (pw_or (pt_cmpR op_ne (pe_callB call_len_seq (by rfl) bi.len PySem.boot_len (pa_cons (pv 5) pa_nil)) pe_int (nomark _)) (pw_or1 (pt_not (pt_val (pe_own c_law_same hr (by omega) (by rfl) (pa_cons (pe_ix ix_tup (pv 5) pe_int (fun _ _ => rfl)) (pa_cons (pe_own c_law_letter hr (by omega) (by rfl) (pa_cons (pv 3) (pa_cons (pv 4) pa_nil))) pa_nil))))))))) (pss_one (ps_ret pe_bl)) pss_nil)
      (pss_cons (ps_set (i := 6) sc_law.nd rfl (.inl rfl) (pe_own c_law_sides hr (by omega) (by rfl) (pa_cons (pv 3) (pa_cons (pv 4) pa_nil))))
      (pss_cons (ps_for PassesOwn.never rfl (pi_range1 (by rfl) bi.range (pa_cons pe_int pa_nil)) (pg_name (i := 7) sc_law.nd rfl (.inl rfl)) (pss_cons (ps_par (i := 8) (j := 9) rfl sc_law.nd rfl rfl (by decide) rfl rfl (pa_cons (pe_ix ix_tup (pv 5) (pe_op op_mul pe_int (pv 7)) (fun _ _ => rfl)) (pa_cons (pe_ix ix_tup (pv 6) (pv 7) (fun _ _ => rfl)) pa_nil)) (by rfl))
      (pss_cons (ps_for PassesOwn.never rfl (pi_list (pe_lst (pa_cons pe_str (pa_cons pe_str (pa_cons pe_str pa_nil))))) (pg_name (i := 10) sc_law.nd rfl (.inl rfl)) (pss_one (ps_if (pt_not (pt_val (pe_own c_law_same hr (by omega) (by rfl) (pa_cons (pe_own cletter_count hr (by omega) (by rfl) (pa_cons (pv 8) (pa_cons (pv 10) pa_nil))) (pa_cons (pe_own c_law_told hr (by omega) (by rfl) (pa_cons (pe_own c_law_count hr (by omega) (by rfl) (pa_cons (pv 9) (pa_cons (pe_lst (pa_cons (pv 10) pa_nil)) pa_nil))) pa_nil)) pa_nil))))) (pss_one (ps_ret pe_bl)) pss_nil)))
      (pss_one (ps_for PassesOwn.never rfl (pi_tup (pe_tup (pa_cons (pe_tup (pa_cons (pv 8) (pa_cons (pv 9) pa_nil))) (pa_cons (pe_tup (pa_cons (pe_own c_law_turned hr (by omega) (by rfl) (pa_cons (pv 8) pa_nil)) (pa_cons (pe_own c_law_turned hr (by omega) (by rfl) (pa_cons (pv 9) pa_nil)) pa_nil))) pa_nil)))) (pg_tup rfl (pgs_cons (pg_name (i := 11) sc_law.nd rfl (.inr rfl)) (pgs_cons (pg_name (i := 12) sc_law.nd rfl (.inr rfl)) pgs_nil))) (pss_cons (ps_setLc (i := 13) (own := [("_law_place", 14)]) (g := gName 14) (tt := tYes) rfl sc_law.nd rfl rfl (sw_true rfl rfl rfl (by decide +kernel)) (pi_list (pe_own c_law_begin hr (by omega) (by rfl) (pa_cons (pv 12) (pa_cons pe_int pa_nil)))) (blkOk_by (N := ["_law_script", "_law_rng", "_law_turn", "_law_tree_here", "_law_spot_here", "_law_found", "_law_due", "_law_k", "_law_told_here", "_law_side", "_law_letter_here", "_law_here", "_law_there", "_law_mine", "_law_place"]) (sc := defScope s_law) (by decide +kernel)) (fun _ _ _ _ _ => (pg_name (i := 14) sc_law.nd rfl (.inl rfl))) (fun _ _ _ _ _ => pts_nil) (fun _ _ _ _ _ => (pe_own c_law_letter hr (by omega) (by rfl) (pa_cons (pv 12) (pa_cons (pv 14) pa_nil)))))
      (pss_one (ps_if (pt_cmpR (op_neD hr.units) (pe_lc (own := [("_law_place", 14)]) (g := gName 14) (tt := tYes) rfl sc_law.nd (pi_list (pe_own c_law_begin hr (by omega) (by rfl) (pa_cons (pv 11) (pa_cons pe_int pa_nil)))) (blkOk_by (N := ["_law_script", "_law_rng", "_law_turn", "_law_tree_here", "_law_spot_here", "_law_found", "_law_due", "_law_k", "_law_told_here", "_law_side", "_law_letter_here", "_law_here", "_law_there", "_law_mine", "_law_place"]) (sc := defScope s_law) (by decide +kernel)) (fun _ _ _ _ _ => (pg_name (i := 14) sc_law.nd rfl (.inl rfl))) (fun _ _ _ _ _ => pts_nil) (fun _ _ _ _ _ => (pe_own c_law_letter hr (by omega) (by rfl) (pa_cons (pv 11) (pa_cons (pv 14) pa_nil))))) (pv 13) (nomark _)) (pss_one (ps_ret pe_bl)) pss_nil))))))))
      (pss_one (ps_if (pt_cmpR (op_neD hr.units) (pe_ownK0 (ks := ["address", "word"]) (g := g2s) (gV := g2s) ccut Dcut hr (by omega) (by rfl) (fun _ _ _ _ _ _ us ws hl => by obtain ⟨_, _, rfl, rfl⟩ := g2s_inv hl; rfl) g2s_rel (pk_cons (pv 4) (pk_cons (pv 3) pk_nil))) (pv 5) (nomark _)) (pss_one (ps_ret pe_bl)) pss_nil))))))))))
      (pss_cons (ps_set (i := 5) sc_law.nd rfl (.inl rfl) (pe_own ccut hr (by omega) (by rfl) (pa_cons (pe_tup (pa_cons pe_str (pa_cons (pe_tup (pa_cons pe_str (pa_cons (pe_tup (pa_cons (pe_tup (pa_cons pe_str (pa_cons pe_str pa_nil))) (pa_cons (pe_tup (pa_cons pe_str (pa_cons pe_str pa_nil))) pa_nil))) pa_nil))) pa_nil))) (pa_cons (pe_tup (pa_cons (pe_op op_pow pe_int pe_int) (pa_cons pe_int pa_nil))) pa_nil))))
      (pss_one (ps_ret (pe_and (pe_cmpR op_eq (pe_own cletter_count hr (by omega) (by rfl) (pa_cons (pe_ix ix_tup (pv 5) pe_int (fun _ _ => rfl)) (pa_cons pe_str pa_nil))) (pe_op op_pow pe_int pe_int) (nomark _)) (pe_and (pe_cmpR op_isN (pe_own cletter_count hr (by omega) (by rfl) (pa_cons (pe_ix ix_tup (pv 5) pe_int (fun _ _ => rfl)) (pa_cons pe_str pa_nil))) pe_non (nomark _)) (pe_one (pe_cmpR op_eq (pe_ix ix_tup (pv 5) pe_int (fun _ _ => rfl)) pe_str (nomark _)))))))))), ?_⟩
  refine ⟨_, rfl, a, ns, rfl, hS, fun r l H1 g1 k1 => ?_⟩
  refine ⟨4, rfl, by decide, by decide, for_range (n := 4) (fun i σ' H' => ∃ y2 y3 y4 y5 y6 y7 y8 y9 y10 y11 y12 y13, σ' = [some (.ref a), some (.ref r), y2, y3, y4, y5, y6, y7, y8, y9, y10, y11, y12, y13, none] ∧ Rng H' r l) ?_ ?_ ?_⟩
  · exact ⟨none, none, none, none, none, none, none, none, none, none, none, none, rfl, g1⟩
  · rintro i0 σ' H2 _ ⟨y2, y3, y4, y5, y6, y7, y8, y9, y10, y11, y12, y13, rfl, g2⟩
    refine ⟨_, rfl, r, l, rfl, g2, fun v t H3 hv ho3 hd g3 k3 => ?_⟩
    have ho := W.Ok3.ok _ ho3
    refine ⟨_, rfl, _, rfl, r, l, v, t, rfl, hv, ho, hd, by decide, g3, fun hz hL H4 g4 k4 => ?_, fun ms p H4 hvd hnl hs4 g4 k4 => ?_⟩
    · exact ⟨_, rfl, rfl, true, congrArg V.bl (decide_eq_true rfl), _, _, _, _, _, _, _, _, _, _, _, _, rfl, g4⟩
    refine ⟨_, rfl, rfl, false, congrArg V.bl (decide_eq_false (fun h => nomatch h)), ?_⟩
    obtain ⟨c, hg⟩ := hvd
    have hc : c ∈ abc := by
      have := (go_ok _ ho hg).1
      unfold W.Ok at this
      exact this
    obtain ⟨P1, P2⟩ := pairs ho3 hd hg
    obtain ⟨z3, hz3⟩ : ∃ z, H3 r = some (.lst z) := g3.lst
    have hv4 := WV.tp (k4.tp hz3) _ hv
    refine ⟨_, rfl, _, rfl, v, t, p, ms, c, rfl, hv4, ho3, by omega, hs4, hg, fun pf v1 v2 H5 hpf hv1 hv2 k5 => ?_⟩
    have t5 := tp_same k5
    refine ⟨_, rfl, _, _, _, _, true, rfl, .ty _, SqT.ty hpf, kit_ty (by decide +kernel), _, rfl, ?_⟩
    refine ⟨_, rfl, pf, _, rfl, .inr hpf, rfl, _, rfl, ?_⟩
    refine ⟨_, rfl, _, _, _, _, rfl, rfl, hpf, at_of (j := 1) (by omega) rfl, _, rfl, _, rfl, v, t, p, ms, c, rfl, WV.tp t5 _ hv4, t5.sq hs4, hg, ?_⟩
    refine ⟨_, _, .str c, rfl, .str c, .str c, (by unfold Sm; trivial), fun H6 k6 => ⟨true, rfl, ?_⟩⟩
    have S46 : Same H4 H6 := k5.trans k6
    have t46 := tp_same S46
    refine ⟨_, rfl, _, rfl, v, t, p, ms, c, rfl, WV.tp t46 _ hv4, ho3, by omega, t46.sq hs4, hg, fun pd w1 w2 H7 hpd hw1 hw2 k7 => ?_⟩
    have S47 := S46.trans k7
    have t47 := tp_same S47
    have S57 := k6.trans k7
    have t57 := tp_same S57
    have hpf7 := t57.sq hpf
    have hv17 := WV.tp t57 _ hv1
    have hv27 := WV.tp t57 _ hv2
    have hv7 := WV.tp t47 _ hv4
    have hs7 := t47.sq hs4
    have g7 : Rng H7 r l := g4.of (fun o h => S47 _ _ h) (fun o h => S47 _ _ h)
    clear hpf hv1 hv2 hv4 hs4 S57 t57 S46 t46 S47 t47 k6 k7 k5 t5
    refine ⟨2, rfl, by decide, by decide, for_range (n := 2) (fun i1 σ' H' => ∃ y7 y8 y9 y10 y11 y12 y13, σ' = [some (.ref a), some (.ref r), some (.int (0 + (i0 : Int))), some v, some (.ref p), some (.ref pf), some (.ref pd), y7, y8, y9, y10, y11, y12, y13, none] ∧ Same H7 H') ?_ ?_ ?_⟩
    · exact ⟨_, _, _, _, _, _, _, rfl, Same.refl H7⟩
    · rintro i1 σ' H8 hi1 ⟨y7, y8, y9, y10, y11, y12, y13, rfl, S8⟩
      have t8 := tp_same S8
      obtain ⟨x1, u1, x2, u2, e5, e6, hx1, hx2, PP⟩ : ∃ x1 u1 x2 u2, [v1, .str c, v2][2 * i1]? = some x1 ∧ [w1, w2][i1]? = some x2 ∧ WV K H8 x1 u1 ∧ WV K H8 x2 u2 ∧ Pair u1 u2 := by
        match i1, hi1 with
        | 0, _ => exact ⟨v1, _, w1, _, rfl, rfl, WV.tp t8 _ hv17, WV.tp t8 _ hw1, P1⟩
        | 1, _ => exact ⟨v2, _, w2, _, rfl, rfl, WV.tp t8 _ hv27, WV.tp t8 _ hw2, P2⟩
      refine ⟨_, rfl, _, rfl, _, _, rfl, rfl, .inl ⟨by decide, by decide⟩, _, _, _, _, rfl, rfl, t8.sq hpf7, at_of (j := 2 * i1) (by omega) e5, _, rfl, _, rfl, _, _, _, _, rfl, rfl, t8.sq hpd, at_of (j := i1) (by omega) e6, _, _, rfl, ?_⟩
      have oA1 := W.Ok.mono abc_sub _ PP.ox
      have oA2 := W.Ok.mono abc_sub _ PP.oy
      refine ⟨(by show 3 ≤ sizeLine; decide), fun pl hpl => ⟨pl, rfl, ⟨_, SqL.of upd_same⟩, for_list (xs := (["a", "b", "c"] : List Str).map V.str) (fun j σ' H' => ∃ y10, σ' = [some (.ref a), some (.ref r), some (.int (0 + (i0 : Int))), some v, some (.ref p), some (.ref pf), some (.ref pd), some (.int (0 + (i1 : Int))), some x1, some x2, y10, y11, y12, y13, none] ∧ Same (upd H8 pl (.lst ((["a", "b", "c"] : List Str).map V.str))) H') ?_ ?_ ?_ ?_⟩⟩
      · exact ⟨_, rfl, Same.refl _⟩
      · rintro j σ' H9 _ ⟨y10, rfl, S9⟩
        exact SqL.of (S9 _ _ upd_same)
      · rintro j y σ' H9 hy ⟨y10, rfl, S9⟩
        rw [List.getElem?_map] at hy
        obtain ⟨c', _, rfl⟩ := Option.map_eq_some_iff.mp hy
        have t9 := tp_same ((same_new hpl).trans S9)
        refine ⟨_, rfl, _, rfl, x1, u1, c', rfl, WV.tp t9 _ hx1, oA1, PP.dx, fun H11 k11 => ?_⟩
        refine ⟨_, rfl, _, rfl, (by show 1 ≤ sizeLine; decide), fun pq hpq => ?_⟩
        refine ⟨x2, u2, pq, [c'], rfl, WV.tp (t9.trans (tp_same (k11.trans (same_new hpq)))) _ hx2, oA2, PP.dy, by decide, SqL.of upd_same, fun H12 k12 => ?_⟩
        obtain ⟨dd, h1, h2⟩ := dp_toV (K := K) (H := H12) (u2.cnt [c'])
        refine ⟨u2.cnt [c'], rfl, fun m e => (W.cnt_bd u2 PP.oy e).1, ?_⟩
        refine ⟨_, _, dd, rfl, by rw [PP.al.cnt]; exact h1, h1, h2, fun H13 k13 => ⟨true, rfl, ?_⟩⟩
        exact ⟨_, rfl, S9.trans (k11.trans ((same_new hpq).trans (k12.trans k13)))⟩
      · rintro σ' H9 ⟨y10, rfl, S9⟩
        have S89 := (same_new hpl).trans S9
        have hx19 := WV.tp (tp_same S89) _ hx1
        have hx29 := WV.tp (tp_same S89) _ hx2
        refine ⟨_, rfl, _, rfl, (by show 2 ≤ sizeLine; decide), fun q1 hq1 => ?_⟩
        have T1 := tp_new (o := .tup [x1, x2]) hq1
        refine ⟨_, rfl, x1, u1, rfl, WV.tp T1 _ hx19, oA1, PP.dx, fun m1 H14 hm1 k14 => ?_⟩
        refine ⟨_, rfl, x2, u2, rfl, WV.tp (T1.trans (tp_same k14)) _ hx29, oA2, PP.dy, fun m2 H15 hm2 k15 => ?_⟩
        refine ⟨(by show 2 ≤ sizeLine; decide), fun q2 hq2 => ⟨(by show 2 ≤ sizeLine; decide), fun q3 hq3 => ?_⟩⟩
        have S15 : Same (upd H9 q1 (.tup [x1, x2])) (upd (upd H15 q2 (.tup [m1, m2])) q3 (.tup [.ref q1, .ref q2])) := k14.trans (k15.trans ((same_new hq2).trans (same_new hq3)))
        have S23 : Same H15 (upd (upd H15 q2 (.tup [m1, m2])) q3 (.tup [.ref q1, .ref q2])) := (same_new hq2).trans (same_new hq3)
        have sq1 := (tp_same S15).sq (SqT.of (K := K) (xs := [x1, x2]) upd_same)
        have sq2 := (tp_new (o := .tup [.ref q1, .ref q2]) hq3).sq (SqT.of (K := K) (xs := [m1, m2]) upd_same)
        have sq3 : SqT K (upd (upd H15 q2 (.tup [m1, m2])) q3 (.tup [.ref q1, .ref q2])) q3 [.ref q1, .ref q2] := SqT.of upd_same
        have z1 := WV.tp (T1.trans (tp_same S15)) _ hx19
        have z2 := WV.tp (T1.trans (tp_same S15)) _ hx29
        have z3 := WV.tp (tp_same (k15.trans S23)) _ hm1
        have z4 := WV.tp (tp_same S23) _ hm2
        have S9q : Same H9 (upd (upd H15 q2 (.tup [m1, m2])) q3 (.tup [.ref q1, .ref q2])) := (same_new hq1).trans S15
        generalize upd (upd H15 q2 (.tup [m1, m2])) q3 (.tup [.ref q1, .ref q2]) = H16 at sq1 sq2 sq3 z1 z2 z3 z4 S9q
        refine ⟨q3, rfl, ⟨_, sq3⟩, for_tup (xs := [.ref q1, .ref q2]) (fun j σ' H' => ∃ y11 y12 y13, σ' = [some (.ref a), some (.ref r), some (.int (0 + (i0 : Int))), some v, some (.ref p), some (.ref pf), some (.ref pd), some (.int (0 + (i1 : Int))), some x1, some x2, y10, y11, y12, y13, none] ∧ Same H16 H') ?_ ?_ ?_ ?_⟩
        · exact ⟨_, _, _, rfl, Same.refl _⟩
        · rintro j σ' H17 _ ⟨y11, y12, y13, rfl, S17⟩
          exact (tp_same S17).sq sq3
        · rintro j y σ' H17 hy ⟨y11, y12, y13, rfl, S17⟩
          have t17 := tp_same S17
          obtain ⟨qq, w3, w4, s3, s4, rfl, hqq, hw3, hw4, PQ⟩ : ∃ qq w3 w4 s3 s4, y = .ref qq ∧ SqT K H17 qq [w3, w4] ∧ WV K H17 w3 s3 ∧ WV K H17 w4 s4 ∧ Pair s3 s4 := by
            match j, hy with
            | 0, hy => cases hy; exact ⟨_, _, _, _, _, rfl, t17.sq sq1, WV.tp t17 _ z1, WV.tp t17 _ z2, PP⟩
            | 1, hy => cases hy; exact ⟨_, _, _, _, _, rfl, t17.sq sq2, WV.tp t17 _ z3, WV.tp t17 _ z4, PP.mir⟩
            | (n + 2), hy => cases hy
          refine ⟨qq, [w3, w4], rfl, hqq, rfl, _, _, rfl, _, _, rfl, rfl, ?_⟩
          refine ⟨_, rfl, w4, s4, 8, rfl, hw4, PQ.oy, PQ.dy, by decide, by decide, fun pb as H18 hpb hads k18 => ?_⟩
          have hl1 : as.length < 1000 := by
            have := hads.len
            have := op_len s4 8
            omega
          refine ⟨pb, rfl, ⟨_, SqL.of hpb⟩, fun D1 hD1 => ?_⟩
          refine let_lc (fun _ => rfl) (fun _ => rfl) (WV.tp (tp_same k18) _ hw4) (SqL.of hpb) hads hD1 hl1 (fun H19 hD19 k19 => ?_)
          have k189 := k18.trans k19
          refine ⟨_, rfl, w3, s3, 8, rfl, WV.tp (tp_same k189) _ hw3, PQ.ox, PQ.dx, by decide, by decide, fun pb2 as2 H20 hpb2 hads2 k20 => ?_⟩
          have hl2 : as2.length < 1000 := by
            have := hads2.len
            have := op_len s3 8
            omega
          refine ⟨pb2, rfl, ⟨_, SqL.of hpb2⟩, fun D2 hD2 => ?_⟩
          refine let_lc (fun _ => rfl) (fun _ => rfl) (WV.tp (tp_same (k189.trans k20)) _ hw3) (SqL.of hpb2) hads2 hD2 hl2 (fun H21 hD21 k21 => ?_)
          have cs_ok := hads.abc PQ.oy
          have cs_len : (s4.op 8).length ≤ 1000 := Nat.le_trans (op_len s4 8) (by decide)
          have lay := lay_ok (d := .list ((s4.op 8).map PyData.str)) (n := 1) (by simp only [PyData.canLay0]; exact strs_lay cs_ok) (strs_sm _ cs_len) (by decide)
          have eop : s3.op 8 = s4.op 8 := PQ.al.op 8
          rw [eop] at hD21
          refine ⟨_, rfl, .list ((s4.op 8).map PyData.str), .list ((s4.op 8).map PyData.str), .lst (SqL.of hD21) (dp_strs _), .lst (SqL.of ((k20.trans k21) _ _ hD19)) (dp_strs _), lay.1, lay.1, false, by rw [lay.2]; rfl, ?_⟩
          exact ⟨_, _, _, rfl, S17.trans (k189.trans (k20.trans k21))⟩
        · rintro σ' H17 ⟨y11, y12, y13, rfl, S17⟩
          exact ⟨_, _, _, _, _, _, _, rfl, S8.trans (S89.trans (S9q.trans S17))⟩
    · rintro σ' H8 ⟨y7, y8, y9, y10, y11, y12, y13, rfl, S8⟩
      have t8 := tp_same S8
      refine ⟨_, rfl, _, rfl, v, t, p, ms, c, rfl, WV.tp t8 _ hv7, ho3, by omega, t8.sq hs7, hg, fun pf2 v3 v4 H9 hpf2 hv3 hv4 k9 => ?_⟩
      have t9 := tp_same (S8.trans k9)
      have lay := cut_lay P1.ox P2.ox hc (Nat.le_trans P1.dx (by decide)) (Nat.le_trans P2.dx (by decide))
      refine ⟨_, rfl, _, _, .tup hpf2 (.cons hv3 (.cons (.str c) (.cons hv4 .nil))), .tup (t9.sq hpf7) (.cons (WV.tp t9 _ hv17) (.cons (.str c) (.cons (WV.tp t9 _ hv27) .nil))), lay.1, lay.1, false, by rw [lay.2]; rfl, ?_⟩
      have S79 := S8.trans k9
      exact ⟨_, _, _, _, _, _, _, _, _, _, _, _, rfl, g7.of (fun o h => S79 _ _ h) (fun o h => S79 _ _ h)⟩
  · rintro σ' H2 ⟨y2, y3, y4, y5, y6, y7, y8, y9, y10, y11, y12, y13, rfl, g2⟩
    refine ⟨(by show 2 ≤ sizeLine; decide), fun pa ha => ⟨(by show 2 ≤ sizeLine; decide), fun pb hb => ⟨(by show 2 ≤ sizeLine; decide), fun pt ht => ⟨(by show 2 ≤ sizeLine; decide), fun pj hj => ⟨(by show 2 ≤ sizeLine; decide), fun pl hpl => ?_⟩⟩⟩⟩⟩
    have t1 := tp_new (o := .tup [.str "letter", .str "a"]) ha
    have t2 := tp_new (o := .tup [.str "letter", .str "b"]) hb
    have t3 := tp_new (o := .tup [.ref pa, .ref pb]) ht
    have t4 := tp_new (o := .tup [.str "join", .ref pt]) hj
    have t5 := tp_new (o := .tup [.str "left", .ref pj]) hpl
    have hw : WV K _ (.ref pl) abL := wv_left (SqT.of upd_same) (wv_join (t5.sq (SqT.of upd_same)) ((t4.trans t5).sq (SqT.of upd_same)) (wvs_cons (wv_ltr ((t2.trans (t3.trans (t4.trans t5))).sq (SqT.of upd_same))) (wvs_cons (wv_ltr ((t3.trans (t4.trans t5)).sq (SqT.of upd_same))) wvs_nil)))
    refine ⟨_, _, rfl, rfl, ⟨by decide, by decide, by decide⟩, (by show 2 ≤ sizeLine; decide), fun pq hpq => ?_⟩
    refine ⟨.ref pl, abL, pq, [(10 : Int) ^ (30 : Int).toNat, 0], "a", rfl, WV.tp (tp_new hpq) _ hw, abL_ok.1, Nat.le_trans abL_ok.2 (by decide), SqT.of upd_same, abL_go, fun pf v1 v2 H9 hpf hv1 hv2 k9 => ?_⟩
    obtain ⟨P1, P2⟩ := pairs abL_ok.1 abL_ok.2 abL_go
    refine ⟨_, rfl, _, _, _, _, rfl, rfl, hpf, at_of (j := 2) (by omega) rfl, v2, _, "a", rfl, hv2, W.Ok.mono abc_sub _ P2.ox, P2.dx, fun H10 k10 => ?_⟩
    rw [abL_a]
    refine ⟨_, _, rfl, rfl, ⟨by decide, by decide, by decide⟩, rfl, ?_⟩
    refine ⟨true, congrArg V.bl (decide_eq_true rfl), ?_⟩
    have t10 := tp_same k10
    refine ⟨_, rfl, _, _, _, _, rfl, rfl, t10.sq hpf, at_of (j := 0) (by omega) rfl, v1, _, "b", rfl, WV.tp t10 _ hv1, W.Ok.mono abc_sub _ P1.ox, P1.dx, fun H11 k11 => ?_⟩
    rw [abL_b]
    refine ⟨rfl, true, congrArg V.bl (decide_eq_true rfl), ?_⟩
    refine ⟨_, rfl, _, _, _, _, rfl, rfl, (t10.trans (tp_same k11)).sq hpf, at_of (j := 1) (by omega) rfl, rfl, ?_⟩
    exact (congrArg (fun b => Q (V.bl b) H11) (decide_eq_true rfl : decide (V.str "a" = V.str "a") = true)).mpr (q _)
end
end SW

set_option Elab.async false
set_option linter.all false
set_option maxRecDepth 100000
set_option maxHeartbeats 4000000
namespace SW
open PySem PySem.Spec PyProof.Rows L2
section
variable {P : Program} {w : World} {K : PySem.W.Frag} {mg : Str → Option Value} {base : Heap}
theorem fin {h : Heap} {fa : Addr} (_X : K.In h) (_G : h.Ns mainGlobals mg) (hmg : mg "law" = some (.ref fa))
    (bi : Bi mg)
    (hEMPTY : ∃ ae, mg "EMPTY" = some (.ref ae) ∧ ∀ H, SqT K H ae [.str "empty"])
    (hMAX : ∃ v, mg "MAX_COPIES" = some v ∧ L2.RelV (.int 1000000000000000000000000000000) v)
    (Djoined : DfS K mg "joined" s_joined)
    (Drepeated : Df K mg "repeated" s_repeated ["word", "many"])
    (Dletter_count : Df K mg "letter_count" s_letter_count ["word", "letter"])
    (D_count : Df K mg "_count" s__count ["word", "letters"])
    (Dcut : Df K mg "cut" s_cut ["word", "address"])
    (D_nodes_on_the_way : Df K mg "_nodes_on_the_way" s__nodes_on_the_way ["word", "address"])
    (D_inner : Df K mg "_inner" s__inner ["word", "number"])
    (D_pieces_beside : Df K mg "_pieces_beside" s__pieces_beside ["word", "number"])
    (D_law_draws : Df K mg "_law_draws" s__law_draws ["_law_script"])
    (D_law_draw : Df K mg "_law_draw" s__law_draw ["_law_rng", "_law_many"])
    (D_law_pick : Df K mg "_law_pick" s__law_pick ["_law_rng", "_law_things"])
    (D_law_great : Df K mg "_law_great" s__law_great ["_law_rng"])
    (D_law_same : Df K mg "_law_same" s__law_same ["_law_found", "_law_due"])
    (D_law_tree : Df K mg "_law_tree" s__law_tree ["_law_rng", "_law_kit", "_law_deep"])
    (D_law_word : Df K mg "_law_word" s__law_word ["_law_rng"])
    (D_law_parts : Df K mg "_law_parts" s__law_parts ["_law_tree_here"])
    (D_law_count : Df K mg "_law_count" s__law_count ["_law_tree_here", "_law_letters"])
    (D_law_places : Df K mg "_law_places" s__law_places ["_law_tree_here"])
    (D_law_told : Df K mg "_law_told" s__law_told ["_law_count_here"])
    (D_law_letter : Df K mg "_law_letter" s__law_letter ["_law_tree_here", "_law_spot_here"])
    (D_law_wide : Df K mg "_law_wide" s__law_wide ["_law_rng"])
    (D_law_turned : Df K mg "_law_turned" s__law_turned ["_law_tree_here"])
    (D_law_spot : Df K mg "_law_spot" s__law_spot ["_law_rng", "_law_tree_here"])
    (D_law_copies : Df K mg "_law_copies" s__law_copies ["_law_tree_here", "_law_many"])
    (D_law_sides : Df K mg "_law_sides" s__law_sides ["_law_tree_here", "_law_spot_here"])
    (D_law_begin : Df K mg "_law_begin" s__law_begin ["_law_tree_here", "_law_many"])
    (Dlaw : Df K mg "law" s_law ["_law_script"]) :
    ∃ fd : FuncData, (∀ (s : Shared) (v : Value), BindsTo s fd ⟨[v], []⟩ [("_law_script", v)]) ∧ ∀ base : Heap, K.In base → base.Ns mainGlobals mg → FnOk P w K mg base CX0 31 fa fd ["_law_script"] (spLaw K) := by
  obtain ⟨ae, mEMPTY, hE⟩ := hEMPTY
  obtain ⟨_, mMAX, tm, rfl⟩ := hMAX
  refine law_end Dlaw hmg (fun _ _ _ _ _ _ v => rfl) (fun base _ _ => ?_)
  have c_draw := ok_draw (P := P) (w := w) (base := base) D_law_draw bi
  have c_drawW := ok_drawW (P := P) (w := w) (base := base) D_law_draw bi
  have c_pick := ok_pick D_law_pick bi c_draw
  have c_great := ok_great D_law_great bi c_draw c_pick
  have c_tree := ok_tree D_law_tree bi c_draw c_pick 3
  have c_word := ok_word D_law_word bi c_draw c_tree
  have c_wide := ok_wide D_law_wide bi c_draw c_great c_word
  have c_same := ok_same (P := P) (w := w) (base := base) D_law_same bi 20
  have c_parts := ok_parts (P := P) (w := w) (base := base) D_law_parts bi
  have c_lcnt := ok_lcnt (P := P) (w := w) (base := base) D_law_count bi c_parts 12
  have c_places := ok_places D_law_places c_lcnt
  have c_spot := ok_spot D_law_spot bi c_drawW c_pick c_places 6
  have c_draws := ok_draws (P := P) (w := w) (base := base) D_law_draws bi
  have c_told := ok_told (P := P) (w := w) (base := base) D_law_told
  have c_tur := ok_turned (P := P) (w := w) (base := base) D_law_turned bi 12
  have c_letter := ok_lletter (P := P) (w := w) (base := base) D_law_letter bi
  have c_copies := ok_copies (P := P) (w := w) (base := base) D_law_copies
  have c_sides := ok_sides D_law_sides bi c_copies
  have c_begin := ok_begin D_law_begin bi c_places 12
  have c_cnt := ok_cnt (P := P) (w := w) (base := base) D_count bi 12
  have c_lc := ok_lc Dletter_count c_cnt
  have c_joined := ok_joined (P := P) (w := w) (base := base) Djoined bi mEMPTY hE
  have c_rep := ok_repeated (P := P) (w := w) (base := base) Drepeated mEMPTY hE
  have c_inner := ok_innerN (P := P) (w := w) (base := base) D_inner bi mMAX
  have c_nodes := ok_nodesN D_nodes_on_the_way bi c_inner
  have c_pieces := ok_pieces D_pieces_beside c_rep
  have c_cut := ok_cut Dcut bi c_nodes c_pieces c_joined
  exact ok_law Dlaw bi c_draws c_wide c_spot c_cut c_same c_letter c_sides c_lc c_told c_lcnt c_tur c_begin Dcut
end
end SW
open PySem PySem.W PyProof.Rows
set_option maxRecDepth 100000 in
set_option maxHeartbeats 0 in
theorem PySem.Challenge.cw_scatterwords_k10_whole_words_cut_holds : PySem.Challenge.rw_scatterwords_k10_whole_words_cut.Holds := by
  w_on; o_law; k_head; (case hw => w_witness2)
  k_fill
  refine SW.walk (l := PySem.Challenge.rw_scatterwords_k10_whole_words_cut) (k := 31) ⟨rfl, by decide, by decide⟩ rfl rfl (fun w h Y => PySem.W.kIn_of Y) ?F
  case F =>
    intro w mg fa h KX G hmg
    refine' SW.fin KX G hmg ?bi ?hEMPTY ?hMAX ?Djoined ?Drepeated ?Dletter_count ?D_count ?Dcut ?D_nodes_on_the_way ?D_inner ?D_pieces_beside ?D_law_draws ?D_law_draw ?D_law_pick ?D_law_great ?D_law_same ?D_law_tree ?D_law_word ?D_law_parts ?D_law_count ?D_law_places ?D_law_told ?D_law_letter ?D_law_wide ?D_law_turned ?D_law_spot ?D_law_copies ?D_law_sides ?D_law_begin ?Dlaw
    case bi =>
      refine' ⟨PySem.W.mg_none_of KX G ?b0, PySem.W.mg_none_of KX G ?b1, PySem.W.mg_none_of KX G ?b2, PySem.W.mg_none_of KX G ?b3, PySem.W.mg_none_of KX G ?b4, PySem.W.mg_none_of KX G ?b5, PySem.W.mg_none_of KX G ?b6, PySem.W.mg_none_of KX G ?b7, PySem.W.mg_none_of KX G ?b8, PySem.W.mg_none_of KX G ?b9, PySem.W.mg_none_of KX G ?b10, PySem.W.mg_none_of KX G ?b11, PySem.W.mg_none_of KX G ?b12, PySem.W.mg_none_of KX G ?b13, PySem.W.mg_none_of KX G ?b14, PySem.W.mg_none_of KX G ?b15, PySem.W.mg_none_of KX G ?b16, PySem.W.mg_none_of KX G ?b17, PySem.W.mg_none_of KX G ?b18⟩
      (case b0 => k_is)
      (case b1 => k_is)
      (case b2 => k_is)
      (case b3 => k_is)
      (case b4 => k_is)
      (case b5 => k_is)
      (case b6 => k_is)
      (case b7 => k_is)
      (case b8 => k_is)
      (case b9 => k_is)
      (case b10 => k_is)
      (case b11 => k_is)
      (case b12 => k_is)
      (case b13 => k_is)
      (case b14 => k_is)
      (case b15 => k_is)
      (case b16 => k_is)
      (case b17 => k_is)
      (case b18 => k_is)
    case hEMPTY =>
      refine' ⟨_, PySem.W.mg_of KX G ?a, SW.sqt_mk ?l ?c ?d ?s ?r⟩
      (case a => k_is); (case l => k_is); (case c => rfl); (case d => rfl); (case s => decide)
      (case r => exact .cons (SW.relstr (by decide +kernel)) .nil)
    case hMAX =>
      refine' ⟨_, PySem.W.mg_of KX G ?a, ?e⟩
      (case a => k_is); (case e => exact ⟨_, rfl⟩)
    case Djoined =>
      refine' SW.dfs_mk KX G ?a ?l ?c ?k
      (case a => k_is); (case l => k_is); (case c => k_is); (case k => k_is)
    case Drepeated =>
      refine' SW.df_mk KX G ?a ?l ?c ?k (fun _ _ _ _ _ _ us hl => match us, hl with | [_, _], _ => rfl)
      (case a => k_is); (case l => k_is); (case c => k_is); (case k => k_is)
    case Dletter_count =>
      refine' SW.df_mk KX G ?a ?l ?c ?k (fun _ _ _ _ _ _ us hl => match us, hl with | [_, _], _ => rfl)
      (case a => k_is); (case l => k_is); (case c => k_is); (case k => k_is)
    case D_count =>
      refine' SW.df_mk KX G ?a ?l ?c ?k (fun _ _ _ _ _ _ us hl => match us, hl with | [_, _], _ => rfl)
      (case a => k_is); (case l => k_is); (case c => k_is); (case k => k_is)
    case Dcut =>
      refine' SW.df_mk KX G ?a ?l ?c ?k (fun _ _ _ _ _ _ us hl => match us, hl with | [_, _], _ => rfl)
      (case a => k_is); (case l => k_is); (case c => k_is); (case k => k_is)
    case D_nodes_on_the_way =>
      refine' SW.df_mk KX G ?a ?l ?c ?k (fun _ _ _ _ _ _ us hl => match us, hl with | [_, _], _ => rfl)
      (case a => k_is); (case l => k_is); (case c => k_is); (case k => k_is)
    case D_inner =>
      refine' SW.df_mk KX G ?a ?l ?c ?k (fun _ _ _ _ _ _ us hl => match us, hl with | [_, _], _ => rfl)
      (case a => k_is); (case l => k_is); (case c => k_is); (case k => k_is)
    case D_pieces_beside =>
      refine' SW.df_mk KX G ?a ?l ?c ?k (fun _ _ _ _ _ _ us hl => match us, hl with | [_, _], _ => rfl)
      (case a => k_is); (case l => k_is); (case c => k_is); (case k => k_is)
    case D_law_draws =>
      refine' SW.df_mk KX G ?a ?l ?c ?k (fun _ _ _ _ _ _ us hl => match us, hl with | [_], _ => rfl)
      (case a => k_is); (case l => k_is); (case c => k_is); (case k => k_is)
    case D_law_draw =>
      refine' SW.df_mk KX G ?a ?l ?c ?k (fun _ _ _ _ _ _ us hl => match us, hl with | [_, _], _ => rfl)
      (case a => k_is); (case l => k_is); (case c => k_is); (case k => k_is)
    case D_law_pick =>
      refine' SW.df_mk KX G ?a ?l ?c ?k (fun _ _ _ _ _ _ us hl => match us, hl with | [_, _], _ => rfl)
      (case a => k_is); (case l => k_is); (case c => k_is); (case k => k_is)
    case D_law_great =>
      refine' SW.df_mk KX G ?a ?l ?c ?k (fun _ _ _ _ _ _ us hl => match us, hl with | [_], _ => rfl)
      (case a => k_is); (case l => k_is); (case c => k_is); (case k => k_is)
    case D_law_same =>
      refine' SW.df_mk KX G ?a ?l ?c ?k (fun _ _ _ _ _ _ us hl => match us, hl with | [_, _], _ => rfl)
      (case a => k_is); (case l => k_is); (case c => k_is); (case k => k_is)
    case D_law_tree =>
      refine' SW.df_mk KX G ?a ?l ?c ?k (fun _ _ _ _ _ _ us hl => match us, hl with | [_, _, _], _ => rfl)
      (case a => k_is); (case l => k_is); (case c => k_is); (case k => k_is)
    case D_law_word =>
      refine' SW.df_mk KX G ?a ?l ?c ?k (fun _ _ _ _ _ _ us hl => match us, hl with | [_], _ => rfl)
      (case a => k_is); (case l => k_is); (case c => k_is); (case k => k_is)
    case D_law_parts =>
      refine' SW.df_mk KX G ?a ?l ?c ?k (fun _ _ _ _ _ _ us hl => match us, hl with | [_], _ => rfl)
      (case a => k_is); (case l => k_is); (case c => k_is); (case k => k_is)
    case D_law_count =>
      refine' SW.df_mk KX G ?a ?l ?c ?k (fun _ _ _ _ _ _ us hl => match us, hl with | [_, _], _ => rfl)
      (case a => k_is); (case l => k_is); (case c => k_is); (case k => k_is)
    case D_law_places =>
      refine' SW.df_mk KX G ?a ?l ?c ?k (fun _ _ _ _ _ _ us hl => match us, hl with | [_], _ => rfl)
      (case a => k_is); (case l => k_is); (case c => k_is); (case k => k_is)
    case D_law_told =>
      refine' SW.df_mk KX G ?a ?l ?c ?k (fun _ _ _ _ _ _ us hl => match us, hl with | [_], _ => rfl)
      (case a => k_is); (case l => k_is); (case c => k_is); (case k => k_is)
    case D_law_letter =>
      refine' SW.df_mk KX G ?a ?l ?c ?k (fun _ _ _ _ _ _ us hl => match us, hl with | [_, _], _ => rfl)
      (case a => k_is); (case l => k_is); (case c => k_is); (case k => k_is)
    case D_law_wide =>
      refine' SW.df_mk KX G ?a ?l ?c ?k (fun _ _ _ _ _ _ us hl => match us, hl with | [_], _ => rfl)
      (case a => k_is); (case l => k_is); (case c => k_is); (case k => k_is)
    case D_law_turned =>
      refine' SW.df_mk KX G ?a ?l ?c ?k (fun _ _ _ _ _ _ us hl => match us, hl with | [_], _ => rfl)
      (case a => k_is); (case l => k_is); (case c => k_is); (case k => k_is)
    case D_law_spot =>
      refine' SW.df_mk KX G ?a ?l ?c ?k (fun _ _ _ _ _ _ us hl => match us, hl with | [_, _], _ => rfl)
      (case a => k_is); (case l => k_is); (case c => k_is); (case k => k_is)
    case D_law_copies =>
      refine' SW.df_mk KX G ?a ?l ?c ?k (fun _ _ _ _ _ _ us hl => match us, hl with | [_, _], _ => rfl)
      (case a => k_is); (case l => k_is); (case c => k_is); (case k => k_is)
    case D_law_sides =>
      refine' SW.df_mk KX G ?a ?l ?c ?k (fun _ _ _ _ _ _ us hl => match us, hl with | [_, _], _ => rfl)
      (case a => k_is); (case l => k_is); (case c => k_is); (case k => k_is)
    case D_law_begin =>
      refine' SW.df_mk KX G ?a ?l ?c ?k (fun _ _ _ _ _ _ us hl => match us, hl with | [_, _], _ => rfl)
      (case a => k_is); (case l => k_is); (case c => k_is); (case k => k_is)
    case Dlaw =>
      refine' SW.df_mk KX G ?a ?l ?c ?k (fun _ _ _ _ _ _ us hl => match us, hl with | [_], _ => rfl)
      (case a => k_is); (case l => k_is); (case c => k_is); (case k => k_is)
