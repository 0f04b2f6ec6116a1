import PyProof.Rows.All
import Wide.All
import OpenK.AllK
import Wide.FinOn
import HandS.ForMost
import HandS.IsInst
import HandS.Zip
import HandS.Wide
import HandS.Star
import HandS.Codes
import HandS.Walk
import HandS.Rev
import HandS.More
import HandS.TupAny
import HandS.SortInts
import PyProof.LongRange
import KE.GoesEnum
import KE.DataMinMax
import HandS.Exc
import HandS.TryMany
import HandS.ExcField
import HandS.ExcInit
import HandS.ExcIs
import HandS.ClsMeth
import HandS.Lambda
import KE.KTypeName
import HandS.HotCalls
import HandS.FStr
import HandS.Defaults
import KE.KDflt
import HandS.EndTab
import PySem.Challenge.RW_scatterwords_k09_places_compared
set_option Elab.async false
set_option linter.all false
set_option maxRecDepth 100000
set_option maxHeartbeats 4000000
namespace SW
open PySem PySem.Spec PyProof.Rows L2

/-- a def that stands in the module -/
structure Df (K : PySem.W.Frag) (mg : Str → Option Value) (x : Str) (st : Stmt) (ps : List Str) : Prop where
  ex : ∃ f fd, Fun K x x st f fd ∧ mg x = some (.ref f) ∧ Binds K fd ps []
/-- a def that keeps a promise and can be called by its name -/
structure Cal (P : Program) (w : World) (K : PySem.W.Frag) (mg : Str → Option Value) (base : Heap) (k : Nat) (x : Str) (ps : List Str) (sp : Sp) : Prop where
  ex : ∃ f fd, FnOk P w K mg base CX0 k f fd ps sp ∧ mg x = some (.ref f) ∧ PySem.W.keepIn K (.ref f) = true ∧ Binds K fd ps [] ∧ ∃ oc od osl, K.lookup f = some ⟨oc, od, .func fd, osl⟩
/-- the built-in names that are not bound in the module -/
structure Bi (mg : Str → Option Value) : Prop where
  len : mg "len" = none
  int : mg "int" = none
  list : mg "list" = none
  tuple : mg "tuple" = none
  isinstance : mg "isinstance" = none
  zip : mg "zip" = none
  all : mg "all" = none
  sum : mg "sum" = none
  range : mg "range" = none
  str : mg "str" = none
  bool : mg "bool" = none
  reversed : mg "reversed" = none
  max : mg "max" = none
  sorted : mg "sorted" = none
  ord : mg "ord" = none
  min : mg "min" = none
  any : mg "any" = none
  dict : mg "dict" = none
  set : mg "set" = none
section
variable {P : Program} {w : World} {K : PySem.W.Frag} {mg : Str → Option Value} {base : Heap}
theorem Cal.imp {k : Nat} {x : Str} {ps : List Str} {sp sp' : Sp} (c : Cal P w K mg base k x ps sp) (h : ∀ vs H Q E, sp' vs H Q E → sp vs H Q E) : Cal P w K mg base k x ps sp' := by
  obtain ⟨f, fd, F, a, b, d⟩ := c.ex
  exact ⟨f, fd, F.imp h, a, b, d⟩
theorem Cal.mono {j k : Nat} {x : Str} {ps : List Str} {sp : Sp} (c : Cal P w K mg base j x ps sp) (h : j ≤ k) : Cal P w K mg base k x ps sp := by
  obtain ⟨f, fd, F, a, b, d⟩ := c.ex
  exact ⟨f, fd, F.mono h, a, b, d⟩
theorem Df.ok {x : Str} {st : Stmt} {N ps : List Str} {k : Nat} {sp : Sp} (D : Df K mg x st ps) (S : FnScope N ps (defScope st)) (len : ∀ vs H Q E, sp vs H Q E → vs.length = ps.length)
    (hbody : ∀ (f : Addr) (cdv : Value) (A : Around) (outer : List Env) (s : Shared) (H : Hp) (vs : List V) (Q : VK) (E : XK), Room k (A.deeper (envOfC x (defScope st) s.heap.objs.size f cdv)) → sp vs H Q E →
      ∃ t, PSs (cxOf CX0 P w K mg base N x (defScope st) f cdv A outer s H E).nox (defBody st) t ∧ t { nx := fun _ H' => Q .non H', rt := Q } (start N vs) H) : Cal P w K mg base (k + 1) x ps sp := by
  obtain ⟨f, fd, F, m, b⟩ := D.ex
  obtain ⟨oc, od, kV, doc, pm, an, cdv, ct, osl, _, lk, _⟩ := F.ex
  exact ⟨f, fd, F.ok S len fun cdv A outer s H vs Q E hr h => hbody f cdv A outer s H vs Q E hr h, m, F.kp, b, oc, od, osl, lk⟩
/-- a promise that asks what cannot be is kept by every def -/
theorem Df.no {x : Str} {st : Stmt} {ps : List Str} {k : Nat} {sp : Sp} (D : Df K mg x st ps) (h : ∀ vs H Q E, ¬ sp vs H Q E) : Cal P w K mg base k x ps sp := by
  obtain ⟨f, fd, F, m, b⟩ := D.ex
  obtain ⟨oc, od, kV, doc, pm, an, cdv, ct, osl, _, lk, _⟩ := F.ex
  exact ⟨f, fd, ⟨fun vs H Q E q => absurd q (h vs H Q E), fun A outer s H args us vs Q E _ _ _ _ q => absurd q (h vs H Q E)⟩, m, F.kp, b, oc, od, osl, lk⟩
end
section
variable {X : Cx} {k j : Nat} {x : Str} {ps : List Str} {sp : Sp} {p pos : Pos} {e : Expr} {es : List Expr} {t : TA}
theorem pe_own (c : Cal X.prog X.w X.K X.mg X.base k x ps sp) (hr : Room j X.A) (hk : k ≤ j) (hg : Gl X x) (ha : PA X (e :: es) t) (hdb : (x == ("__debug__" : Str)) = false := by decide)
    (he : starEach (e :: es) X.env = (false, eval e X.env) :: starEach es X.env := by rfl) (hpl : (backTo pos (starEach es X.env)).any (·.1) = false := by rfl) :
    PE X (.Call (.Name x p) (e :: es) [] pos) (tCall sp [] E0 t) := by
  obtain ⟨f, fd, F, hm, hK, hb, _⟩ := c.ex
  exact pe_call F (hr.mono hk) hg hm hK hb .nil pass0 ha hdb he hpl
end
section
variable {X : Cx} {k j : Nat} {x : Str} {ps ks : List Str} {sp : Sp} {p pos : Pos} {kws : List Keyword} {tk : TA} {st : Stmt} {g : List Value → List Value → List Value} {gV : List V → List V → List V} {e : Expr} {es : List Expr} {t : TA}
theorem kbinds {K : PySem.W.Frag} {mg : Str → Option Value} {f : Addr} {fd : FuncData} (D : Df K mg x st ps) (hm : mg x = some (.ref f)) (hl : ∃ oc od osl, K.lookup f = some ⟨oc, od, .func fd, osl⟩)
    (hb : ∀ (kV doc pm : Value) (an : Option Addr) (cdv ct : Value) (us ws : List Value), (g us ws).length = ps.length → bindArgs (PySem.W.fnOf x x (defArgs st) (defBody st) (defScope st) .none kV doc pm an cdv ct) ⟨us, ks.zip ws⟩ = pure (ps.zip (g us ws)))
    (hrel : ∀ {vs : List V} {us : List Value} {zs : List V} {ws : List Value}, Vals vs us → Vals zs ws → Vals (gV vs zs) (g us ws)) : KBinds K fd ps ks g gV := by
  obtain ⟨f', fd', F, m, b⟩ := D.ex
  have e : f' = f := by
    rw [hm] at m
    cases m
    rfl
  subst e
  obtain ⟨oc, od, kV, doc, pm, an, cdv, ct, osl, rfl, lk, _⟩ := F.ex
  obtain ⟨oc', od', osl', lk'⟩ := hl
  rw [lk] at lk'
  cases lk'
  exact ⟨fun s us ws _ hlen => .of_eq (hb kV doc pm an cdv ct us ws hlen), hrel⟩
/-- a call with keywords alone -/
theorem pe_ownK0 (c : Cal X.prog X.w X.K X.mg X.base k x ps sp) (D : Df X.K X.mg x st ps) (hr : Room j X.A) (hk : k ≤ j) (hg : Gl X x)
    (hb : ∀ (kV doc pm : Value) (an : Option Addr) (cdv ct : Value) (us ws : List Value), (g us ws).length = ps.length → bindArgs (PySem.W.fnOf x x (defArgs st) (defBody st) (defScope st) .none kV doc pm an cdv ct) ⟨us, ks.zip ws⟩ = pure (ps.zip (g us ws)))
    (hrel : ∀ {vs : List V} {us : List Value} {zs : List V} {ws : List Value}, Vals vs us → Vals zs ws → Vals (gV vs zs) (g us ws)) (hkw : PK X kws tk) (hall : (backToKw pos (keywordEach kws X.env)).all (·.1.isSome) = true := by rfl) (hks : (backToKw pos (keywordEach kws X.env)).filterMap (·.1) = ks := by rfl)
    (hdb : (x == ("__debug__" : Str)) = false := by decide)
    (hpl : ((backTo pos (starEach [] X.env)).any (·.1) || (backToKw pos (keywordEach kws X.env)).any (·.1.isNone)) = false := by rfl) :
    PE X (.Call (.Name x p) [] kws pos) (tCallK sp gV E0 tNil tk) := by
  obtain ⟨f, fd, F, hm, hK, _, hl⟩ := c.ex
  have hb' : KBinds X.K fd ps ks g gV := kbinds D hm hl hb hrel
  refine ⟨fun pins s σ H Q I h => ?_⟩
  refine wpAny_Call_Name_kw (ld_glob I hg hm ?_ hdb)
  refine PySem.W.callWith_KW0 (h₀ := X.base) I.ok.mod.kin hK hall (thn (hkw.run pos pins s σ H _ I h) fun ws s2 ⟨zs, H2, I2, rz, q2⟩ => ⟨I2.kIn, ?_⟩) hpl
  rw [hks]
  exact run_fnk (F.mono hk) hr hb' pass0 I2 .nil rz q2
/-- a call with places and keywords -/
theorem pe_ownK (c : Cal X.prog X.w X.K X.mg X.base k x ps sp) (D : Df X.K X.mg x st ps) (hr : Room j X.A) (hk : k ≤ j) (hg : Gl X x)
    (hb : ∀ (kV doc pm : Value) (an : Option Addr) (cdv ct : Value) (us ws : List Value), (g us ws).length = ps.length → bindArgs (PySem.W.fnOf x x (defArgs st) (defBody st) (defScope st) .none kV doc pm an cdv ct) ⟨us, ks.zip ws⟩ = pure (ps.zip (g us ws)))
    (hrel : ∀ {vs : List V} {us : List Value} {zs : List V} {ws : List Value}, Vals vs us → Vals zs ws → Vals (gV vs zs) (g us ws)) (ha : PA X (e :: es) t) (hkw : PK X kws tk) (hall : (backToKw pos (keywordEach kws X.env)).all (·.1.isSome) = true := by rfl) (hks : (backToKw pos (keywordEach kws X.env)).filterMap (·.1) = ks := by rfl)
    (hdb : (x == ("__debug__" : Str)) = false := by decide) (he : starEach (e :: es) X.env = (false, eval e X.env) :: starEach es X.env := by rfl)
    (hpl : ((backTo pos (starEach (e :: es) X.env)).any (·.1) || (backToKw pos (keywordEach kws X.env)).any (·.1.isNone)) = false := by rfl) :
    PE X (.Call (.Name x p) (e :: es) kws pos) (tCallK sp gV E0 t tk) := by
  obtain ⟨f, fd, F, hm, hK, _, hl⟩ := c.ex
  exact pe_callK (F.mono hk) hr hg hm hK (kbinds D hm hl hb hrel) pass0 ha hkw hall hks hdb he hpl
end
/-! ### how keywords come to their places -/
def g1 {α : Type} : List α → List α → List α
  | [], [a] => [a]
  | _, _ => []
def g2 {α : Type} : List α → List α → List α
  | [], [a, b] => [a, b]
  | _, _ => []
def g2s {α : Type} : List α → List α → List α
  | [], [a, b] => [b, a]
  | _, _ => []
def g11 {α : Type} : List α → List α → List α
  | [a], [b] => [a, b]
  | _, _ => []
theorem g1_inv {α : Type} {us ws : List α} (h : (g1 us ws).length = 1) : ∃ a, us = [] ∧ ws = [a] := by
  unfold g1 at h
  split at h
  · exact ⟨_, rfl, rfl⟩
  · cases h
theorem g2_inv {α : Type} {us ws : List α} (h : (g2 us ws).length = 2) : ∃ a b, us = [] ∧ ws = [a, b] := by
  unfold g2 at h
  split at h
  · exact ⟨_, _, rfl, rfl⟩
  · cases h
theorem g2s_inv {α : Type} {us ws : List α} (h : (g2s us ws).length = 2) : ∃ a b, us = [] ∧ ws = [a, b] := by
  unfold g2s at h
  split at h
  · exact ⟨_, _, rfl, rfl⟩
  · cases h
theorem g11_inv {α : Type} {us ws : List α} (h : (g11 us ws).length = 2) : ∃ a b, us = [a] ∧ ws = [b] := by
  unfold g11 at h
  split at h
  · exact ⟨_, _, rfl, rfl⟩
  · cases h
theorem g1_rel {vs : List V} {us : List Value} {zs : List V} {ws : List Value} (a : Vals vs us) (b : Vals zs ws) : Vals (g1 vs zs) (g1 us ws) := by
  cases a <;> cases b <;> try exact .nil
  rename_i t
  cases t
  · exact .cons ‹_› .nil
  · exact .nil
theorem g2_rel {vs : List V} {us : List Value} {zs : List V} {ws : List Value} (a : Vals vs us) (b : Vals zs ws) : Vals (g2 vs zs) (g2 us ws) := by
  cases a with
  | cons r t => exact .nil
  | nil =>
    cases b with
    | nil => exact .nil
    | cons r t =>
      cases t with
      | nil => exact .nil
      | cons r2 t =>
        cases t with
        | nil => exact .cons r (.cons r2 .nil)
        | cons _ _ => exact .nil
theorem g2s_rel {vs : List V} {us : List Value} {zs : List V} {ws : List Value} (a : Vals vs us) (b : Vals zs ws) : Vals (g2s vs zs) (g2s us ws) := by
  cases a with
  | cons r t => exact .nil
  | nil =>
    cases b with
    | nil => exact .nil
    | cons r t =>
      cases t with
      | nil => exact .nil
      | cons r2 t =>
        cases t with
        | nil => exact .cons r2 (.cons r .nil)
        | cons _ _ => exact .nil
theorem g11_rel {vs : List V} {us : List Value} {zs : List V} {ws : List Value} (a : Vals vs us) (b : Vals zs ws) : Vals (g11 vs zs) (g11 us ws) := by
  cases a with
  | nil => exact .nil
  | cons r t =>
    cases t with
    | cons _ _ => exact .nil
    | nil =>
      cases b with
      | nil => exact .nil
      | cons r2 t2 =>
        cases t2 with
        | nil => exact .cons r (.cons r2 .nil)
        | cons _ _ => exact .nil
/-! ### heaps -/
/-- all that was tracked, but what stands at r, is as it was -/
def Kp (r : Addr) (H H' : Hp) : Prop := ∀ b o, b ≠ r → H b = some o → H' b = some o
theorem Kp.refl (r : Addr) (H : Hp) : Kp r H H := fun _ _ _ h => h
theorem Kp.trans {r : Addr} {H H1 H2 : Hp} (a : Kp r H H1) (b : Kp r H1 H2) : Kp r H H2 := fun c o n h => b c o n (a c o n h)
theorem Kp.new {r p : Addr} {H : Hp} {o : HO} (h : H p = none) : Kp r H (upd H p o) := fun b u _ e => by
  rw [upd_ne (ne_of_none e h)]
  exact e
theorem Kp.at {r : Addr} {H : Hp} {o : HO} : Kp r H (upd H r o) := fun b u n e => by
  rw [upd_ne n]
  exact e
theorem Kp.free {r p : Addr} {H H' : Hp} (a : Kp r H H') (n : p ≠ r) (h : H' p = none) : H p = none := by
  cases q : H p with
  | none => rfl
  | some o =>
    rw [a p o n q] at h
    cases h
/-- the generator's list at r, its script at l -/
def Rng (H : Hp) (r l : Addr) : Prop := ∃ (ns : List Int) (i d st c : Int), H r = some (.lst [.ref l, .int i, .int d, .int st, .int c]) ∧ H l = some (.lst (ns.map V.int)) ∧ 0 ≤ i ∧ l ≠ r
theorem Rng.new {H : Hp} {r l p : Addr} {o : HO} (g : Rng H r l) (h : H p = none) : Rng (upd H p o) r l := by
  obtain ⟨ns, i, d, st, c, h1, h2, h3, h4⟩ := g
  exact ⟨ns, i, d, st, c, by rw [upd_ne (ne_of_none h1 h)]; exact h1, by rw [upd_ne (ne_of_none h2 h)]; exact h2, h3, h4⟩
theorem Rng.kp {H H' : Hp} {r l : Addr} {x y z : V} (g : Rng H r l) (k : Kp r H H') {v : List V} (h : H' r = H r) : Rng H' r l := by
  obtain ⟨ns, i, d, st, c, h1, h2, h3, h4⟩ := g
  exact ⟨ns, i, d, st, c, h.trans h1, k _ _ h4 h2, h3, h4⟩
end SW

set_option Elab.async false
set_option linter.all false
set_option maxRecDepth 100000
set_option maxHeartbeats 4000000
namespace SW
open PySem PySem.Spec PyProof.Rows L2
/-! ### words as trees -/
inductive W where
  | emp
  | ltr (c : Str)
  | nam (c : Str)
  | join (ws : List W)
  | times (w : W) (n : Int)
  | right (w : W)
  | left (w : W)
mutual
def W.dat : W → PyData
  | .emp => .tuple [.str "empty"]
  | .ltr c => .tuple [.str "letter", .str c]
  | .nam c => .tuple [.str "name", .str c]
  | .join ws => .tuple [.str "join", .tuple (W.dats ws)]
  | .times w n => .tuple [.str "times", w.dat, .int n]
  | .right w => .tuple [.str "right", w.dat]
  | .left w => .tuple [.str "left", w.dat]
def W.dats : List W → List PyData
  | [] => []
  | w :: r => w.dat :: W.dats r
end
mutual
def W.dep : W → Nat
  | .emp => 1
  | .ltr _ => 1
  | .nam _ => 1
  | .join ws => W.deps ws + 1
  | .times w _ => w.dep + 1
  | .right w => w.dep + 1
  | .left w => w.dep + 1
def W.deps : List W → Nat
  | [] => 0
  | w :: r => max w.dep (W.deps r)
end
mutual
/-- letters among L, joins of at most three parts, numbers of copies up to 10 ** 30 -/
def W.Ok (L : List Str) : W → Prop
  | .emp => True
  | .ltr c => c ∈ L
  | .nam _ => False
  | .join ws => ws.length ≤ 3 ∧ W.Oks L ws
  | .times w n => 0 ≤ n ∧ n ≤ 1000000000000000000000000000000 ∧ w.Ok L
  | .right w => w.Ok L
  | .left w => w.Ok L
def W.Oks (L : List Str) : List W → Prop
  | [] => True
  | w :: r => w.Ok L ∧ W.Oks L r
end
abbrev abc : List Str := ["a", "b", "c"]
abbrev abcABC : List Str := ["a", "b", "c", "A", "B", "C"]
def W.kind : W → Str
  | .emp => "empty"
  | .ltr _ => "letter"
  | .nam _ => "name"
  | .join _ => "join"
  | .times _ _ => "times"
  | .right _ => "right"
  | .left _ => "left"
theorem W.dep_pos (w : W) : 1 ≤ w.dep := by cases w <;> unfold W.dep <;> omega
theorem W.deps_mem : ∀ {ws : List W} {w : W}, w ∈ ws → w.dep ≤ W.deps ws
  | x :: r, w, h => by
    unfold W.deps
    rcases List.mem_cons.mp h with e | h
    · subst e
      exact Nat.le_max_left _ _
    · exact Nat.le_trans (W.deps_mem h) (Nat.le_max_right _ _)
theorem W.deps_le : ∀ {ws : List W} {n : Nat}, (∀ w ∈ ws, w.dep ≤ n) → W.deps ws ≤ n
  | [], n, _ => by
    unfold W.deps
    exact Nat.zero_le _
  | x :: r, n, h => by
    unfold W.deps
    exact Nat.max_le.mpr ⟨h x (List.mem_cons_self ..), W.deps_le fun w q => h w (List.mem_cons_of_mem _ q)⟩
theorem W.oks_mem {L : List Str} : ∀ {ws : List W} {w : W}, w ∈ ws → W.Oks L ws → w.Ok L
  | x :: r, w, h, o => by
    unfold W.Oks at o
    rcases List.mem_cons.mp h with e | h
    · subst e
      exact o.1
    · exact W.oks_mem h o.2
theorem W.oks_of {L : List Str} : ∀ {ws : List W}, (∀ w ∈ ws, w.Ok L) → W.Oks L ws
  | [], _ => by
    unfold W.Oks
    trivial
  | x :: r, h => by
    unfold W.Oks
    exact ⟨h x (List.mem_cons_self ..), W.oks_of fun w q => h w (List.mem_cons_of_mem _ q)⟩
theorem W.dats_map : ∀ ws : List W, W.dats ws = ws.map W.dat
  | [] => by
    unfold W.dats
    rfl
  | w :: r => by
    unfold W.dats
    rw [W.dats_map r]
    rfl
theorem W.oks_iff {L : List Str} {ws : List W} : W.Oks L ws ↔ ∀ w ∈ ws, w.Ok L := ⟨fun h w m => W.oks_mem m h, W.oks_of⟩
mutual
theorem W.Ok.mono {L M : List Str} (hs : ∀ c ∈ L, c ∈ M) : ∀ w : W, w.Ok L → w.Ok M
  | .emp, h => by unfold W.Ok; trivial
  | .ltr c, h => by unfold W.Ok at h ⊢; exact hs c h
  | .nam c, h => by unfold W.Ok at h; exact h.elim
  | .join ws, h => by unfold W.Ok at h ⊢; exact ⟨h.1, W.Oks.mono hs ws h.2⟩
  | .times w n, h => by unfold W.Ok at h ⊢; exact ⟨h.1, h.2.1, W.Ok.mono hs w h.2.2⟩
  | .right w, h => by unfold W.Ok at h ⊢; exact W.Ok.mono hs w h
  | .left w, h => by unfold W.Ok at h ⊢; exact W.Ok.mono hs w h
theorem W.Oks.mono {L M : List Str} (hs : ∀ c ∈ L, c ∈ M) : ∀ ws : List W, W.Oks L ws → W.Oks M ws
  | [], h => by unfold W.Oks; trivial
  | w :: r, h => by unfold W.Oks at h ⊢; exact ⟨W.Ok.mono hs w h.1, W.Oks.mono hs r h.2⟩
end
theorem abc_sub : ∀ c ∈ abc, c ∈ abcABC := by
  intro c h
  simp only [abc, abcABC, List.mem_cons, List.not_mem_nil, or_false] at h ⊢
  rcases h with h | h | h <;> simp [h]
/-! ### how the heap bears them -/
abbrev WV (K : PySem.W.Frag) (H : Hp) (v : V) (w : W) : Prop := Dp K H v w.dat
abbrev WVs (K : PySem.W.Frag) (H : Hp) (vs : List V) (ws : List W) : Prop := DpAll K H vs (W.dats ws)
/-- every tuple stays -/
def Tp (H H' : Hp) : Prop := ∀ a xs, Rd H a (.tup xs) → Rd H' a (.tup xs)
theorem Tp.refl (H : Hp) : Tp H H := fun _ _ h => h
theorem Tp.trans {H H1 H2 : Hp} (a : Tp H H1) (b : Tp H1 H2) : Tp H H2 := fun x o h => b x o (a x o h)
theorem Tp.sq {K : PySem.W.Frag} {H H' : Hp} (t : Tp H H') {a : Addr} {xs : List V} (h : SqT K H a xs) : SqT K H' a xs := by
  rcases h with h | h
  · exact .inl (t _ _ h)
  · exact .inr h
theorem Kp.tp {r : Addr} {H H' : Hp} {z : List V} (k : Kp r H H') (h : H r = some (.lst z)) : Tp H H' := fun a xs q => by
  rcases q with q | ⟨o, q⟩
  · exact .inl (k _ _ (ne_of q h (by intro e; cases e)) q)
  · exact .inr ⟨o, k _ _ (ne_of q h (by intro e; cases e)) q⟩
theorem tp_new {p : Addr} {H : Hp} {o : HO} (h : H p = none) : Tp H (upd H p o) := fun a xs q => by
  rcases q with q | ⟨u, q⟩
  · exact .inl (by rw [upd_ne (ne_of_none q h)]; exact q)
  · exact .inr ⟨u, by rw [upd_ne (ne_of_none q h)]; exact q⟩
theorem tp_set {p : Addr} {H : Hp} {o : HO} {z : List V} (h : H p = some (.lst z)) : Tp H (upd H p o) := Kp.tp Kp.at h
theorem tp_same {H H' : Hp} (s : Same H H') : Tp H H' := fun a xs q => by
  rcases q with q | ⟨o, q⟩
  · exact .inl (s _ _ q)
  · exact .inr ⟨o, s _ _ q⟩
mutual
theorem WV.tp {K : PySem.W.Frag} {H H' : Hp} (t : Tp H H') : ∀ (w : W) {v : V}, WV K H v w → WV K H' v w
  | .emp, v, h => by
    unfold WV W.dat at *
    cases h with | tup s a => ?_
    refine .tup (t.sq s) ?_
    cases a with | cons a b => ?_
    cases a
    cases b
    exact .cons (.str _) .nil
  | .ltr c, v, h => by
    unfold WV W.dat at *
    cases h with | tup s a => ?_
    refine .tup (t.sq s) ?_
    cases a with | cons a b => ?_
    cases b with | cons b d => ?_
    cases a
    cases b
    cases d
    exact .cons (.str _) (.cons (.str _) .nil)
  | .nam c, v, h => by
    unfold WV W.dat at *
    cases h with | tup s a => ?_
    refine .tup (t.sq s) ?_
    cases a with | cons a b => ?_
    cases b with | cons b d => ?_
    cases a
    cases b
    cases d
    exact .cons (.str _) (.cons (.str _) .nil)
  | .join ws, v, h => by
    unfold WV W.dat at *
    cases h with | tup s a => ?_
    refine .tup (t.sq s) ?_
    cases a with | cons a b => ?_
    cases b with | cons b d => ?_
    cases a
    cases d
    cases b with | tup s2 b => ?_
    exact .cons (.str _) (.cons (.tup (t.sq s2) (WVs.tp t ws b)) .nil)
  | .times w n, v, h => by
    unfold WV W.dat at *
    cases h with | tup s a => ?_
    refine .tup (t.sq s) ?_
    cases a with | cons a b => ?_
    cases b with | cons b d => ?_
    cases d with | cons d e => ?_
    cases a
    cases d
    cases e
    exact .cons (.str _) (.cons (WV.tp t w b) (.cons (.int _) .nil))
  | .right w, v, h => by
    unfold WV W.dat at *
    cases h with | tup s a => ?_
    refine .tup (t.sq s) ?_
    cases a with | cons a b => ?_
    cases b with | cons b d => ?_
    cases a
    cases d
    exact .cons (.str _) (.cons (WV.tp t w b) .nil)
  | .left w, v, h => by
    unfold WV W.dat at *
    cases h with | tup s a => ?_
    refine .tup (t.sq s) ?_
    cases a with | cons a b => ?_
    cases b with | cons b d => ?_
    cases a
    cases d
    exact .cons (.str _) (.cons (WV.tp t w b) .nil)
theorem WVs.tp {K : PySem.W.Frag} {H H' : Hp} (t : Tp H H') : ∀ (ws : List W) {vs : List V}, WVs K H vs ws → WVs K H' vs ws
  | [], vs, h => by
    unfold WVs W.dats at *
    cases h
    exact .nil
  | w :: r, vs, h => by
    unfold WVs W.dats at *
    cases h with | cons a b => ?_
    exact .cons (WV.tp t w a) (WVs.tp t r b)
end
/-- what stands at a word's address -/
inductive WAt (K : PySem.W.Frag) (H : Hp) (v : V) : W → Prop where
  | emp {a : Addr} (e : v = .ref a) (s : SqT K H a [.str "empty"]) : WAt K H v .emp
  | ltr {a : Addr} {c : Str} (e : v = .ref a) (s : SqT K H a [.str "letter", .str c]) : WAt K H v (.ltr c)
  | nam {a : Addr} {c : Str} (e : v = .ref a) (s : SqT K H a [.str "name", .str c]) : WAt K H v (.nam c)
  | join {a b : Addr} {xs : List V} {ws : List W} (e : v = .ref a) (s : SqT K H a [.str "join", .ref b]) (s2 : SqT K H b xs) (h : WVs K H xs ws) : WAt K H v (.join ws)
  | times {a : Addr} {x : V} {w : W} {n : Int} (e : v = .ref a) (s : SqT K H a [.str "times", x, .int n]) (h : WV K H x w) : WAt K H v (.times w n)
  | right {a : Addr} {x : V} {w : W} (e : v = .ref a) (s : SqT K H a [.str "right", x]) (h : WV K H x w) : WAt K H v (.right w)
  | left {a : Addr} {x : V} {w : W} (e : v = .ref a) (s : SqT K H a [.str "left", x]) (h : WV K H x w) : WAt K H v (.left w)
theorem WV.at {K : PySem.W.Frag} {H : Hp} {v : V} : ∀ {w : W}, WV K H v w → WAt K H v w
  | .emp, h => by
    unfold WV W.dat at h
    cases h with | tup s a => ?_
    cases a with | cons a b => ?_
    cases a
    cases b
    exact .emp rfl s
  | .ltr c, h => by
    unfold WV W.dat at h
    cases h with | tup s a => ?_
    cases a with | cons a b => ?_
    cases b with | cons b d => ?_
    cases a
    cases b
    cases d
    exact .ltr rfl s
  | .nam c, h => by
    unfold WV W.dat at h
    cases h with | tup s a => ?_
    cases a with | cons a b => ?_
    cases b with | cons b d => ?_
    cases a
    cases b
    cases d
    exact .nam rfl s
  | .join ws, h => by
    unfold WV W.dat at h
    cases h with | tup s a => ?_
    cases a with | cons a b => ?_
    cases b with | cons b d => ?_
    cases a
    cases d
    cases b with | tup s2 b => ?_
    exact .join rfl s s2 b
  | .times w n, h => by
    unfold WV W.dat at h
    cases h with | tup s a => ?_
    cases a with | cons a b => ?_
    cases b with | cons b d => ?_
    cases d with | cons d e => ?_
    cases a
    cases d
    cases e
    exact .times rfl s b
  | .right w, h => by
    unfold WV W.dat at h
    cases h with | tup s a => ?_
    cases a with | cons a b => ?_
    cases b with | cons b d => ?_
    cases a
    cases d
    exact .right rfl s b
  | .left w, h => by
    unfold WV W.dat at h
    cases h with | tup s a => ?_
    cases a with | cons a b => ?_
    cases b with | cons b d => ?_
    cases a
    cases d
    exact .left rfl s b
section
variable {K : PySem.W.Frag} {H : Hp} {a b : Addr} {x : V} {w : W}
theorem wv_emp (s : SqT K H a [.str "empty"]) : WV K H (.ref a) .emp := by
  unfold WV W.dat
  exact .tup s (.cons (.str _) .nil)
theorem wv_ltr {c : Str} (s : SqT K H a [.str "letter", .str c]) : WV K H (.ref a) (.ltr c) := by
  unfold WV W.dat
  exact .tup s (.cons (.str _) (.cons (.str _) .nil))
theorem wv_nam {c : Str} (s : SqT K H a [.str "name", .str c]) : WV K H (.ref a) (.nam c) := by
  unfold WV W.dat
  exact .tup s (.cons (.str _) (.cons (.str _) .nil))
theorem wv_join {xs : List V} {ws : List W} (s : SqT K H a [.str "join", .ref b]) (s2 : SqT K H b xs) (h : WVs K H xs ws) : WV K H (.ref a) (.join ws) := by
  unfold WV W.dat
  exact .tup s (.cons (.str _) (.cons (.tup s2 h) .nil))
theorem wv_times {n : Int} (s : SqT K H a [.str "times", x, .int n]) (h : WV K H x w) : WV K H (.ref a) (.times w n) := by
  unfold WV W.dat
  exact .tup s (.cons (.str _) (.cons h (.cons (.int _) .nil)))
theorem wv_right (s : SqT K H a [.str "right", x]) (h : WV K H x w) : WV K H (.ref a) (.right w) := by
  unfold WV W.dat
  exact .tup s (.cons (.str _) (.cons h .nil))
theorem wv_left (s : SqT K H a [.str "left", x]) (h : WV K H x w) : WV K H (.ref a) (.left w) := by
  unfold WV W.dat
  exact .tup s (.cons (.str _) (.cons h .nil))
theorem wvs_nil : WVs K H [] [] := by
  unfold WVs W.dats
  exact .nil
theorem wvs_cons {xs : List V} {ws : List W} (h : WV K H x w) (t : WVs K H xs ws) : WVs K H (x :: xs) (w :: ws) := by
  unfold WVs W.dats
  exact .cons h t
end
theorem WVs.length {K : PySem.W.Frag} {H : Hp} : ∀ {ws : List W} {xs : List V}, WVs K H xs ws → xs.length = ws.length
  | [], xs, h => by
    unfold WVs W.dats at h
    cases h
    rfl
  | w :: r, xs, h => by
    unfold WVs W.dats at h
    cases h with | cons a b => ?_
    rw [List.length_cons, List.length_cons, WVs.length (ws := r) b]
theorem WVs.get {K : PySem.W.Frag} {H : Hp} : ∀ {ws : List W} {xs : List V} {i : Nat} {x : V}, WVs K H xs ws → xs[i]? = some x → ∃ w, ws[i]? = some w ∧ WV K H x w
  | [], xs, i, x, h, e => by
    unfold WVs W.dats at h
    cases h
    simp at e
  | w :: r, xs, 0, x, h, e => by
    unfold WVs W.dats at h
    cases h with | cons a b => ?_
    cases e
    exact ⟨w, rfl, a⟩
  | w :: r, xs, i + 1, x, h, e => by
    unfold WVs W.dats at h
    cases h with | cons a b => ?_
    exact WVs.get (ws := r) (i := i) b e
theorem WVs.app {K : PySem.W.Frag} {H : Hp} {x : V} {w : W} (q : WV K H x w) : ∀ {ws : List W} {xs : List V}, WVs K H xs ws → WVs K H (xs ++ [x]) (ws ++ [w])
  | [], xs, h => by
    unfold WVs W.dats at h
    cases h
    exact wvs_cons q wvs_nil
  | v :: r, xs, h => by
    unfold WVs W.dats at h
    cases h with | cons a b => ?_
    exact wvs_cons a (WVs.app q (ws := r) b)
/-! ### the two lists that a drawing of a tree changes -/
def Kp2 (r k : Addr) (H H' : Hp) : Prop := ∀ b o, b ≠ r → b ≠ k → H b = some o → H' b = some o
theorem Kp2.refl (r k : Addr) (H : Hp) : Kp2 r k H H := fun _ _ _ _ h => h
theorem Kp2.trans {r k : Addr} {H H1 H2 : Hp} (a : Kp2 r k H H1) (b : Kp2 r k H1 H2) : Kp2 r k H H2 := fun c o n m h => b c o n m (a c o n m h)
theorem Kp.two {r k : Addr} {H H' : Hp} (a : Kp r H H') : Kp2 r k H H' := fun c o n _ h => a c o n h
theorem Kp2.at {r k : Addr} {H : Hp} {o : HO} : Kp2 r k H (upd H k o) := fun b u _ n e => by
  rw [upd_ne n]
  exact e
theorem Kp2.tp {r k : Addr} {H H' : Hp} {z y : List V} (q : Kp2 r k H H') (h : H r = some (.lst z)) (g : H k = some (.lst y)) : Tp H H' := fun a xs p => by
  rcases p with p | ⟨o, p⟩
  · exact .inl (q _ _ (ne_of p h (by intro e; cases e)) (ne_of p g (by intro e; cases e)) p)
  · exact .inr ⟨o, q _ _ (ne_of p h (by intro e; cases e)) (ne_of p g (by intro e; cases e)) p⟩
theorem Kp2.fresh {r k : Addr} {H H' : Hp} {o : HO} (h : H k = none) (q : Kp2 r k (upd H k o) H') : Kp r H H' := fun b u n e =>
  q b u n (ne_of_none e h) (by rw [upd_ne (ne_of_none e h)]; exact e)
theorem Rng.lst {H : Hp} {r l : Addr} (g : Rng H r l) : ∃ z, H r = some (.lst z) := by
  obtain ⟨ns, i, d, st, c, h1, _⟩ := g
  exact ⟨_, h1⟩
theorem Rng.ne {H : Hp} {r l : Addr} (g : Rng H r l) : l ≠ r := by
  obtain ⟨ns, i, d, st, c, h1, h2, h3, h4⟩ := g
  exact h4
/-- the generator stays where neither of its lists is touched -/
theorem Rng.of {H H' : Hp} {r l : Addr} (g : Rng H r l) (a : ∀ o, H r = some o → H' r = some o) (b : ∀ o, H l = some o → H' l = some o) : Rng H' r l := by
  obtain ⟨ns, i, d, st, c, h1, h2, h3, h4⟩ := g
  exact ⟨ns, i, d, st, c, a _ h1, b _ h2, h3, h4⟩
theorem Rng.some_l {H : Hp} {r l : Addr} (g : Rng H r l) : ∃ z, H l = some (.lst z) := by
  obtain ⟨ns, i, d, st, c, h1, h2, h3, h4⟩ := g
  exact ⟨_, h2⟩
/-! ### comprehensions of one name without a test -/
theorem lcr {lo : Int} {n j : Nat} {te : TE} {σ : L2.St} {H1 : Hp} {D : Addr} {Qd : Hp → Prop} (Pv : Nat → Hp → Prop) (h0 : Pv 0 (upd H1 D (.lst [])))
    (hs : ∀ i H, i < n → Pv i H → te (σ.set j (some (.int (lo + i)))) H fun y H4 => ∃ acc, H4 D = some (.lst acc) ∧ acc.length < sizeLine ∧ Pv (i + 1) (upd H4 D (.lst (acc ++ [y])))) (hd : ∀ H, Pv n H → Qd H) :
    ∃ W : Nat → Nat → Hp → Prop, (∃ m, W 0 m (upd H1 D (.lst []))) ∧ ∀ i m H, W i m H →
      ((Itr lo n).stop i H ∧ Qd H) ∨ ((Itr lo n).go i H ∧ ∃ Nx : Hp → Prop, (∀ H', Nx H' → ∃ m', m' < m ∧ W (i + 1) m' H') ∧ ∀ x H', (Itr lo n).yld i H x H' → gName j x (wipe σ [j]) H' fun σ2 H2 => wipe σ2 [j] = wipe σ [j] ∧ tYes σ2 H2 fun b H3 =>
        if b = true then te σ2 H3 fun y H4 => ∃ acc, H4 D = some (.lst acc) ∧ acc.length < sizeLine ∧ Nx (upd H4 D (.lst (acc ++ [y]))) else Nx H3) := by
  refine lc_range Pv h0 (fun i H hi p => ?_) hd
  have e1 : wipe σ [j] = σ.set j none := rfl
  have e2 : (wipe σ [j]).set j (some (.int (lo + i))) = σ.set j (some (.int (lo + i))) := by rw [e1, List.set_set]
  unfold gName tYes
  rw [e2]
  dsimp only
  rw [if_pos rfl]
  refine ⟨?_, hs i H hi p⟩
  show (σ.set j (some (.int (lo + i)))).set j none = σ.set j none
  rw [List.set_set]
theorem lcl {K : PySem.W.Frag} {a : Addr} {xs : List V} {j : Nat} {te : TE} {σ : L2.St} {H1 : Hp} {D : Addr} {Qd : Hp → Prop} (Pv : Nat → Hp → Prop) (h0 : Pv 0 (upd H1 D (.lst []))) (hl : ∀ i H, i ≤ xs.length → Pv i H → SqL K H a xs)
    (hs : ∀ i x H, xs[i]? = some x → Pv i H → te (σ.set j (some x)) H fun y H4 => ∃ acc, H4 D = some (.lst acc) ∧ acc.length < sizeLine ∧ Pv (i + 1) (upd H4 D (.lst (acc ++ [y])))) (hd : ∀ H, Pv xs.length H → Qd H) :
    ∃ W : Nat → Nat → Hp → Prop, (∃ m, W 0 m (upd H1 D (.lst []))) ∧ ∀ i m H, W i m H →
      ((Itl K a).stop i H ∧ Qd H) ∨ ((Itl K a).go i H ∧ ∃ Nx : Hp → Prop, (∀ H', Nx H' → ∃ m', m' < m ∧ W (i + 1) m' H') ∧ ∀ x H', (Itl K a).yld i H x H' → gName j x (wipe σ [j]) H' fun σ2 H2 => wipe σ2 [j] = wipe σ [j] ∧ tYes σ2 H2 fun b H3 =>
        if b = true then te σ2 H3 fun y H4 => ∃ acc, H4 D = some (.lst acc) ∧ acc.length < sizeLine ∧ Nx (upd H4 D (.lst (acc ++ [y]))) else Nx H3) := by
  refine lc_list Pv h0 hl (fun i x H hi p => ?_) hd
  have e1 : wipe σ [j] = σ.set j none := rfl
  have e2 : (wipe σ [j]).set j (some x) = σ.set j (some x) := by rw [e1, List.set_set]
  unfold gName tYes
  rw [e2]
  dsimp only
  rw [if_pos rfl]
  refine ⟨?_, hs i x H hi p⟩
  show (σ.set j (some x)).set j none = σ.set j none
  rw [List.set_set]
theorem lct {K : PySem.W.Frag} {a : Addr} {xs : List V} {j : Nat} {te : TE} {σ : L2.St} {H1 : Hp} {D : Addr} {Qd : Hp → Prop} (Pv : Nat → Hp → Prop) (h0 : Pv 0 (upd H1 D (.lst []))) (hl : ∀ i H, i ≤ xs.length → Pv i H → SqT K H a xs)
    (hs : ∀ i x H, xs[i]? = some x → Pv i H → te (σ.set j (some x)) H fun y H4 => ∃ acc, H4 D = some (.lst acc) ∧ acc.length < sizeLine ∧ Pv (i + 1) (upd H4 D (.lst (acc ++ [y])))) (hd : ∀ H, Pv xs.length H → Qd H) :
    ∃ W : Nat → Nat → Hp → Prop, (∃ m, W 0 m (upd H1 D (.lst []))) ∧ ∀ i m H, W i m H →
      ((Itt K a).stop i H ∧ Qd H) ∨ ((Itt K a).go i H ∧ ∃ Nx : Hp → Prop, (∀ H', Nx H' → ∃ m', m' < m ∧ W (i + 1) m' H') ∧ ∀ x H', (Itt K a).yld i H x H' → gName j x (wipe σ [j]) H' fun σ2 H2 => wipe σ2 [j] = wipe σ [j] ∧ tYes σ2 H2 fun b H3 =>
        if b = true then te σ2 H3 fun y H4 => ∃ acc, H4 D = some (.lst acc) ∧ acc.length < sizeLine ∧ Nx (upd H4 D (.lst (acc ++ [y]))) else Nx H3) := by
  refine lc_tup Pv h0 hl (fun i x H hi p => ?_) hd
  have e1 : wipe σ [j] = σ.set j none := rfl
  have e2 : (wipe σ [j]).set j (some x) = σ.set j (some x) := by rw [e1, List.set_set]
  unfold gName tYes
  rw [e2]
  dsimp only
  rw [if_pos rfl]
  refine ⟨?_, hs i x H hi p⟩
  show (σ.set j (some x)).set j none = σ.set j none
  rw [List.set_set]
end SW

set_option Elab.async false
set_option linter.all false
set_option maxRecDepth 100000
set_option maxHeartbeats 4000000
namespace SW
open PySem PySem.Spec PyProof.Rows L2
/-! ### small data: at most n levels, at most 1000 items -/
def atomD : PyData → Prop
  | .none => True
  | .bool _ => True
  | .int _ => True
  | .str _ => True
  | _ => False
def Sm : Nat → PyData → Prop
  | _ + 1, .list ds => ds.length ≤ 1000 ∧ ∀ d, d ∈ ds → Sm ‹Nat› d
  | _ + 1, .tuple ds => ds.length ≤ 1000 ∧ ∀ d, d ∈ ds → Sm ‹Nat› d
  | _, .none => True
  | _, .bool _ => True
  | _, .int _ => True
  | _, .str _ => True
  | _, _ => False
theorem Sm.mono : ∀ {n m : Nat} {d : PyData}, Sm n d → n ≤ m → Sm m d
  | n, m, .none, _, _ => by cases m <;> (unfold Sm; trivial)
  | n, m, .bool _, _, _ => by cases m <;> (unfold Sm; trivial)
  | n, m, .int _, _, _ => by cases m <;> (unfold Sm; trivial)
  | n, m, .str _, _, _ => by cases m <;> (unfold Sm; trivial)
  | n + 1, m + 1, .list ds, h, l => by
    unfold Sm at h ⊢
    exact ⟨h.1, fun d q => (h.2 d q).mono (by omega)⟩
  | n + 1, m + 1, .tuple ds, h, l => by
    unfold Sm at h ⊢
    exact ⟨h.1, fun d q => (h.2 d q).mono (by omega)⟩
  | 0, m, .list ds, h, l => by unfold Sm at h; exact h.elim
  | 0, m, .tuple ds, h, l => by unfold Sm at h; exact h.elim
  | n + 1, 0, .list ds, h, l => by omega
  | n + 1, 0, .tuple ds, h, l => by omega
  | 0, m, .dict ds, h, l => by unfold Sm at h; exact h.elim
  | n + 1, m, .dict ds, h, l => by unfold Sm at h; exact h.elim
mutual
theorem W.sm {L : List Str} : ∀ w : W, w.Ok L → Sm (2 * w.dep) w.dat
  | .emp, h => by
    unfold W.dat W.dep
    show Sm 2 _
    unfold Sm
    refine ⟨by decide, fun d q => ?_⟩
    cases List.mem_singleton.mp q
    unfold Sm
    trivial
  | .ltr c, h => by
    unfold W.dat W.dep
    show Sm 2 _
    unfold Sm
    refine ⟨by show 2 ≤ 1000; decide, fun d q => ?_⟩
    simp only [List.mem_cons, List.not_mem_nil, or_false] at q
    rcases q with rfl | rfl <;> (unfold Sm; trivial)
  | .nam c, h => by
    unfold W.Ok at h
    exact h.elim
  | .join ws, h => by
    unfold W.Ok at h
    unfold W.dat W.dep
    show Sm (2 * W.deps ws + 1 + 1) _
    unfold Sm
    refine ⟨by show 2 ≤ 1000; decide, fun d q => ?_⟩
    simp only [List.mem_cons, List.not_mem_nil, or_false] at q
    rcases q with rfl | rfl
    · unfold Sm
      trivial
    · unfold Sm
      refine ⟨?_, fun d q => ?_⟩
      · rw [W.dats_map, List.length_map]
        omega
      · exact W.sms ws h.2 d q
  | .times w n, h => by
    unfold W.Ok at h
    unfold W.dat W.dep
    show Sm (2 * w.dep + 1 + 1) _
    unfold Sm
    refine ⟨by show 3 ≤ 1000; decide, fun d q => ?_⟩
    simp only [List.mem_cons, List.not_mem_nil, or_false] at q
    rcases q with rfl | rfl | rfl
    · unfold Sm
      trivial
    · exact (W.sm w h.2.2).mono (by omega)
    · unfold Sm
      trivial
  | .right w, h => by
    unfold W.Ok at h
    unfold W.dat W.dep
    show Sm (2 * w.dep + 1 + 1) _
    unfold Sm
    refine ⟨by show 2 ≤ 1000; decide, fun d q => ?_⟩
    simp only [List.mem_cons, List.not_mem_nil, or_false] at q
    rcases q with rfl | rfl
    · unfold Sm
      trivial
    · exact (W.sm w h).mono (by omega)
  | .left w, h => by
    unfold W.Ok at h
    unfold W.dat W.dep
    show Sm (2 * w.dep + 1 + 1) _
    unfold Sm
    refine ⟨by show 2 ≤ 1000; decide, fun d q => ?_⟩
    simp only [List.mem_cons, List.not_mem_nil, or_false] at q
    rcases q with rfl | rfl
    · unfold Sm
      trivial
    · exact (W.sm w h).mono (by omega)
theorem W.sms {L : List Str} : ∀ ws : List W, W.Oks L ws → ∀ d ∈ W.dats ws, Sm (2 * W.deps ws) d
  | [], h, d, q => by
    unfold W.dats at q
    exact (List.not_mem_nil q).elim
  | w :: r, h, d, q => by
    unfold W.Oks at h
    unfold W.dats at q
    unfold W.deps
    rcases List.mem_cons.mp q with rfl | q
    · exact (W.sm w h.1).mono (Nat.mul_le_mul_left 2 (Nat.le_max_left _ _))
    · exact (W.sms r h.2 d q).mono (Nat.mul_le_mul_left 2 (Nat.le_max_right _ _))
end
/-! ### what == asks of data -/
def strsOk (L : List Str) : Prop := ∀ c ∈ L, PyData.canLay0 (.str c) = true
theorem abc_ok : strsOk abcABC := by
  intro c h
  simp only [abcABC, List.mem_cons, List.not_mem_nil, or_false] at h
  rcases h with rfl | rfl | rfl | rfl | rfl | rfl <;> decide +kernel
mutual
theorem W.lay {L : List Str} (hL : strsOk L) : ∀ w : W, w.Ok L → w.dat.canLay0 = true
  | .emp, h => by
    unfold W.dat
    decide +kernel
  | .ltr c, h => by
    unfold W.Ok at h
    unfold W.dat
    have a := hL c h
    simp only [PyData.canLay0, PyData.canLayAll0, Bool.and_true] at a ⊢
    rw [a]
    decide +kernel
  | .nam c, h => by
    unfold W.Ok at h
    exact h.elim
  | .join ws, h => by
    unfold W.Ok at h
    unfold W.dat
    have a := W.lays hL ws h.2
    simp only [PyData.canLay0, PyData.canLayAll0, Bool.and_true]
    rw [a]
    decide +kernel
  | .times w n, h => by
    unfold W.Ok at h
    unfold W.dat
    have a := W.lay hL w h.2.2
    simp only [PyData.canLay0, PyData.canLayAll0, Bool.and_true]
    rw [a]
    decide +kernel
  | .right w, h => by
    unfold W.Ok at h
    unfold W.dat
    have a := W.lay hL w h
    simp only [PyData.canLay0, PyData.canLayAll0, Bool.and_true]
    rw [a]
    decide +kernel
  | .left w, h => by
    unfold W.Ok at h
    unfold W.dat
    have a := W.lay hL w h
    simp only [PyData.canLay0, PyData.canLayAll0, Bool.and_true]
    rw [a]
    decide +kernel
theorem W.lays {L : List Str} (hL : strsOk L) : ∀ ws : List W, W.Oks L ws → PyData.canLayAll0 (W.dats ws) = true
  | [], h => by
    unfold W.dats
    rfl
  | w :: r, h => by
    unfold W.Oks at h
    unfold W.dats
    simp only [PyData.canLayAll0]
    rw [W.lay hL w h.1, W.lays hL r h.2]
    rfl
end
mutual
theorem Sm.depth : ∀ (n : Nat) (d : PyData), Sm n d → d.depth ≤ n + 1
  | n, .none, _ => by simp [PyData.depth]
  | n, .bool _, _ => by simp [PyData.depth]
  | n, .int _, _ => by simp [PyData.depth]
  | n, .str _, _ => by simp [PyData.depth]
  | 0, .list ds, h => by unfold Sm at h; exact h.elim
  | 0, .tuple ds, h => by unfold Sm at h; exact h.elim
  | 0, .dict ds, h => by unfold Sm at h; exact h.elim
  | n + 1, .dict ds, h => by unfold Sm at h; exact h.elim
  | n + 1, .list ds, h => by
    unfold Sm at h
    have := Sm.depths n ds h.2
    unfold PyData.depth
    omega
  | n + 1, .tuple ds, h => by
    unfold Sm at h
    have := Sm.depths n ds h.2
    unfold PyData.depth
    omega
theorem Sm.depths : ∀ (n : Nat) (ds : List PyData), (∀ d ∈ ds, Sm n d) → PyData.depthAll ds ≤ n + 1
  | n, [], _ => by simp [PyData.depthAll]
  | n, d :: r, h => by
    have a := Sm.depth n d (h d (List.mem_cons_self ..))
    have b := Sm.depths n r fun x q => h x (List.mem_cons_of_mem _ q)
    unfold PyData.depthAll
    omega
end
end SW

set_option Elab.async false
set_option linter.all false
set_option maxRecDepth 100000
set_option maxHeartbeats 4000000
namespace SW
open PySem PySem.Spec PyProof.Rows L2
theorem W.shaped {L : List Str} (hL : strsOk L) {w : W} (h : w.Ok L) (hd : w.dep ≤ 30) : SeqAt.shaped w.dat = true := by
  unfold SeqAt.shaped
  rw [W.lay hL w h, decide_eq_true (p := w.dat.depth ≤ 64) (Nat.le_trans (Sm.depth _ _ (W.sm w h)) (by omega))]
  rfl
theorem W.eqv_refl {L : List Str} (hL : strsOk L) {w : W} (h : w.Ok L) : PyData.eqv w.dat w.dat = true := PySem.SeqAt.eqv_refl _ (W.lay hL w h)
/-! ### types of data -/
def tyN : PyData → String
  | .none => "NoneType"
  | .bool _ => "bool"
  | .int _ => "int"
  | .str _ => "str"
  | .list _ => "list"
  | .tuple _ => "tuple"
  | .dict _ => "dict"
theorem SqL.ty {K : PySem.W.Frag} {H : Hp} {a : Addr} {xs : List V} (h : SqL K H a xs) : TyX K H (.ref a) (.type "list") := by
  rcases h with (h | ⟨o, h⟩) | ⟨o, its, n, h, c, _⟩
  · exact .base (.lst h)
  · exact .base (.frz h)
  · exact .kList h c
theorem SqT.ty {K : PySem.W.Frag} {H : Hp} {a : Addr} {xs : List V} (h : SqT K H a xs) : TyX K H (.ref a) (.type "tuple") := by
  rcases h with (h | ⟨o, h⟩) | ⟨o, its, n, h, c, _⟩
  · exact .base (.tup h)
  · exact .fTuple h
  · exact .kTuple h c
theorem Dp.ty {K : PySem.W.Frag} {H : Hp} {v : V} {d : PyData} (h : Dp K H v d) : TyX K H v (.type (tyN d)) := by
  cases h with
  | non => exact .base .non
  | bl b => exact .base (.bl b)
  | int i => exact .base (.int i)
  | str x => exact .base (.str x)
  | lst s _ => exact SqL.ty s
  | tup s _ => exact SqT.ty s
/-- isinstance(x, T) of data at a slot -/
theorem rd_isi {K : PySem.W.Frag} {σ : L2.St} {H : Hp} {i : Nat} {v : V} {d : PyData} {n : String} {b : Bool} {Q : VK} (hσ : σ[i]? = some (some v)) (h : Dp K H v d) (k : kitB (tyN d) n = some b) (q : Q (.bl b) H) :
    tCB (rIsi K) (tCons (tVar i) (tCons (tC (.ty n)) tNil)) σ H Q := ⟨v, hσ, v, .ty n, _, _, b, rfl, .ty n, Dp.ty h, kit_ty k, q⟩
theorem walk_zipT {K : PySem.W.Frag} {a b : Addr} {xs ys : List V} {n : Nat} (hn : n = min xs.length ys.length) : Walk (RZ.ItzT K a b) n (fun H => SqT K H a xs ∧ SqT K H b ys) (YPair (fun i => xs[i]?) (fun i => ys[i]?)) := by
  subst hn
  refine ⟨fun i _ hi q => ?_, fun _ q => ⟨xs, ys, q.1, q.2, by omega⟩, fun i H v H' _ q y => ?_⟩
  · have h1 : i < xs.length := by omega
    have h2 : i < ys.length := by omega
    exact ⟨xs, ys, xs[i], ys[i], q.1, q.2, by simp [h1], by simp [h2]⟩
  · obtain ⟨T, x, z, h1, h2, h3, h4, h5⟩ := y
    exact ⟨T, x, z, h1, h2, h3, h4 xs q.1, h5 ys q.2⟩
/-- a comprehension over pairs -/
theorem lcz {K : PySem.W.Frag} {J : It} {n : Nat} {G : Hp → Prop} {fx fy : Nat → Option V} (w : Walk J n G (YPair fx fy)) {j1 j2 : Nat} (hj : j1 ≠ j2) {te : TE} {σ : L2.St} {H1 : Hp} {D : Addr} {Qd : Hp → Prop} (Pv : Nat → Hp → Prop) (h0 : Pv 0 (upd H1 D (.lst []))) (hG : ∀ i H, i ≤ n → Pv i H → G H)
    (hs : ∀ i x y T H, i < n → fx i = some x → fy i = some y → Pv i H → H T = none → te ((σ.set j1 (some x)).set j2 (some y)) (upd H T (.tup [x, y])) fun z H4 => ∃ acc, H4 D = some (.lst acc) ∧ acc.length < sizeLine ∧ Pv (i + 1) (upd H4 D (.lst (acc ++ [z])))) (hd : ∀ H, Pv n H → Qd H) :
    ∃ W : Nat → Nat → Hp → Prop, (∃ m, W 0 m (upd H1 D (.lst []))) ∧ ∀ i m H, W i m H →
      (J.stop i H ∧ Qd H) ∨ (J.go i H ∧ ∃ Nx : Hp → Prop, (∀ H', Nx H' → ∃ m', m' < m ∧ W (i + 1) m' H') ∧ ∀ x H', J.yld i H x H' → gTup K 2 (gCons (gName j1) (gCons (gName j2) gNil)) x (wipe σ [j1, j2]) H' fun σ2 H2 => wipe σ2 [j1, j2] = wipe σ [j1, j2] ∧ tYes σ2 H2 fun b H3 =>
        if b = true then te σ2 H3 fun y H4 => ∃ acc, H4 D = some (.lst acc) ∧ acc.length < sizeLine ∧ Nx (upd H4 D (.lst (acc ++ [y]))) else Nx H3) := by
  refine lc_it w Pv h0 hG (fun i v H H' hi p y => ?_) hd
  obtain ⟨T, x, y, rfl, hT, rfl, h1, h2⟩ := y
  have e0 : wipe σ [j1, j2] = (σ.set j2 none).set j1 none := rfl
  have e1 : ((wipe σ [j1, j2]).set j1 (some x)).set j2 (some y) = (σ.set j1 (some x)).set j2 (some y) := by
    rw [e0, List.set_set, List.set_comm _ _ hj.symm, List.set_set]
  refine ⟨T, [x, y], rfl, SqT.of upd_same, rfl, x, [y], rfl, y, [], rfl, rfl, ?_, ?_⟩
  · rw [e1]
    show ((((σ.set j1 (some x)).set j2 (some y))).set j2 none).set j1 none = (σ.set j2 none).set j1 none
    rw [List.set_set, List.set_comm _ _ hj, List.set_set]
  · rw [e1]
    unfold tYes
    dsimp only
    rw [if_pos rfl]
    exact hs i x y T H hi h1 h2 p hT
theorem DpAll.length {K : PySem.W.Frag} {H : Hp} : ∀ {ds : List PyData} {xs : List V}, DpAll K H xs ds → xs.length = ds.length
  | [], _, .nil => rfl
  | _ :: r, _, .cons _ t => by rw [List.length_cons, List.length_cons, DpAll.length t]
theorem DpAll.get {K : PySem.W.Frag} {H : Hp} : ∀ {ds : List PyData} {xs : List V} {i : Nat} {x : V}, DpAll K H xs ds → xs[i]? = some x → ∃ d, ds[i]? = some d ∧ Dp K H x d
  | [], _, i, x, .nil, e => by simp at e
  | d :: r, _, 0, x, .cons a t, e => by
    cases e
    exact ⟨d, rfl, a⟩
  | d :: r, _, i + 1, x, .cons a t, e => DpAll.get (i := i) t e
mutual
theorem Dp.same {K : PySem.W.Frag} {H H' : Hp} (s : Same H H') : ∀ (d : PyData) {v : V}, Dp K H v d → Dp K H' v d
  | .none, _, .non => .non
  | .bool b, _, .bl _ => .bl b
  | .int i, _, .int _ => .int i
  | .str x, _, .str _ => .str x
  | .list ds, _, .lst h a => .lst (s.seq h) (DpAll.same s ds a)
  | .tuple ds, _, .tup h a => .tup ((tp_same s).sq h) (DpAll.same s ds a)
theorem DpAll.same {K : PySem.W.Frag} {H H' : Hp} (s : Same H H') : ∀ (ds : List PyData) {vs : List V}, DpAll K H vs ds → DpAll K H' vs ds
  | [], _, .nil => .nil
  | d :: r, _, .cons a b => .cons (Dp.same s d a) (DpAll.same s r b)
end
theorem same_new {H : Hp} {p : Addr} {o : HO} (h : H p = none) : Same H (upd H p o) := fun b u e => by
  rw [upd_ne (ne_of_none e h)]
  exact e
theorem Same.kp {r : Addr} {H H' : Hp} (s : Same H H') : Kp r H H' := fun b o _ e => s b o e
/-- all of a row of True -/
theorem all_true (n : Nat) : (List.replicate n true).all id = true := by
  induction n with
  | zero => rfl
  | succ n ih => rw [List.replicate_succ, List.all_cons, ih]; rfl
theorem rep_snoc (n : Nat) : (List.replicate n true).map V.bl ++ [V.bl true] = (List.replicate (n + 1) true).map V.bl := by
  rw [List.replicate_succ', List.map_append]
  rfl
end SW

set_option Elab.async false
set_option linter.all false
set_option maxRecDepth 100000
set_option maxHeartbeats 4000000
namespace SW
open PySem PySem.Spec PyProof.Rows L2
/-! ### a starred text in a display -/
def signs (z : Str) : List V := z.cps.toList.map fun c => V.str ⟨#[c]⟩
theorem vals_of : ∀ {xs : List V} {us : List Value}, xs.length = us.length → (∀ (i : Nat) x u, xs[i]? = some x → us[i]? = some u → RelV x u) → Vals xs us
  | [], [], _, _ => .nil
  | x :: xs, u :: us, hl, h => .cons (h 0 x u rfl rfl) (vals_of (by simpa using hl) fun i a b p q => h (i + 1) a b p q)
section
variable {X : Cx} {pins : List (Addr × Obj)} {σ : L2.St} {H : Hp} {s : Shared}
theorem star_str {z : Str} {t : Tok} {E : Value → Shared → Prop} {Q : List Value → Shared → Prop} (hc : X.calm = true) (I : Inv X pins σ H s) (hz : z.cps.size ≤ sizeLine) (hQ : ∀ us s', Inv X pins σ H s' → Vals (signs z) us → Q us s') :
    PySem.W.StarOf (model X.prog X.w) X.A E (.str z t) Q s := by
  have z1 : wpAny (model X.prog X.w) X.A (collect (.str z t)) Q E s := by
    refine wpAny_collect_str (I.ok.hd hc) z t (fun s' acc hk hg hd ho hit => ?_) hz
    have e : s' = { s with heap := s'.heap, toks := s'.toks } := by
      cases s'
      cases s
      simp only at hg hd ho
      subst hg hd ho
      rfl
    rw [e]
    refine hQ acc.toList _ (I.kept (t' := s'.toks) hk) (vals_of ?_ fun i x u p q => ?_)
    · unfold signs
      rw [List.length_map, Array.length_toList, Array.length_toList]
      exact hit.1.symm
    · have q' : acc[i]? = some u := by rw [Array.getElem?_toList] at q; exact q
      obtain ⟨c, tk, h1, h2⟩ := hit.2 i u q'
      unfold signs at p
      rw [List.getElem?_map, Array.getElem?_toList, h1] at p
      cases p
      exact ⟨tk, h2⟩
  unfold PySem.W.StarOf notIterableAtAll
  exact wpAny_bind (wpAny_specialOf (T := "str") (v := .str z t) rfl PySem.F.slot_str_iter.lookup (wpAny_pure ⟨rfl, z1⟩))
end
def tStarS (te : TE) (t : TA) : TA := fun σ H Q => te σ H fun x H1 => ∃ z, x = V.str z ∧ z.cps.size ≤ sizeLine ∧ t σ H1 fun ys H2 => Q (signs z ++ ys) H2
theorem pa_starS {X : Cx} {e : Expr} {es : List Expr} {te : TE} {t : TA} {p : Pos} (hc : X.calm = true) (he : PE X e te) (hr : PA X es t) (hs : starEach (.Starred e p :: es) X.env = (true, eval e X.env) :: starEach es X.env := by rfl) : PA X (.Starred e p :: es) (tStarS te t) := by
  refine ⟨fun pos pins s σ H Q I h => ?_⟩
  refine PySem.W.items_star (thn (he.run pins s σ H _ I h) fun v s1 ⟨y, H1, I1, ry, z, ey, hz, q⟩ => ?_) hs
  subst ey
  obtain ⟨tk, rfl⟩ := (show ∃ t, v = Value.str z t from ry)
  refine star_str hc I1 hz fun us s2 I2 rv => ?_
  exact thn (hr.run pos pins s2 σ H1 _ I2 q) fun ws s3 ⟨vs, H3, I3, r3, q3⟩ => ⟨signs z ++ vs, H3, I3, rv.append r3, q3⟩
/-! ### tests of texts -/
theorem eq_no {a b : Str} {A B : Prop} (h : a ≠ b) (q : B) : ∃ k, V.bl (decide (V.str a = V.str b)) = V.bl k ∧ if k = true then A else B :=
  ⟨false, by rw [decide_eq_false]; intro e; exact h (V.str.inj e), q⟩
theorem eq_yes {a b : Str} {A B : Prop} (h : a = b) (q : A) : ∃ k, V.bl (decide (V.str a = V.str b)) = V.bl k ∧ if k = true then A else B :=
  ⟨true, by rw [h, decide_eq_true rfl], q⟩
/-- membership of a text among texts -/
theorem inV_str {c : Str} : ∀ {L : List Str}, inV (.str c) (L.map V.str) = decide (c ∈ L)
  | [] => rfl
  | a :: r => by
    have ih := inV_str (c := c) (L := r)
    unfold inV at ih ⊢
    rw [List.map_cons, List.any_cons, ih]
    show ((a == c) || decide (c ∈ r)) = _
    by_cases h : a = c
    · subst h
      simp
    · have h' : ¬ c = a := fun e => h e.symm
      simp [h, h']
theorem in_no {c : Str} (L : List Str) {A B : Prop} (h : c ∉ L) (q : B) : ∃ k, V.bl (if false = true then !inV (.str c) (L.map V.str) else inV (.str c) (L.map V.str)) = V.bl k ∧ if k = true then A else B := by
  refine ⟨false, ?_, q⟩
  rw [if_neg (by decide), inV_str, decide_eq_false h]
theorem in_yes {c : Str} (L : List Str) {A B : Prop} (h : c ∈ L) (q : A) : ∃ k, V.bl (if false = true then !inV (.str c) (L.map V.str) else inV (.str c) (L.map V.str)) = V.bl k ∧ if k = true then A else B := by
  refine ⟨true, ?_, q⟩
  rw [if_neg (by decide), inV_str, decide_eq_true h]
/-! ### counts -/
mutual
def W.cnt (L : List Str) : W → Option Int
  | .emp => some 0
  | .ltr c => some (if c ∈ L then 1 else 0)
  | .nam _ => some 0
  | .join ws => W.cnts L ws
  | .times w n => if 0 < n then (w.cnt L).map (· * n) else some 0
  | .right w => if w.cnt L = some 0 then some 0 else none
  | .left w => if w.cnt L = some 0 then some 0 else none
def W.cnts (L : List Str) : List W → Option Int
  | [] => some 0
  | w :: r => match w.cnt L, W.cnts L r with
    | some a, some b => some (a + b)
    | _, _ => none
end
def toV : Option Int → V
  | none => .non
  | some m => .int m
def toL : Option Int → Int
  | none => -1
  | some m => m
theorem cnt_emp {L : List Str} : W.cnt L .emp = some 0 := by rw [W.cnt]
theorem cnt_ltr {L : List Str} {c : Str} : W.cnt L (.ltr c) = some (if c ∈ L then 1 else 0) := by rw [W.cnt]
theorem cnt_join {L : List Str} {ws : List W} : W.cnt L (.join ws) = W.cnts L ws := by rw [W.cnt]
theorem cnt_times {L : List Str} {t : W} {n : Int} : W.cnt L (.times t n) = if 0 < n then (t.cnt L).map (· * n) else some 0 := by rw [W.cnt]
theorem cnt_right {L : List Str} {t : W} : W.cnt L (.right t) = if t.cnt L = some 0 then some 0 else none := by rw [W.cnt]
theorem cnt_left {L : List Str} {t : W} : W.cnt L (.left t) = if t.cnt L = some 0 then some 0 else none := by rw [W.cnt]
theorem W.cnts_none {L : List Str} : ∀ {ws : List W}, none ∈ ws.map (W.cnt L) → W.cnts L ws = none
  | w :: r, h => by
    unfold W.cnts
    rcases List.mem_cons.mp h with e | h
    · rw [← e]
    · rw [W.cnts_none h]
      split <;> simp_all
theorem W.cnts_some {L : List Str} : ∀ {ws : List W}, none ∉ ws.map (W.cnt L) → W.cnts L ws = some ((ws.map fun w => toL (w.cnt L)).sum)
  | [], _ => by
    unfold W.cnts
    rfl
  | w :: r, h => by
    unfold W.cnts
    rw [List.map_cons, List.mem_cons, not_or] at h
    rw [W.cnts_some h.2, List.map_cons, List.sum_cons]
    cases e : w.cnt L with
    | none => exact absurd e.symm h.1
    | some a => rfl
mutual
theorem W.cnt_bd {M L : List Str} : ∀ (w : W) {m : Int}, w.Ok M → w.cnt L = some m → 0 ≤ m ∧ m < 2 ^ (110 * w.dep)
  | .emp, m, o, e => by
    unfold W.cnt at e
    cases e
    exact ⟨by decide, by unfold W.dep; decide⟩
  | .ltr c, m, o, e => by
    unfold W.cnt at e
    unfold W.dep
    split at e <;> (cases e; exact ⟨by decide, by decide⟩)
  | .nam c, m, o, e => by
    unfold W.Ok at o
    exact o.elim
  | .join ws, m, o, e => by
    unfold W.Ok at o
    unfold W.cnt at e
    have h := W.cnts_bd ws o.2 e
    unfold W.dep
    refine ⟨h.1, ?_⟩
    have h2 : m ≤ (ws.length : Int) * 2 ^ (110 * W.deps ws) := h.2
    have h3 : (2 : Int) ^ (110 * (W.deps ws + 1)) = 2 ^ (110 * W.deps ws) * 2 ^ 110 := by rw [← Int.pow_add]; rfl
    have h4 : (0 : Int) < 2 ^ (110 * W.deps ws) := Int.pow_pos (by decide)
    have h5 : (ws.length : Int) * 2 ^ (110 * W.deps ws) ≤ 3 * 2 ^ (110 * W.deps ws) := Int.mul_le_mul_of_nonneg_right (by omega) (Int.le_of_lt h4)
    have h6 : (2 : Int) ^ 110 = 1298074214633706907132624082305024 := by decide
    rw [h3, h6]
    generalize (2 : Int) ^ (110 * W.deps ws) = z at *
    omega
  | .times w n, m, o, e => by
    unfold W.Ok at o
    unfold W.cnt at e
    unfold W.dep
    have h4 : (0 : Int) < 2 ^ (110 * w.dep) := Int.pow_pos (by decide)
    have h3 : (2 : Int) ^ (110 * (w.dep + 1)) = 2 ^ (110 * w.dep) * 2 ^ 110 := by rw [← Int.pow_add]; rfl
    have h6 : (2 : Int) ^ 110 = 1298074214633706907132624082305024 := by decide
    rw [h3, h6]
    split at e
    · cases g : w.cnt L with
      | none =>
        rw [g] at e
        cases e
      | some a =>
        rw [g] at e
        have e' : a * n = m := Option.some.inj e
        have h := W.cnt_bd w o.2.2 g
        subst e'
        refine ⟨Int.mul_nonneg h.1 o.1, ?_⟩
        have a1 : a * n ≤ a * 1000000000000000000000000000000 := Int.mul_le_mul_of_nonneg_left o.2.1 h.1
        generalize (2 : Int) ^ (110 * w.dep) = z at *
        have := h.2
        omega
    · cases e
      generalize (2 : Int) ^ (110 * w.dep) = z at *
      omega
  | .right w, m, o, e => by
    unfold W.cnt at e
    split at e
    · cases e
      exact ⟨by decide, Int.pow_pos (by decide)⟩
    · cases e
  | .left w, m, o, e => by
    unfold W.cnt at e
    split at e
    · cases e
      exact ⟨by decide, Int.pow_pos (by decide)⟩
    · cases e
theorem W.cnts_bd {M L : List Str} : ∀ (ws : List W) {m : Int}, W.Oks M ws → W.cnts L ws = some m → 0 ≤ m ∧ m ≤ (ws.length : Int) * 2 ^ (110 * W.deps ws)
  | [], m, o, e => by
    unfold W.cnts at e
    cases e
    exact ⟨by decide, by simp⟩
  | w :: r, m, o, e => by
    unfold W.Oks at o
    unfold W.cnts at e
    unfold W.deps
    split at e
    · rename_i a b ea eb
      have e' : a + b = m := Option.some.inj e
      have h1 := W.cnt_bd w o.1 ea
      have h2 := W.cnts_bd r o.2 eb
      subst e'
      refine ⟨by omega, ?_⟩
      have p1 : (2 : Int) ^ (110 * w.dep) ≤ 2 ^ (110 * max w.dep (W.deps r)) := by
        have := Nat.pow_le_pow_right (n := 2) (by decide) (Nat.mul_le_mul_left 110 (Nat.le_max_left w.dep (W.deps r)))
        exact_mod_cast this
      have p2 : (2 : Int) ^ (110 * W.deps r) ≤ 2 ^ (110 * max w.dep (W.deps r)) := by
        have := Nat.pow_le_pow_right (n := 2) (by decide) (Nat.mul_le_mul_left 110 (Nat.le_max_right w.dep (W.deps r)))
        exact_mod_cast this
      have p3 : (r.length : Int) * 2 ^ (110 * W.deps r) ≤ (r.length : Int) * 2 ^ (110 * max w.dep (W.deps r)) := Int.mul_le_mul_of_nonneg_left p2 (by omega)
      have p4 : (((w :: r).length : Nat) : Int) * 2 ^ (110 * max w.dep (W.deps r)) = (r.length : Int) * 2 ^ (110 * max w.dep (W.deps r)) + 2 ^ (110 * max w.dep (W.deps r)) := by
        rw [List.length_cons]
        push_cast
        rw [Int.add_mul, Int.one_mul]
      rw [p4]
      omega
    · cases e
end
theorem W.cnt_abs {M L : List Str} {w : W} {m : Int} (o : w.Ok M) (e : w.cnt L = some m) : m.natAbs < 2 ^ (110 * w.dep) := by
  have h := W.cnt_bd w o e
  have : ((m.natAbs : Nat) : Int) < ((2 ^ (110 * w.dep) : Nat) : Int) := by
    rw [Int.natAbs_of_nonneg h.1]
    push_cast
    exact h.2
  exact_mod_cast this
theorem flat_strs (L : List Str) : (L.map V.str).all flatV = true := by
  rw [List.all_map]
  exact List.all_eq_true.mpr fun x _ => rfl
theorem inV_non : ∀ {cs : List (Option Int)}, inV .non (cs.map toV) = decide (none ∈ cs)
  | [] => rfl
  | c :: r => by
    have ih := inV_non (cs := r)
    unfold inV at ih ⊢
    rw [List.map_cons, List.any_cons, ih]
    cases c with
    | none =>
      show (true || _) = _
      simp
    | some m =>
      show (false || _) = _
      simp
theorem flat_toV (cs : List (Option Int)) : (cs.map toV).all flatV = true := by
  rw [List.all_map]
  exact List.all_eq_true.mpr fun x _ => by cases x <;> rfl
theorem toV_ints : ∀ {cs : List (Option Int)}, none ∉ cs → cs.map toV = (cs.map toL).map V.int
  | [], _ => rfl
  | c :: r, h => by
    rw [List.mem_cons, not_or] at h
    rw [List.map_cons, List.map_cons, List.map_cons, toV_ints h.2]
    cases c with
    | none => exact absurd rfl h.1
    | some m => rfl
theorem inV_int {m : Int} : ∀ {ns : List Int}, inV (.int m) (ns.map V.int) = decide (m ∈ ns)
  | [] => rfl
  | a :: r => by
    have ih := inV_int (m := m) (ns := r)
    unfold inV at ih ⊢
    rw [List.map_cons, List.any_cons, ih]
    show ((a == m) || decide (m ∈ r)) = _
    by_cases h : a = m
    · subst h
      simp
    · have h' : ¬ m = a := fun e => h e.symm
      simp [h, h']
theorem flat_ints (ns : List Int) : (ns.map V.int).all flatV = true := by
  rw [List.all_map]
  exact List.all_eq_true.mpr fun x _ => rfl
end SW

set_option Elab.async false
set_option linter.all false
set_option maxRecDepth 100000
set_option maxHeartbeats 4000000
namespace SW
open PySem PySem.Spec PyProof.Rows L2
def W.parts : W → List W
  | .join ws => ws
  | .times w _ => [w]
  | .right w => [w]
  | .left w => [w]
  | _ => []
theorem W.parts_mem {L : List Str} {t x : W} (o : t.Ok L) (h : x ∈ t.parts) : x.Ok L ∧ x.dep + 1 ≤ t.dep := by
  cases t with
  | join ws =>
    unfold W.Ok at o
    have := W.deps_mem (ws := ws) h
    refine ⟨W.oks_mem h o.2, ?_⟩
    rw [W.dep]
    omega
  | times w n =>
    unfold W.Ok at o
    cases List.mem_singleton.mp h
    exact ⟨o.2.2, by rw [W.dep]; omega⟩
  | right w =>
    unfold W.Ok at o
    cases List.mem_singleton.mp h
    exact ⟨o, by rw [W.dep]; omega⟩
  | left w =>
    unfold W.Ok at o
    cases List.mem_singleton.mp h
    exact ⟨o, by rw [W.dep]; omega⟩
  | emp => exact (List.not_mem_nil h).elim
  | ltr c => exact (List.not_mem_nil h).elim
  | nam c => exact (List.not_mem_nil h).elim
theorem W.parts_len {L : List Str} {t : W} (o : t.Ok L) : t.parts.length ≤ 3 := by
  cases t with
  | join ws =>
    unfold W.Ok at o
    exact o.1
  | _ => simp [W.parts]
/-- the law's counts of the parts -/
def W.cs (L : List Str) (t : W) : List Int := t.parts.map fun x => toL (x.cnt L)
theorem toL_neg {M L : List Str} {x : W} (o : x.Ok M) : toL (x.cnt L) = -1 ↔ x.cnt L = none := by
  cases e : x.cnt L with
  | none => exact ⟨fun _ => rfl, fun _ => rfl⟩
  | some m =>
    have h := (W.cnt_bd x o e).1
    refine ⟨fun q => ?_, fun q => by cases q⟩
    have q' : m = -1 := q
    omega
theorem cs_neg {M L : List Str} {t : W} (o : t.Ok M) (hl : ∀ c, t ≠ .ltr c) (ht : ∀ x n, t = .times x n → n ≠ 0) (h : (-1 : Int) ∈ t.cs L) : toL (t.cnt L) = -1 := by
  unfold W.cs at h
  obtain ⟨x, hx, e⟩ := List.mem_map.mp h
  have ox := (W.parts_mem o hx).1
  have en := (toL_neg ox).mp e
  cases t with
  | join ws =>
    rw [cnt_join, W.cnts_none (ws := ws) (List.mem_map.mpr ⟨x, hx, en⟩)]
    rfl
  | times w n =>
    unfold W.Ok at o
    cases List.mem_singleton.mp hx
    have := ht _ n rfl
    rw [cnt_times, if_pos (by omega), en]
    rfl
  | right w =>
    cases List.mem_singleton.mp hx
    rw [cnt_right, en, if_neg (by intro h; cases h)]
    rfl
  | left w =>
    cases List.mem_singleton.mp hx
    rw [cnt_left, en, if_neg (by intro h; cases h)]
    rfl
  | emp => exact (List.not_mem_nil hx).elim
  | ltr c => exact (List.not_mem_nil hx).elim
  | nam c => exact (List.not_mem_nil hx).elim
theorem cs_join {M L : List Str} {ws : List W} (o : (W.join ws).Ok M) (h : ¬ (-1 : Int) ∈ (W.join ws).cs L) : toL ((W.join ws).cnt L) = ((W.join ws).cs L).sum := by
  have hn : none ∉ ws.map (W.cnt L) := fun q => by
    obtain ⟨x, hx, e⟩ := List.mem_map.mp q
    exact h (List.mem_map.mpr ⟨x, hx, (toL_neg (W.parts_mem o hx).1).mpr e⟩)
  rw [cnt_join, W.cnts_some hn]
  rfl
theorem cs_times {M L : List Str} {x : W} {n : Int} (o : (W.times x n).Ok M) (hn : n ≠ 0) (h : ¬ (-1 : Int) ∈ (W.times x n).cs L) : toL ((W.times x n).cnt L) = toL (x.cnt L) * n := by
  unfold W.Ok at o
  have h1 : x.cnt L ≠ none := fun q => h (List.mem_map.mpr ⟨x, List.mem_singleton.mpr rfl, (toL_neg o.2.2).mpr q⟩)
  rw [cnt_times, if_pos (by omega)]
  cases e : x.cnt L with
  | none => exact absurd e h1
  | some m => rfl
theorem cs_end {M L : List Str} {x : W} (o : x.Ok M) : toL (if x.cnt L = some 0 then some 0 else none) = if toL (x.cnt L) = 0 then 0 else -1 := by
  cases e : x.cnt L with
  | none => rw [if_neg (by intro h; cases h), if_neg (by decide)]; rfl
  | some m =>
    show _ = if m = 0 then 0 else -1
    by_cases h : m = 0
    · subst h
      rw [if_pos rfl, if_pos rfl]
      rfl
    · rw [if_neg (by intro q; cases q; exact h rfl), if_neg h]
      rfl
theorem toL_abs {M L : List Str} {x : W} (o : x.Ok M) : (toL (x.cnt L)).natAbs < 2 ^ (110 * x.dep) := by
  cases e : x.cnt L with
  | none =>
    show (1 : Nat) < _
    have := x.dep_pos
    exact Nat.one_lt_two_pow (by omega)
  | some m => exact W.cnt_abs o e
/-! ### letters in lowercase -/
mutual
def W.low : W → W
  | .emp => .emp
  | .ltr c => .ltr (Txt.lower c)
  | .nam c => .nam c
  | .join ws => .join (W.lows ws)
  | .times w n => .times w.low n
  | .right w => .right w.low
  | .left w => .left w.low
def W.lows : List W → List W
  | [] => []
  | w :: r => w.low :: W.lows r
end
theorem lows_map : ∀ ws : List W, W.lows ws = ws.map W.low
  | [] => by rw [W.lows]; rfl
  | w :: r => by rw [W.lows, lows_map r]; rfl
theorem low_abc : ∀ c ∈ abcABC, Txt.lower c ∈ abc := by
  intro c h
  simp only [abcABC, List.mem_cons, List.not_mem_nil, or_false] at h
  rcases h with rfl | rfl | rfl | rfl | rfl | rfl <;> decide +kernel
theorem low_same : ∀ c ∈ abc, Txt.lower c = c := by
  intro c h
  simp only [abc, List.mem_cons, List.not_mem_nil, or_false] at h
  rcases h with rfl | rfl | rfl <;> decide +kernel
theorem len_abc : ∀ c ∈ abcABC, c.length ≤ 5592405 := by
  intro c h
  simp only [abcABC, List.mem_cons, List.not_mem_nil, or_false] at h
  rcases h with rfl | rfl | rfl | rfl | rfl | rfl <;> decide +kernel
mutual
theorem W.low_ok : ∀ w : W, w.Ok abcABC → w.low.Ok abc
  | .emp, h => by rw [W.low]; unfold W.Ok; trivial
  | .ltr c, h => by rw [W.low]; unfold W.Ok at h ⊢; exact low_abc c h
  | .nam c, h => by unfold W.Ok at h; exact h.elim
  | .join ws, h => by
    rw [W.low]
    unfold W.Ok at h ⊢
    exact ⟨by rw [lows_map, List.length_map]; exact h.1, W.lows_ok ws h.2⟩
  | .times w n, h => by rw [W.low]; unfold W.Ok at h ⊢; exact ⟨h.1, h.2.1, W.low_ok w h.2.2⟩
  | .right w, h => by rw [W.low]; unfold W.Ok at h ⊢; exact W.low_ok w h
  | .left w, h => by rw [W.low]; unfold W.Ok at h ⊢; exact W.low_ok w h
theorem W.lows_ok : ∀ ws : List W, W.Oks abcABC ws → W.Oks abc (W.lows ws)
  | [], h => by rw [W.lows]; unfold W.Oks; trivial
  | w :: r, h => by rw [W.lows]; unfold W.Oks at h ⊢; exact ⟨W.low_ok w h.1, W.lows_ok r h.2⟩
theorem W.low_id : ∀ w : W, w.Ok abc → w.low = w
  | .emp, h => by rw [W.low]
  | .ltr c, h => by unfold W.Ok at h; rw [W.low, low_same c h]
  | .nam c, h => by rw [W.low]
  | .join ws, h => by unfold W.Ok at h; rw [W.low, W.lows_id ws h.2]
  | .times w n, h => by unfold W.Ok at h; rw [W.low, W.low_id w h.2.2]
  | .right w, h => by unfold W.Ok at h; rw [W.low, W.low_id w h]
  | .left w, h => by unfold W.Ok at h; rw [W.low, W.low_id w h]
theorem W.lows_id : ∀ ws : List W, W.Oks abc ws → W.lows ws = ws
  | [], h => by rw [W.lows]
  | w :: r, h => by unfold W.Oks at h; rw [W.lows, W.low_id w h.1, W.lows_id r h.2]
end
mutual
theorem W.low_dep : ∀ w : W, w.low.dep = w.dep
  | .emp => by rw [W.low]
  | .ltr c => by rw [W.low, W.dep, W.dep]
  | .nam c => by rw [W.low]
  | .join ws => by rw [W.low, W.dep, W.dep, W.lows_dep ws]
  | .times w n => by rw [W.low, W.dep, W.dep, W.low_dep w]
  | .right w => by rw [W.low, W.dep, W.dep, W.low_dep w]
  | .left w => by rw [W.low, W.dep, W.dep, W.low_dep w]
theorem W.lows_dep : ∀ ws : List W, W.deps (W.lows ws) = W.deps ws
  | [] => by rw [W.lows]
  | w :: r => by rw [W.lows, W.deps, W.deps, W.low_dep w, W.lows_dep r]
end
end SW

set_option Elab.async false
set_option linter.all false
set_option maxRecDepth 100000
set_option maxHeartbeats 4000000
namespace SW
open PySem PySem.Spec PyProof.Rows L2
theorem int_eqv {a b : Int} : PyData.eqv (.list [.int a]) (.list [.int b]) = decide (a = b) := by
  simp only [PyData.eqv, PyData.eqvAll, Bool.and_true]
  rfl
theorem int_shaped {a : Int} : SeqAt.shaped (.list [.int a]) = true := by
  unfold SeqAt.shaped
  simp [PyData.canLay0, PyData.canLayAll0, PyData.depth, PyData.depthAll]
theorem ne_yes {a b : Str} {A B : Prop} (h : a ≠ b) (q : A) : ∃ k, V.bl (!decide (V.str a = V.str b)) = V.bl k ∧ if k = true then A else B :=
  ⟨true, by rw [decide_eq_false (fun e => h (V.str.inj e))]; rfl, q⟩
theorem ne_no {a b : Str} {A B : Prop} (h : a = b) (q : B) : ∃ k, V.bl (!decide (V.str a = V.str b)) = V.bl k ∧ if k = true then A else B :=
  ⟨false, by rw [h, decide_eq_true rfl]; rfl, q⟩
theorem up_abc : ∀ c ∈ abc, Txt.upper c ∈ abcABC := by
  intro c h
  simp only [abc, List.mem_cons, List.not_mem_nil, or_false] at h
  rcases h with rfl | rfl | rfl <;> decide +kernel
theorem low_emp : W.low .emp = .emp := by rw [W.low]
theorem low_ltr {c : Str} : W.low (.ltr c) = .ltr (Txt.lower c) := by rw [W.low]
theorem low_join {ws : List W} : W.low (.join ws) = .join (ws.map W.low) := by rw [W.low, lows_map]
theorem low_times {t : W} {n : Int} : W.low (.times t n) = .times t.low n := by rw [W.low]
theorem low_right {t : W} : W.low (.right t) = .right t.low := by rw [W.low]
theorem low_left {t : W} : W.low (.left t) = .left t.low := by rw [W.low]
theorem wvs_snoc {K : PySem.W.Frag} {H : Hp} {f : W → W} {ws : List W} {acc : List V} {i : Nat} {y : V} {t : W} (e : ws[i]? = some t) (h : WVs K H acc ((ws.take i).map f)) (hy : WV K H y (f t)) : WVs K H (acc ++ [y]) ((ws.take (i + 1)).map f) := by
  rw [List.take_add_one, e]
  show WVs K H (acc ++ [y]) ((ws.take i ++ [t]).map f)
  rw [List.map_append]
  exact WVs.app hy h
theorem cutV_ints (ns : List Int) (lo hi : Option Int) : ∃ ms : List Int, cutV (ns.map V.int) lo hi = ms.map V.int := by
  unfold cutV
  exact ⟨(ns.drop (HT.sIx (ns.map V.int).length 0 lo)).take (HT.sIx (ns.map V.int).length (ns.map V.int).length hi - HT.sIx (ns.map V.int).length 0 lo), by rw [List.map_take, List.map_drop]⟩
/-! ### numbers and lists of them as data -/
def toD : Option Int → PyData
  | none => .none
  | some m => .int m
theorem toD_v {K : PySem.W.Frag} {H : Hp} (o : Option Int) : Dp K H (toV o) (toD o) := by
  cases o with
  | none => exact .non
  | some m => exact .int m
theorem toD_sm (o : Option Int) (n : Nat) : Sm n (toD o) := by
  cases o with
  | none => cases n <;> (unfold toD Sm; trivial)
  | some m => cases n <;> (unfold toD Sm; trivial)
theorem cnt_nonneg {M L : List Str} {t : W} (o : t.Ok M) : ∀ m, t.cnt L = some m → 0 ≤ m := fun m e => (W.cnt_bd t o e).1
theorem ints_sm {ds : List Int} {n : Nat} (h : ds.length ≤ 1000) : Sm (n + 1) (.list (ds.map PyData.int)) := by
  unfold Sm
  refine ⟨by rw [List.length_map]; exact h, fun d q => ?_⟩
  obtain ⟨i, _, rfl⟩ := List.mem_map.mp q
  cases n <;> (unfold Sm; trivial)
theorem ints_dp {K : PySem.W.Frag} {H : Hp} : ∀ ds : List Int, DpAll K H (ds.map V.int) (ds.map PyData.int)
  | [] => .nil
  | d :: r => .cons (.int d) (ints_dp r)
/-! ### a comprehension of one name over any walk of given items -/
theorem lcw {J : It} {n : Nat} {G : Hp → Prop} {xs : List V} (w : Walk J n G (YAt xs)) {j : Nat} {te : TE} {σ : L2.St} {H1 : Hp} {D : Addr} {Qd : Hp → Prop} (Pv : Nat → Hp → Prop) (h0 : Pv 0 (upd H1 D (.lst []))) (hG : ∀ i H, i ≤ n → Pv i H → G H)
    (hs : ∀ i x H, i < n → xs[i]? = some x → Pv i H → te (σ.set j (some x)) H fun y H4 => ∃ acc, H4 D = some (.lst acc) ∧ acc.length < sizeLine ∧ Pv (i + 1) (upd H4 D (.lst (acc ++ [y])))) (hd : ∀ H, Pv n H → Qd H) :
    ∃ W : Nat → Nat → Hp → Prop, (∃ m, W 0 m (upd H1 D (.lst []))) ∧ ∀ i m H, W i m H →
      (J.stop i H ∧ Qd H) ∨ (J.go i H ∧ ∃ Nx : Hp → Prop, (∀ H', Nx H' → ∃ m', m' < m ∧ W (i + 1) m' H') ∧ ∀ x H', J.yld i H x H' → gName j x (wipe σ [j]) H' fun σ2 H2 => wipe σ2 [j] = wipe σ [j] ∧ tYes σ2 H2 fun b H3 =>
        if b = true then te σ2 H3 fun y H4 => ∃ acc, H4 D = some (.lst acc) ∧ acc.length < sizeLine ∧ Nx (upd H4 D (.lst (acc ++ [y]))) else Nx H3) := by
  refine lc_it w Pv h0 hG (fun i x H H' hi p y => ?_) hd
  obtain ⟨rfl, e⟩ := y
  have e1 : wipe σ [j] = σ.set j none := rfl
  have e2 : (wipe σ [j]).set j (some x) = σ.set j (some x) := by rw [e1, List.set_set]
  unfold gName tYes
  rw [e2]
  dsimp only
  rw [if_pos rfl]
  refine ⟨?_, hs i x H' hi e p⟩
  show (σ.set j (some x)).set j none = σ.set j none
  rw [List.set_set]
theorem walk_revT {K : PySem.W.Frag} {a : Addr} {xs : List V} : Walk (RT.ItvT K a xs.length) xs.length (fun H => SqT K H a xs) (YAt xs.reverse) := by
  refine ⟨fun i H hi q => ⟨hi, xs, xs[xs.length - 1 - i], q, by rw [List.getElem?_eq_getElem (by omega)]⟩, fun H q => Nat.le_refl _, fun i H x H' hi q y => ?_⟩
  obtain ⟨e, f⟩ := y
  refine ⟨e, ?_⟩
  rw [List.getElem?_reverse hi]
  exact f xs q
/-! ### a tuple read backwards by a slice -/
section
variable {prog : Program} {w : World} {A : Around} {E : Value → Shared → Prop} {s : Shared}
theorem back_applied {sl : Addr} {vs : Value} {n : Nat} {Q : Int × Int × Nat → Shared → Prop} (hs : s.heap.IsSliceOf sl .none .none vs) (ps : IsPart vs (some (-1))) (h : Q ((n : Int) - 1, -1, n) s) :
    wpAny (model prog w) A (Builtin.Slice.sliceApplied (.ref sl) (pure (n : Int))) Q E s := by
  obtain ⟨ob, ho, hc, hd⟩ := id hs
  unfold Builtin.Slice.sliceApplied Builtin.Slice.sliceFields
  refine wpAny_bind (wpAny_bind (wpAny_field ho hd (x := .none) rfl (wpAny_bind (wpAny_field ho hd (x := .none) rfl (wpAny_bind (wpAny_field ho hd (x := vs) rfl (wpAny_pure ?_)))))))
  refine wpAny_bind (HT.slicePart_ ps ?_)
  show wpAny _ _ (if ((-1 : Int) == 0) = true then _ else _) _ _ s
  rw [if_neg (by decide)]
  refine wpAny_bind (slicePart_none (wpAny_bind (slicePart_none (wpAny_bind (wpAny_pure ?_)))))
  have e : Builtin.Slice.slicePlaces ((n : Int) - 1) (-1) (-1) = n := by
    unfold Builtin.Slice.slicePlaces
    have h1 : ¬ ((-1 : Int) > 0) := by decide
    have h2 : (- -1 : Int) = 1 := by decide
    simp only [h1, if_false, h2, Int.ediv_one]
    split <;> omega
  show wpAny _ _ (pure ((n : Int) - 1, (-1 : Int), Builtin.Slice.slicePlaces ((n : Int) - 1) (-1) (-1))) _ _ s
  rw [e]
  exact wpAny_pure h
theorem fmap_same {α β : Type} {f g : α → Option β} : ∀ {l : List α}, (∀ x ∈ l, f x = g x) → l.filterMap f = l.filterMap g
  | [], _ => rfl
  | x :: r, h => by
    have ih := fmap_same (f := f) (g := g) (l := r) fun y q => h y (List.mem_cons_of_mem _ q)
    rw [List.filterMap_cons, List.filterMap_cons, h x (List.mem_cons_self ..), ih]
theorem back_pick (xs : Array Value) : ((List.range xs.size).filterMap fun (m : Nat) => xs[(((xs.size : Int) - 1) + (m : Int) * -1).toNat]?).toArray = xs.toList.reverse.toArray := by
  have e : (List.range xs.size).filterMap (fun (m : Nat) => xs[(((xs.size : Int) - 1) + (m : Int) * -1).toNat]?) = ((List.range xs.size).map fun k => xs.size - 1 - k).filterMap (xs[·]?) := by
    rw [List.filterMap_map]
    refine fmap_same fun m hm => ?_
    have := List.mem_range.mp hm
    have q : (((xs.size : Int) - 1) + (m : Int) * -1).toNat = xs.size - 1 - m := by omega
    rw [q]
    rfl
  rw [e, PySem.W.krv_range, List.filterMap_reverse, PySem.W.krv_all]
theorem back_tuple {t sl : Addr} {items : Array Value} {vs : Value} {Q : Value → Shared → Prop} (hT : IsTup s.heap t items) (hs : s.heap.IsSliceOf sl .none .none vs) (ps : IsPart vs (some (-1)))
    (h : Q (.ref s.heap.objs.size) { s with heap := s.heap.push { cls := .type "tuple", data := .seq items.toList.reverse.toArray } }) (hz : items.size ≤ sizeLine) : wpAny (model prog w) A (getItem (.ref t) (.ref sl)) Q E s := by
  have hk : sizeOk (.seq items.toList.reverse.toArray) := by
    show items.toList.reverse.toArray.size ≤ sizeLine
    rw [List.size_toArray, List.length_reverse, Array.length_toList]
    exact hz
  obtain ⟨ob, ho, hc, hd⟩ := id hs
  have hS : s.TypeIs (.ref sl) "slice" := ⟨ob, ho, hc⟩
  unfold getItem
  try with_reducible refine wpAny_holding ?_
  first | refine wpAny_bind (wpAny_pure ?_) | skip
  refine wpAny_bind (wpAny_sequenceKey hT.typeIs (by decide) ?_)
  refine wpAny_bind (wpAny_callSpecial?_slot (name := Str.ofString "__getitem__") hT.typeIs PyProof.Rows.slot_tuple_getitem (wpAny_call_entry PyProof.Rows.slot_tuple_getitem hT.typeIs entry_tuple_getitem ?_ (args_tuple_getitem _ _)))
  show wpAny _ _ (Builtin.Tuple.tupleItemsOf (.ref t) >>= _) _ _ s
  refine wpAny_bind (tupleItemsOf_ hT ?_)
  refine wpAny_bind (wpAny_typeOf hS ?_)
  rw [if_pos (by decide)]
  refine wpAny_bind (back_applied hs ps ?_)
  have hno : ¬ ((((items.size : Int) - 1) == 0 && (-1 : Int) == 1 && items.size == items.size) = true) := by
    intro q
    rw [Bool.and_eq_true, Bool.and_eq_true] at q
    exact absurd (eq_of_beq q.1.2) (by decide)
  show wpAny _ _ (if (((items.size : Int) - 1) == 0 && (-1 : Int) == 1 && items.size == items.size) = true then _ else _) _ _ s
  rw [if_neg hno, back_pick]
  first
    | exact wpAny_bind (m := Builtin.Tuple.tupleExact _) (wpAny_newObj_type (wpAny_pure ⟨_, rfl, wpAny_pure h⟩) hk)
    | exact wpAny_bind (m := Builtin.Tuple.tupleExact _) (wpAny_newObj_type (wpAny_bind (wpAny_pure (wpAny_pure ⟨_, rfl, wpAny_pure h⟩))) hk)
    | exact wpAny_bind (wpAny_bind (m := Builtin.Tuple.tupleExact _) (wpAny_newObj_type (wpAny_pure (wpAny_pure ⟨_, rfl, wpAny_pure h⟩)) hk))
    | exact wpAny_bind (wpAny_bind (m := Builtin.Tuple.tupleExact _) (wpAny_newObj_type (wpAny_pure ⟨_, rfl, wpAny_pure h⟩) hk))
end
def tRevT (K : PySem.W.Frag) (te : TE) : TE := fun σ H Q => te σ H fun x H1 => ∃ a xs, x = .ref a ∧ SqT K H1 a xs ∧ ∀ p, H1 p = none → Q (.ref p) (upd H1 p (.tup xs.reverse))
theorem pe_revT {X : Cx} {e : Expr} {te : TE} {k : Nat} {p1 p2 p3 pos : Pos} (he : PE X e te) : PE X (.Subscript e (.Slice none none (some (.UnaryOp .USub (.Constant (.int 1) k p1) p2)) p3) pos) (tRevT X.K te) := by
  refine ⟨fun pins s σ H Q I h => ?_⟩
  refine Subscript_ (thn (he.run pins s σ H _ I h) fun v s1 ⟨x, H1, I1, r1, q1⟩ => ?_)
  obtain ⟨a, xs, rfl, hx, q⟩ := q1
  cases r1
  have hst : PO X (some (.UnaryOp .USub (.Constant (.int 1) k p1) p2)) (tPart (tUn (rU fun i => .int (-i)) (tC (.int 1)))) := po_some (pe_un un_neg pe_int)
  refine wpAny_Slice (thn (po_none.run pins s1 σ H1 (fun o H2 => o = none ∧ H2 = H1) I1 ⟨rfl, rfl⟩) fun vl s2 ⟨l, H2, I2, pl, el, e2⟩ => ?_)
  subst el e2
  refine thn (po_none.run pins s2 σ H2 (fun o H3 => o = none ∧ H3 = H2) I2 ⟨rfl, rfl⟩) fun vu s3 ⟨u, H3, I3, pu, eu, e3⟩ => ?_
  subst eu e3
  refine thn (hst.run pins s3 σ H3 (fun o H4 => o = some (-1) ∧ H4 = H3) I3 ⟨1, rfl, -1, rfl, rfl, rfl⟩) fun vs s4 ⟨o, H4, I4, ps, eo, e4⟩ => ?_
  subst eo e4
  cases pl
  cases pu
  have I5 : Inv X pins σ H4 { s4 with heap := s4.heap.push { cls := .type "slice", data := .fields #[.none, .none, vs] } } := I4.kept (t' := s4.toks) fun b ob q => Heap.get?_push_of_some _ q
  obtain ⟨its, r, hT, hz⟩ := I5.tuple hx
  have hl := r.length
  refine tail_any (ops := [.ref a, .ref s4.heap.objs.size]) hT.typeIs PyProof.Rows.slot_tuple_getitem.lookup ?_ (by with_unfolding_all rfl)
  refine back_tuple hT (Heap.IsSliceOf.new _ .none .none vs) ps ?_ (by rw [List.size_toArray]; omega)
  refine ⟨.ref _, _, I5.laid (t' := s4.toks) (o := .tup xs.reverse) (fun b ob q => Heap.get?_push_of_some _ q) (Nat.le_refl _) ?_, rfl, q _ (I5.hok.fresh (Nat.le_refl _))⟩
  refine ⟨by rw [List.length_reverse]; exact hz, its.reverse, r.reverse, ?_⟩
  have e : its.toArray.toList.reverse = its.reverse := by simp
  rw [e]
  exact IsTup.new _ _
theorem WVs.rev {K : PySem.W.Frag} {H : Hp} : ∀ {ws : List W} {xs : List V}, WVs K H xs ws → WVs K H xs.reverse ws.reverse
  | [], xs, h => by
    unfold WVs W.dats at h
    cases h
    exact wvs_nil
  | w :: r, xs, h => by
    unfold WVs W.dats at h
    cases h with | cons a b => ?_
    rw [List.reverse_cons, List.reverse_cons]
    exact WVs.app a (WVs.rev (ws := r) b)
/-! ### words turned round -/
mutual
def W.mir : W → W
  | .emp => .emp
  | .ltr c => .ltr c
  | .nam c => .nam c
  | .join ws => .join (W.mirs ws).reverse
  | .times w n => .times w.mir n
  | .right w => .left w.mir
  | .left w => .right w.mir
def W.mirs : List W → List W
  | [] => []
  | w :: r => w.mir :: W.mirs r
end
theorem mirs_map : ∀ ws : List W, W.mirs ws = ws.map W.mir
  | [] => by rw [W.mirs]; rfl
  | w :: r => by rw [W.mirs, mirs_map r]; rfl
theorem mir_emp : W.mir .emp = .emp := by rw [W.mir]
theorem mir_ltr {c : Str} : W.mir (.ltr c) = .ltr c := by rw [W.mir]
theorem mir_join {ws : List W} : W.mir (.join ws) = .join (ws.reverse.map W.mir) := by rw [W.mir, mirs_map, List.map_reverse]
theorem mir_times {t : W} {n : Int} : W.mir (.times t n) = .times t.mir n := by rw [W.mir]
theorem mir_right {t : W} : W.mir (.right t) = .left t.mir := by rw [W.mir]
theorem mir_left {t : W} : W.mir (.left t) = .right t.mir := by rw [W.mir]
mutual
theorem W.mir_mir : ∀ w : W, w.mir.mir = w
  | .emp => by rw [mir_emp, mir_emp]
  | .ltr c => by rw [mir_ltr, mir_ltr]
  | .nam c => by rw [W.mir, W.mir]
  | .join ws => by
    rw [mir_join, mir_join, ← List.map_reverse, List.reverse_reverse, List.map_map]
    have := W.mirs_mirs ws
    rw [mirs_map, mirs_map, List.map_map] at this
    rw [this]
  | .times w n => by rw [mir_times, mir_times, W.mir_mir w]
  | .right w => by rw [mir_right, mir_left, W.mir_mir w]
  | .left w => by rw [mir_left, mir_right, W.mir_mir w]
theorem W.mirs_mirs : ∀ ws : List W, W.mirs (W.mirs ws) = ws
  | [] => by rw [W.mirs, W.mirs]
  | w :: r => by rw [W.mirs, W.mirs, W.mir_mir w, W.mirs_mirs r]
end
mutual
theorem W.mir_ok {L : List Str} : ∀ w : W, w.Ok L → w.mir.Ok L
  | .emp, h => by rw [mir_emp]; exact h
  | .ltr c, h => by rw [mir_ltr]; exact h
  | .nam c, h => by unfold W.Ok at h; exact h.elim
  | .join ws, h => by
    rw [W.mir]
    unfold W.Ok at h ⊢
    refine ⟨by rw [List.length_reverse, mirs_map, List.length_map]; exact h.1, W.oks_of fun t q => ?_⟩
    exact W.oks_mem (List.mem_reverse.mp q) (W.mirs_ok ws h.2)
  | .times w n, h => by rw [mir_times]; unfold W.Ok at h ⊢; exact ⟨h.1, h.2.1, W.mir_ok w h.2.2⟩
  | .right w, h => by rw [mir_right]; unfold W.Ok at h ⊢; exact W.mir_ok w h
  | .left w, h => by rw [mir_left]; unfold W.Ok at h ⊢; exact W.mir_ok w h
theorem W.mirs_ok {L : List Str} : ∀ ws : List W, W.Oks L ws → W.Oks L (W.mirs ws)
  | [], h => by rw [W.mirs]; exact h
  | w :: r, h => by rw [W.mirs]; unfold W.Oks at h ⊢; exact ⟨W.mir_ok w h.1, W.mirs_ok r h.2⟩
end
theorem deps_rev {ws : List W} : W.deps ws.reverse = W.deps ws := by
  refine Nat.le_antisymm (W.deps_le fun w h => W.deps_mem (List.mem_reverse.mp h)) (W.deps_le fun w h => W.deps_mem (List.mem_reverse.mpr h))
mutual
theorem W.mir_dep : ∀ w : W, w.mir.dep = w.dep
  | .emp => by rw [mir_emp]
  | .ltr c => by rw [mir_ltr]
  | .nam c => by rw [W.mir]
  | .join ws => by rw [W.mir, W.dep, W.dep, deps_rev, W.mirs_dep ws]
  | .times w n => by rw [mir_times, W.dep, W.dep, W.mir_dep w]
  | .right w => by rw [mir_right, W.dep, W.dep, W.mir_dep w]
  | .left w => by rw [mir_left, W.dep, W.dep, W.mir_dep w]
theorem W.mirs_dep : ∀ ws : List W, W.deps (W.mirs ws) = W.deps ws
  | [] => by rw [W.mirs]
  | w :: r => by rw [W.mirs, W.deps, W.deps, W.mir_dep w, W.mirs_dep r]
end
theorem cnts_rev {L : List Str} {ws : List W} : W.cnts L ws.reverse = W.cnts L ws := by
  by_cases h : none ∈ ws.map (W.cnt L)
  · rw [W.cnts_none h, W.cnts_none (by rw [List.map_reverse]; exact List.mem_reverse.mpr h)]
  · rw [W.cnts_some h, W.cnts_some (by rw [List.map_reverse]; exact fun q => h (List.mem_reverse.mp q)), List.map_reverse, List.sum_reverse]
mutual
theorem W.mir_cnt {L : List Str} : ∀ w : W, w.mir.cnt L = w.cnt L
  | .emp => by rw [mir_emp]
  | .ltr c => by rw [mir_ltr]
  | .nam c => by rw [W.mir]
  | .join ws => by rw [W.mir, cnt_join, cnt_join, cnts_rev, W.mirs_cnt ws]
  | .times w n => by rw [mir_times, cnt_times, cnt_times, W.mir_cnt w]
  | .right w => by rw [mir_right, cnt_right, cnt_left, W.mir_cnt w]
  | .left w => by rw [mir_left, cnt_left, cnt_right, W.mir_cnt w]
theorem W.mirs_cnt {L : List Str} : ∀ ws : List W, W.cnts L (W.mirs ws) = W.cnts L ws
  | [] => by rw [W.mirs]
  | w :: r => by rw [W.mirs, W.cnts, W.cnts, W.mir_cnt w, W.mirs_cnt r]
end
end SW

set_option Elab.async false
set_option linter.all false
set_option maxRecDepth 100000
set_option maxHeartbeats 4000000
namespace SW
open PySem PySem.Spec PyProof.Rows L2
/-! ### nodes and levels -/
mutual
def W.nod : W → Nat
  | .emp => 1
  | .ltr _ => 1
  | .nam _ => 1
  | .join ws => W.nods ws + 1
  | .times w _ => w.nod + 1
  | .right w => w.nod + 1
  | .left w => w.nod + 1
def W.nods : List W → Nat
  | [] => 0
  | w :: r => w.nod + W.nods r
end
theorem nods_map : ∀ ws : List W, W.nods ws = (ws.map W.nod).sum
  | [] => by rw [W.nods]; rfl
  | w :: r => by rw [W.nods, nods_map r, List.map_cons, List.sum_cons]
theorem nods_app (a b : List W) : W.nods (a ++ b) = W.nods a + W.nods b := by
  rw [nods_map, nods_map, nods_map, List.map_append, List.sum_append]
theorem nod_parts (w : W) : w.nod = W.nods w.parts + 1 := by
  cases w <;> simp [W.nod, W.parts, W.nods]
theorem dep_parts (w : W) : w.dep = W.deps w.parts + 1 := by
  cases w <;> simp [W.dep, W.parts, W.deps]
def nxt (ws : List W) : List W := ws.flatMap W.parts
theorem nxt_nil : nxt [] = [] := rfl
theorem nxt_cons (w : W) (r : List W) : nxt (w :: r) = w.parts ++ nxt r := rfl
theorem nods_nxt : ∀ ws : List W, W.nods ws = ws.length + W.nods (nxt ws)
  | [] => by rw [W.nods, nxt_nil, W.nods]; rfl
  | w :: r => by
    rw [W.nods, nods_nxt r, nxt_cons, nods_app, nod_parts w, List.length_cons]
    omega
theorem deps_app (a b : List W) : W.deps (a ++ b) = max (W.deps a) (W.deps b) := by
  induction a with
  | nil => rw [List.nil_append, W.deps, Nat.zero_max]
  | cons x r ih => rw [List.cons_append, W.deps, W.deps, ih, Nat.max_assoc]
theorem deps_nxt : ∀ (w : W) (r : List W), W.deps (w :: r) = W.deps (nxt (w :: r)) + 1
  | w, [] => by
    rw [W.deps, W.deps, nxt_cons, nxt_nil, List.append_nil, Nat.max_zero, dep_parts w]
  | w, x :: r => by
    have ih := deps_nxt x r
    have e : nxt (w :: x :: r) = w.parts ++ nxt (x :: r) := rfl
    rw [W.deps, e, deps_app, dep_parts w, ih]
    omega
theorem deps_zero {ws : List W} (h : W.deps ws = 0) : ws = [] := by
  cases ws with
  | nil => rfl
  | cons w r =>
    rw [W.deps] at h
    have := w.dep_pos
    omega
theorem nods_len (ws : List W) : ws.length ≤ W.nods ws := by
  rw [nods_nxt]
  exact Nat.le_add_right _ _
mutual
theorem nod_bd {L : List Str} : ∀ w : W, w.Ok L → w.nod ≤ 4 ^ w.dep
  | .emp, _ => by rw [W.nod, W.dep]; decide
  | .ltr c, _ => by rw [W.nod, W.dep]; decide
  | .nam c, h => by rw [W.nod, W.dep]; decide
  | .join ws, h => by
    unfold W.Ok at h
    have a := nods_bd ws h.2
    rw [W.nod, W.dep, Nat.pow_succ]
    have b : ws.length * 4 ^ W.deps ws ≤ 3 * 4 ^ W.deps ws := Nat.mul_le_mul_right _ h.1
    have c : 0 < 4 ^ W.deps ws := Nat.pow_pos (by decide)
    omega
  | .times w n, h => by
    unfold W.Ok at h
    have a := nod_bd w h.2.2
    rw [W.nod, W.dep, Nat.pow_succ]
    have c : 0 < 4 ^ w.dep := Nat.pow_pos (by decide)
    omega
  | .right w, h => by
    unfold W.Ok at h
    have a := nod_bd w h
    rw [W.nod, W.dep, Nat.pow_succ]
    have c : 0 < 4 ^ w.dep := Nat.pow_pos (by decide)
    omega
  | .left w, h => by
    unfold W.Ok at h
    have a := nod_bd w h
    rw [W.nod, W.dep, Nat.pow_succ]
    have c : 0 < 4 ^ w.dep := Nat.pow_pos (by decide)
    omega
theorem nods_bd {L : List Str} : ∀ ws : List W, W.Oks L ws → W.nods ws ≤ ws.length * 4 ^ W.deps ws
  | [], _ => by rw [W.nods]; exact Nat.zero_le _
  | w :: r, h => by
    unfold W.Oks at h
    have a := nod_bd w h.1
    have b := nods_bd r h.2
    rw [W.nods, W.deps, List.length_cons, Nat.add_mul, Nat.one_mul]
    have p1 : 4 ^ w.dep ≤ 4 ^ max w.dep (W.deps r) := Nat.pow_le_pow_right (by decide) (Nat.le_max_left _ _)
    have p2 : 4 ^ W.deps r ≤ 4 ^ max w.dep (W.deps r) := Nat.pow_le_pow_right (by decide) (Nat.le_max_right _ _)
    have p3 : r.length * 4 ^ W.deps r ≤ r.length * 4 ^ max w.dep (W.deps r) := Nat.mul_le_mul_left _ p2
    omega
end
theorem nod_small {L : List Str} {w : W} (h : w.Ok L) (hd : w.dep ≤ 8) : w.nod ≤ 65536 := Nat.le_trans (nod_bd w h) (show 4 ^ w.dep ≤ 4 ^ 8 from Nat.pow_le_pow_right (by decide) hd)
theorem nxt_ok {L : List Str} {ws : List W} (h : ∀ w ∈ ws, w.Ok L) : ∀ w ∈ nxt ws, w.Ok L := fun w q => by
  obtain ⟨x, hx, hw⟩ := List.mem_flatMap.mp q
  exact (W.parts_mem (h x hx) hw).1
theorem nxt_snoc {ws : List W} {i : Nat} {w : W} (e : ws[i]? = some w) : nxt (ws.take (i + 1)) = nxt (ws.take i) ++ w.parts := by
  rw [List.take_add_one, e]
  unfold nxt
  rw [List.flatMap_append]
  simp
theorem nxt_take_len (ws : List W) (i : Nat) : (nxt (ws.take i)).length ≤ (nxt ws).length := by
  have : nxt ws = nxt (ws.take i) ++ nxt (ws.drop i) := by
    unfold nxt
    rw [← List.flatMap_append, List.take_append_drop]
  rw [this, List.length_append]
  exact Nat.le_add_right _ _
theorem WVs.cat {K : PySem.W.Frag} {H : Hp} {ys : List V} {us : List W} (q : WVs K H ys us) : ∀ {ws : List W} {xs : List V}, WVs K H xs ws → WVs K H (xs ++ ys) (ws ++ us)
  | [], xs, h => by
    unfold WVs W.dats at h
    cases h
    exact q
  | v :: r, xs, h => by
    unfold WVs W.dats at h
    cases h with | cons a b => ?_
    exact wvs_cons a (WVs.cat q (ws := r) b)
end SW

set_option Elab.async false
set_option linter.all false
set_option maxRecDepth 100000
set_option maxHeartbeats 4000000
namespace SW
open PySem PySem.Spec PyProof.Rows L2
/-! ### defs of any number of arguments -/
structure DfS (K : PySem.W.Frag) (mg : Str → Option Value) (x : Str) (st : Stmt) : Prop where
  ex : ∃ f fd, Fun K x x st f fd ∧ mg x = some (.ref f)
structure CalR (P : Program) (w : World) (K : PySem.W.Frag) (mg : Str → Option Value) (base : Heap) (k : Nat) (x : Str) (sp : Sp) : Prop where
  ex : ∃ f, FnR P w K mg base CX0 k f sp ∧ mg x = some (.ref f) ∧ PySem.W.keepIn K (.ref f) = true
theorem dfs_mk {K : PySem.W.Frag} {mg : Str → Option Value} {h : Heap} {x : Str} {st : Stmt} {f : Addr} {od an : Option Addr} {sl : Array (Option Value)} {oc kV dc pm cd ct : Value} (X : K.In h) (G : h.Ns mainGlobals mg)
    (a : PySem.W.nsIn K mainGlobals x = some (some (.ref f))) (l : K.lookup f = some ⟨oc, od, .func (PySem.W.fnOf x x (defArgs st) (defBody st) (defScope st) .none kV dc pm an cd ct), sl⟩) (c : PySem.W.codeIn K cd x = true) (k : PySem.W.keepIn K (.ref f) = true) : DfS K mg x st :=
  ⟨f, _, fun_mk (st := st) l c k, PySem.W.mg_of X G a⟩
theorem DfS.ok {P : Program} {w : World} {K : PySem.W.Frag} {mg : Str → Option Value} {base : Heap} {x pv : Str} {st : Stmt} {N : List Str} {k : Nat} {sp : Sp} (D : DfS K mg x st) (S : FnScope N [pv] (defScope st))
    (hb : ∀ (kV doc pm : Value) (an : Option Addr) (cdv ct : Value) (rest : List Value), bindArgs (PySem.W.fnOf x x (defArgs st) (defBody st) (defScope st) .none kV doc pm an cdv ct) ⟨rest, []⟩ = (newTuple rest >>= fun t => pure [(pv, t)]))
    (hbody : ∀ (f : Addr) (cdv : Value) (A : Around) (outer : List Env) (s : Shared) (H : Hp) (vs : List V) (Q : VK) (E : XK), Room k (A.deeper (envOfC x (defScope st) s.heap.objs.size f cdv)) → sp vs H Q E →
      ∃ t, PSs (cxOf CX0 P w K mg base N x (defScope st) f cdv A outer s H E).nox (defBody st) t ∧ t { nx := fun _ H' => Q .non H', rt := Q } (start N vs) H) :
    CalR P w K mg base (k + 1) x (fun vs H Q E => vs.length ≤ sizeLine ∧ ∀ p, H p = none → sp [.ref p] (upd H p (.tup vs)) Q E) := by
  obtain ⟨f, fd, F, m⟩ := D.ex
  obtain ⟨oc, od, kV, doc, pm, an, cdv, ct, osl, rfl, lk, hcd⟩ := F.ex
  refine ⟨f, FnR.imp (StX.fn_star (ps := []) (pv := pv) (k := k) (sp := sp) lk hcd S StX.cxUp_none (fun us rest hl => ?_) (fun A outer s H vs Q E hr h => ?_)) (fun vs H Q E h => ⟨[], vs, rfl, rfl, h.1, h.2⟩), m, F.kp⟩
  · have e : us = [] := List.eq_nil_of_length_eq_zero hl
    subst e
    exact hb kV doc pm an cdv ct rest
  · obtain ⟨t, ht, hq⟩ := hbody f cdv A outer s H vs Q E hr h
    exact ⟨t, ht.nox, hq⟩
section
variable {X : Cx} {k j : Nat} {x : Str} {sp : Sp} {p pos : Pos} {e : Expr} {es : List Expr} {t : TA}
theorem pe_ownR (c : CalR X.prog X.w X.K X.mg X.base k x sp) (hr : Room j X.A) (hk : k ≤ j) (hg : Gl X x) (ha : PA X (e :: es) t) (hdb : (x == ("__debug__" : Str)) = false := by decide)
    (he : starEach (e :: es) X.env = (false, eval e X.env) :: starEach es X.env := by rfl) (hpl : (backTo pos (starEach es X.env)).any (·.1) = false := by rfl) :
    PE X (.Call (.Name x p) (e :: es) [] pos) (fun σ H Q => t σ H fun vs H1 => sp vs H1 Q E0) := by
  obtain ⟨f, F, hm, hK⟩ := c.ex
  refine ⟨fun pins s σ H Q I h => ?_⟩
  refine wpAny_Call_Name_kw (ld_glob I hg hm ?_ hdb)
  refine PySem.W.callWith_K (h₀ := X.base) I.ok.mod.kin hK (thn (ha.run pos pins s σ H _ I h) fun us s1 ⟨vs, H1, I1, r, q⟩ => ⟨I1.kIn, ?_⟩) he hpl
  exact wpAny_call (run_fnR (FnR.mono F hk) hr pass0 I1 r q)
theorem pe_ownR0 (c : CalR X.prog X.w X.K X.mg X.base k x sp) (hr : Room j X.A) (hk : k ≤ j) (hg : Gl X x) (hdb : (x == ("__debug__" : Str)) = false := by decide) :
    PE X (.Call (.Name x p) [] [] pos) (fun _ H Q => sp [] H Q E0) := by
  obtain ⟨f, F, hm, hK⟩ := c.ex
  refine ⟨fun pins s σ H Q I h => ?_⟩
  refine wpAny_Call_Name_kw (ld_glob I hg hm ?_ hdb)
  exact PySem.W.callWith_K0 I.kIn hK (wpAny_call (run_fnR (FnR.mono F hk) hr pass0 I .nil h))
end
/-! ### a comprehension with a test -/
theorem lcwT {J : It} {n : Nat} {G : Hp → Prop} {xs : List V} (w : Walk J n G (YAt xs)) {j : Nat} {tt : TT} {te : TE} {σ : L2.St} {H1 : Hp} {D : Addr} {Qd : Hp → Prop} (Pv : Nat → Hp → Prop) (h0 : Pv 0 (upd H1 D (.lst []))) (hG : ∀ i H, i ≤ n → Pv i H → G H)
    (hs : ∀ i x H, i < n → xs[i]? = some x → Pv i H → tt (σ.set j (some x)) H fun b H3 => if b = true then te (σ.set j (some x)) H3 fun y H4 => ∃ acc, H4 D = some (.lst acc) ∧ acc.length < sizeLine ∧ Pv (i + 1) (upd H4 D (.lst (acc ++ [y]))) else Pv (i + 1) H3) (hd : ∀ H, Pv n H → Qd H) :
    ∃ W : Nat → Nat → Hp → Prop, (∃ m, W 0 m (upd H1 D (.lst []))) ∧ ∀ i m H, W i m H →
      (J.stop i H ∧ Qd H) ∨ (J.go i H ∧ ∃ Nx : Hp → Prop, (∀ H', Nx H' → ∃ m', m' < m ∧ W (i + 1) m' H') ∧ ∀ x H', J.yld i H x H' → gName j x (wipe σ [j]) H' fun σ2 H2 => wipe σ2 [j] = wipe σ [j] ∧ tt σ2 H2 fun b H3 =>
        if b = true then te σ2 H3 fun y H4 => ∃ acc, H4 D = some (.lst acc) ∧ acc.length < sizeLine ∧ Nx (upd H4 D (.lst (acc ++ [y]))) else Nx H3) := by
  refine lc_it w Pv h0 hG (fun i x H H' hi p y => ?_) hd
  obtain ⟨rfl, e⟩ := y
  have e1 : wipe σ [j] = σ.set j none := rfl
  have e2 : (wipe σ [j]).set j (some x) = σ.set j (some x) := by rw [e1, List.set_set]
  unfold gName
  rw [e2]
  refine ⟨?_, hs i x H' hi e p⟩
  show (σ.set j (some x)).set j none = σ.set j none
  rw [List.set_set]
/-! ### words joined -/
def W.isE : W → Bool
  | .emp => true
  | _ => false
theorem eqv_emp (t : W) : PyData.eqv t.dat (W.dat .emp) = t.isE := by
  cases t <;> simp [W.dat, W.isE, PyData.eqv, PyData.eqvAll]
theorem emp_shaped : SeqAt.shaped (W.dat .emp) = true := W.shaped (L := abcABC) abc_ok (by unfold W.Ok; trivial) (by decide +kernel)
def W.kept (ws : List W) : List W := ws.filter fun t => !t.isE
theorem kept_snoc {ws : List W} {i : Nat} {t : W} (e : ws[i]? = some t) : W.kept (ws.take (i + 1)) = if (!t.isE) = true then W.kept (ws.take i) ++ [t] else W.kept (ws.take i) := by
  rw [List.take_add_one, e]
  unfold W.kept
  rw [List.filter_append]
  show _ ++ List.filter _ [t] = _
  rw [List.filter_cons]
  split <;> simp
theorem kept_len (ws : List W) : (W.kept ws).length ≤ ws.length := List.length_filter_le _ _
theorem kept_mem {ws : List W} {t : W} (h : t ∈ W.kept ws) : t ∈ ws := (List.mem_filter.mp h).1
def joinW : List W → W
  | [] => .emp
  | [t] => t
  | ws => .join ws
theorem joinW_many {ws : List W} (h : 1 < ws.length) : joinW ws = .join ws := by
  match ws, h with
  | _ :: _ :: _, _ => rfl
theorem joinW_sm {L : List Str} {ws : List W} {n : Nat} (h : ∀ t ∈ ws, t.Ok L ∧ 2 * t.dep ≤ n) (hl : ws.length ≤ 1000) : Sm (n + 2) (joinW ws).dat := by
  match ws, h, hl with
  | [], _, _ =>
    show Sm (n + 1 + 1) (W.dat .emp)
    unfold W.dat Sm
    refine ⟨by decide, fun d q => ?_⟩
    cases List.mem_singleton.mp q
    unfold Sm
    trivial
  | [t], h, _ => exact (W.sm t (h t (List.mem_singleton.mpr rfl)).1).mono (by have := (h t (List.mem_singleton.mpr rfl)).2; omega)
  | a :: b :: r, h, hl =>
    show Sm (n + 1 + 1) (W.dat (.join (a :: b :: r)))
    unfold W.dat Sm
    refine ⟨by show 2 ≤ 1000; decide, fun d q => ?_⟩
    simp only [List.mem_cons, List.not_mem_nil, or_false] at q
    rcases q with rfl | rfl
    · unfold Sm
      trivial
    · unfold Sm
      rw [W.dats_map]
      refine ⟨by rw [List.length_map]; exact hl, fun d q => ?_⟩
      obtain ⟨t, ht, rfl⟩ := List.mem_map.mp q
      exact (W.sm t (h t ht).1).mono (h t ht).2
theorem cut_to (xs : List V) (i : Nat) : cutV xs none (some (i : Int)) = xs.take i := by
  unfold cutV
  rw [HT.sIx_none, HT.sIx_nat]
  show (xs.drop 0).take (min i xs.length - 0) = xs.take i
  rw [List.drop_zero, Nat.sub_zero]
  rcases Nat.le_total i xs.length with h | h
  · rw [Nat.min_eq_left h]
  · rw [Nat.min_eq_right h, List.take_length, List.take_of_length_le h]
theorem WVs.take {K : PySem.W.Frag} {H : Hp} : ∀ (i : Nat) {ws : List W} {xs : List V}, WVs K H xs ws → WVs K H (xs.take i) (ws.take i)
  | 0, ws, xs, _ => by
    rw [List.take_zero, List.take_zero]
    exact wvs_nil
  | i + 1, [], xs, h => by
    unfold WVs W.dats at h
    cases h
    exact wvs_nil
  | i + 1, v :: r, xs, h => by
    unfold WVs W.dats at h
    cases h with | cons a b => ?_
    exact wvs_cons a (WVs.take i (ws := r) b)
end SW

set_option Elab.async false
set_option linter.all false
set_option maxRecDepth 100000
set_option maxHeartbeats 4000000
namespace SW
open PySem PySem.Spec PyProof.Rows L2
section
variable {P : Program} {w : World} {K : PySem.W.Frag} {mg : Str → Option Value} {h : Heap}
theorem df_mk {x : Str} {st : Stmt} {ps : List Str} {f : Addr} {od an : Option Addr} {sl : Array (Option Value)} {oc kV dc pm cd ct : Value} (X : K.In h) (G : h.Ns mainGlobals mg)
    (a : PySem.W.nsIn K mainGlobals x = some (some (.ref f))) (l : K.lookup f = some ⟨oc, od, .func (PySem.W.fnOf x x (defArgs st) (defBody st) (defScope st) .none kV dc pm an cd ct), sl⟩) (c : PySem.W.codeIn K cd x = true) (k : PySem.W.keepIn K (.ref f) = true)
    (hb : ∀ (kV doc pm : Value) (an : Option Addr) (cdv ct : Value) (us : List Value), us.length = ps.length → bindArgs (PySem.W.fnOf x x (defArgs st) (defBody st) (defScope st) .none kV doc pm an cdv ct) ⟨us, []⟩ = pure (ps.zip us)) : Df K mg x st ps := by
  have F := fun_mk (st := st) l c k
  exact ⟨f, _, F, PySem.W.mg_of X G a, F.binds (ps := ps) hb⟩
theorem law_end {st : Stmt} {fa : Addr} {k : Nat} {sp : Sp} (D : Df K mg "law" st ["_law_script"]) (hmg : mg "law" = some (.ref fa))
    (hb : ∀ (kV doc pm : Value) (an : Option Addr) (cdv ct : Value) (v : Value), bindArgs (PySem.W.fnOf "law" "law" (defArgs st) (defBody st) (defScope st) .none kV doc pm an cdv ct) ⟨[v], []⟩ = pure [(("_law_script" : Str), v)])
    (c : ∀ base : Heap, K.In base → base.Ns mainGlobals mg → Cal P w K mg base k "law" ["_law_script"] sp) :
    ∃ fd : FuncData, (∀ (s : Shared) (v : Value), BindsTo s fd ⟨[v], []⟩ [("_law_script", v)]) ∧ ∀ base : Heap, K.In base → base.Ns mainGlobals mg → FnOk P w K mg base CX0 k fa fd ["_law_script"] sp := by
  obtain ⟨f, fd, F, m, b⟩ := D.ex
  have e : f = fa := by
    rw [hmg] at m
    cases m
    rfl
  subst e
  obtain ⟨oc, od, kV, doc, pm, an, cdv, ct, osl, rfl, lk, _⟩ := F.ex
  refine ⟨_, fun s v => .of_eq (hb kV doc pm an cdv ct v), fun base h1 h2 => ?_⟩
  obtain ⟨f', fd', F', m', _, _, oc', od', osl', lk'⟩ := (c base h1 h2).ex
  have e : f' = f := by
    rw [m] at m'
    cases m'
    rfl
  subst e
  rw [lk] at lk'
  cases lk'
  exact F'
theorem sqt_mk {a : Addr} {o : Obj} {its : Array Value} {n : Nat} {xs : List V} (l : K.lookup a = some o) (hc : o.cls = .type "tuple") (hd : o.data = .seq its n) (hs : its.size ≤ sizeLine) (r : Vals xs its.toList) : ∀ H, SqT K H a xs :=
  fun _ => .inr ⟨o, its, n, l, hc, hd, hs, r⟩
end
theorem relstr {z y : Str} {tk : Tok} (h : z = y) : L2.RelV (.str z) (.str y tk) := ⟨tk, by rw [h]⟩
/-- what a law's def promises -/
def spLaw (K : PySem.W.Frag) : Sp := fun vs H Q _ => ∃ (a : Addr) (ns : List Int), vs = [.ref a] ∧ SqL K H a (ns.map V.int) ∧ ∀ H', Q (.bl true) H'
theorem walk {l : PySem.W.OpenLaw} {q : Program} {loose : List Str} {XP : (Str → Option Value) → Heap → Prop} {YP : World → Heap → Prop} {d : DefRec} {K : Params → PySem.W.Frag} {k : Nat} (hr : Room k callerA) (hn : l.most = some 63) (hdf : d.params.defaults = [])
    (hY : ∀ (w : World) (h : Heap), YP w h → (K w.params).In h)
    (F : ∀ (w : World) (mg : Str → Option Value) (fa : Addr) (h : Heap), (K w.params).In h → h.Ns mainGlobals mg → mg d.name = some (.ref fa) →
      ∃ fd : FuncData, (∀ (s : Shared) (u : Value), BindsTo s fd ⟨[u], []⟩ [("_law_script", u)]) ∧ ∀ base : Heap, (K w.params).In base → base.Ns mainGlobals mg → FnOk l.prog w (K w.params) mg base CX0 k fa fd ["_law_script"] (spLaw (K w.params))) :
    PySem.W.WalkO q loose XP YP l.row.toRowW d [] (fun f vs => PySem.call f vs) :=
  L2.walk_of (n := 63) (k := k) (x := "_law_script") (CX := fun _ => CX0) (sp := fun w => spLaw (K w.params)) hn (by decide) hdf hr hY F (fun _ _ a ns hl _ hS => ⟨a, ns, rfl, hS, fun _ => rfl⟩) fun _ _ _ _ _ z => z
end SW

set_option Elab.async false
set_option linter.all false
set_option maxRecDepth 100000
set_option maxHeartbeats 4000000
namespace SW
open PySem PySem.Spec PyProof.Rows L2
/-! ### addresses -/
abbrev big : Int := 1000000000000000000000000000000
/-- the word that a number leads to -/
def W.stp : W → Int → Option W
  | .join ws, i => if 0 ≤ i ∧ i < ws.length then ws[i.toNat]? else none
  | .times w n, i => if 0 ≤ i ∧ i < n then some w else none
  | .right w, i => if 0 ≤ i ∧ i ≤ big then some w else none
  | .left w, i => if 0 ≤ i ∧ i ≤ big then some w else none
  | _, _ => none
theorem stpJ {ws : List W} {i : Int} : (W.join ws).stp i = if 0 ≤ i ∧ i < ws.length then ws[i.toNat]? else none := rfl
theorem stpT {w : W} {n i : Int} : (W.times w n).stp i = if 0 ≤ i ∧ i < n then some w else none := rfl
theorem stpR {w : W} {i : Int} : (W.right w).stp i = if 0 ≤ i ∧ i ≤ big then some w else none := rfl
theorem stpL {w : W} {i : Int} : (W.left w).stp i = if 0 ≤ i ∧ i ≤ big then some w else none := rfl
def W.go : W → List Int → Option W
  | t, [] => some t
  | t, i :: r => match t.stp i with
    | some u => u.go r
    | none => none
def W.isL : W → Bool
  | .ltr _ => true
  | _ => false
/-- ns is the address of a place in t -/
def Vd (t : W) (ns : List Int) : Prop := ∃ c, t.go ns = some (.ltr c)
theorem go_nil (t : W) : t.go [] = some t := by rw [W.go]
theorem go_cons {t u : W} {i : Int} {r : List Int} (h : t.stp i = some u) : t.go (i :: r) = u.go r := by rw [W.go, h]
theorem go_none {t : W} {i : Int} {r : List Int} (h : t.stp i = none) : t.go (i :: r) = none := by rw [W.go, h]
theorem go_app : ∀ (p q : List Int) (t : W), t.go (p ++ q) = match t.go p with
    | some u => u.go q
    | none => none
  | [], q, t => by rw [go_nil]; rfl
  | i :: p, q, t => by
    cases h : t.stp i with
    | none => rw [List.cons_append, go_none h, go_none h]
    | some u => rw [List.cons_append, go_cons h, go_cons h, go_app p q u]
theorem go_app_some {p q : List Int} {t u : W} (h : t.go p = some u) : t.go (p ++ q) = u.go q := by rw [go_app, h]
theorem stp_ok {L : List Str} {t u : W} {i : Int} (o : t.Ok L) (h : t.stp i = some u) : u.Ok L ∧ u.dep + 1 ≤ t.dep := by
  refine W.parts_mem o ?_
  cases t with
  | join ws =>
    rw [stpJ] at h
    split at h
    · exact List.mem_of_getElem? h
    · cases h
  | times w n =>
    rw [stpT] at h
    split at h
    · cases h
      exact List.mem_singleton.mpr rfl
    · cases h
  | right w =>
    rw [stpR] at h
    split at h
    · cases h
      exact List.mem_singleton.mpr rfl
    · cases h
  | left w =>
    rw [stpL] at h
    split at h
    · cases h
      exact List.mem_singleton.mpr rfl
    · cases h
  | emp => cases h
  | ltr c => cases h
  | nam c => cases h
theorem go_ok {L : List Str} : ∀ (ns : List Int) {t u : W}, t.Ok L → t.go ns = some u → u.Ok L ∧ u.dep + ns.length ≤ t.dep
  | [], t, u, o, h => by
    rw [go_nil] at h
    cases h
    exact ⟨o, Nat.le_refl _⟩
  | i :: r, t, u, o, h => by
    cases e : t.stp i with
    | none => rw [go_none e] at h; cases h
    | some v =>
      rw [go_cons e] at h
      have a := stp_ok o e
      have b := go_ok r a.1 h
      refine ⟨b.1, ?_⟩
      rw [List.length_cons]
      omega
theorem vd_nil {c : Str} : Vd (.ltr c) [] := ⟨c, go_nil _⟩
theorem vd_ltr {c : Str} {ns : List Int} (h : Vd (.ltr c) ns) : ns = [] := by
  obtain ⟨d, h⟩ := h
  cases ns with
  | nil => rfl
  | cons i r => rw [go_none (by rfl)] at h; cases h
theorem vd_cons {t u : W} {i : Int} {r : List Int} (h : t.stp i = some u) (v : Vd u r) : Vd t (i :: r) := by
  obtain ⟨c, v⟩ := v
  exact ⟨c, by rw [go_cons h]; exact v⟩
theorem vd_inv {t : W} {ns : List Int} (v : Vd t ns) (h : t.isL = false) : ∃ i r u, ns = i :: r ∧ t.stp i = some u ∧ Vd u r := by
  obtain ⟨c, v⟩ := v
  cases ns with
  | nil =>
    rw [go_nil] at v
    cases v
    cases h
  | cons i r =>
    cases e : t.stp i with
    | none => rw [go_none e] at v; cases v
    | some u =>
      rw [go_cons e] at v
      exact ⟨i, r, u, rfl, e, c, v⟩
theorem stp_join {ws : List W} {k : Nat} {x : W} (h : ws[k]? = some x) : (W.join ws).stp (k : Int) = some x := by
  have hl := (List.getElem?_eq_some_iff.mp h).1
  rw [stpJ]
  rw [if_pos ⟨by omega, by omega⟩]
  exact h
theorem stp_times {w : W} {n i : Int} (h : 0 ≤ i) (h2 : i < n) : (W.times w n).stp i = some w := by
  rw [stpT]
  rw [if_pos ⟨h, h2⟩]
theorem stp_right {w : W} {i : Int} (h : 0 ≤ i) (h2 : i ≤ big) : (W.right w).stp i = some w := by
  rw [stpR]
  rw [if_pos ⟨h, h2⟩]
theorem stp_left {w : W} {i : Int} (h : 0 ≤ i) (h2 : i ≤ big) : (W.left w).stp i = some w := by
  rw [stpL]
  rw [if_pos ⟨h, h2⟩]
/-- how many numbers lead on -/
def W.tot : W → Int
  | .join ws => ws.length
  | .times _ n => n
  | _ => big + 1
theorem stp_tot {t : W} : t.stp t.tot = none := by
  cases t with
  | join ws =>
    show (if 0 ≤ (ws.length : Int) ∧ (ws.length : Int) < ws.length then ws[(ws.length : Int).toNat]? else none) = none
    rw [if_neg (by omega)]
  | times w n =>
    show (if 0 ≤ n ∧ n < n then some w else none) = none
    rw [if_neg (by omega)]
  | right w => rfl
  | left w => rfl
  | emp => rfl
  | ltr c => rfl
  | nam c => rfl
theorem stp_neg {t : W} {i : Int} (h : i < 0) : t.stp i = none := by
  cases t with
  | join ws =>
    rw [stpJ]
    rw [if_neg (by omega)]
  | times w n =>
    rw [stpT]
    rw [if_neg (by omega)]
  | right w =>
    rw [stpR]
    rw [if_neg (by omega)]
  | left w =>
    rw [stpL]
    rw [if_neg (by omega)]
  | emp => rfl
  | ltr c => rfl
  | nam c => rfl
/-- no place stands there -/
def Bad (t : W) (ns : List Int) : Prop := ∀ c, t.go ns ≠ some (.ltr c)
theorem bad_of_none {t : W} {ns : List Int} (h : t.go ns = none) : Bad t ns := fun c e => by rw [h] at e; cases e
theorem bad_of {t u : W} {ns : List Int} (h : t.go ns = some u) (n : u.isL = false) : Bad t ns := fun c e => by
  rw [h] at e
  cases e
  cases n
/-- behind the place -/
theorem bad_more {t : W} {ns : List Int} {i : Int} {r : List Int} (v : Vd t ns) : Bad t (ns ++ i :: r) := by
  obtain ⟨c, v⟩ := v
  refine bad_of_none ?_
  rw [go_app_some v]
  exact go_none (by rfl)
theorem bad_at {t u : W} {p r : List Int} {i : Int} (h : t.go p = some u) (n : u.stp i = none) : Bad t (p ++ i :: r) := by
  refine bad_of_none ?_
  rw [go_app_some h]
  exact go_none n
theorem vd_take {t : W} {ns : List Int} (v : Vd t ns) (k : Nat) : ∃ u, t.go (ns.take k) = some u := by
  obtain ⟨c, v⟩ := v
  rw [← List.take_append_drop k ns, go_app] at v
  cases h : t.go (ns.take k) with
  | none => rw [h] at v; cases v
  | some u => exact ⟨u, rfl⟩
theorem vd_take_isL {t u : W} {ns : List Int} {k : Nat} (v : Vd t ns) (h : t.go (ns.take k) = some u) (hk : k < ns.length) : u.isL = false := by
  obtain ⟨c, v⟩ := v
  rw [← List.take_append_drop k ns, go_app_some h] at v
  have e : ns.drop k = ns[k] :: ns.drop (k + 1) := List.drop_eq_getElem_cons hk
  rw [e] at v
  cases u with
  | ltr d => rw [go_none (by rfl)] at v; cases v
  | _ => rfl
theorem W.cnts_zero {M L : List Str} : ∀ {ws : List W} {x : W}, W.Oks M ws → W.cnts L ws = some 0 → x ∈ ws → x.cnt L = some 0
  | w :: r, x, o, e, h => by
    unfold W.Oks at o
    unfold W.cnts at e
    split at e
    · rename_i a b ea eb
      have e' : a + b = 0 := Option.some.inj e
      have h1 := (W.cnt_bd w o.1 ea).1
      have h2 := (W.cnts_bd r o.2 eb).1
      have ha : a = 0 := by omega
      have hb : b = 0 := by omega
      subst ha
      subst hb
      rcases List.mem_cons.mp h with q | q
      · rw [q]
        exact ea
      · exact W.cnts_zero o.2 eb q
    · cases e
theorem W.cnts_zero_of {L : List Str} : ∀ {ws : List W}, (∀ x ∈ ws, x.cnt L = some 0) → W.cnts L ws = some 0
  | [], _ => by rw [W.cnts]
  | w :: r, h => by
    rw [W.cnts, h w (List.mem_cons_self ..), W.cnts_zero_of fun x q => h x (List.mem_cons_of_mem _ q)]
    rfl
/-- an address has a place: the word is not empty -/
theorem vd_cnt {t : W} (o : t.Ok abc) {ns : List Int} : Vd t ns → t.cnt abcABC ≠ some 0 := by
  induction ns generalizing t with
  | nil =>
    rintro ⟨c, v⟩ e
    rw [go_nil] at v
    cases v
    unfold W.Ok at o
    rw [cnt_ltr, if_pos (abc_sub c o)] at e
    cases e
  | cons i r ih =>
    intro v e
    obtain ⟨c, v'⟩ := v
    cases es : t.stp i with
    | none => rw [go_none es] at v'; cases v'
    | some u =>
      rw [go_cons es] at v'
      have ou := (stp_ok o es).1
      have hu := ih ou ⟨c, v'⟩
      cases t with
      | join ws =>
        rw [stpJ] at es
        split at es
        · have m := List.mem_of_getElem? es
          rw [cnt_join] at e
          unfold W.Ok at o
          exact hu (W.cnts_zero o.2 e m)
        · cases es
      | times w n =>
        rw [stpT] at es
        split at es
        · rename_i hh
          cases es
          unfold W.Ok at o
          rw [cnt_times, if_pos (by omega)] at e
          cases eu : u.cnt abcABC with
          | none => rw [eu] at e; cases e
          | some m =>
            rw [eu] at e
            have e2 : m * n = 0 := Option.some.inj e
            rcases Int.mul_eq_zero.mp e2 with z | z
            · rw [z] at eu
              exact hu eu
            · omega
        · cases es
      | right w =>
        rw [stpR] at es
        split at es
        · cases es
          rw [cnt_right, if_neg hu] at e
          cases e
        · cases es
      | left w =>
        rw [stpL] at es
        split at es
        · cases es
          rw [cnt_left, if_neg hu] at e
          cases e
        · cases es
      | emp => cases es
      | ltr c => cases es
      | nam c => cases es
/-! ### how the heap bears them -/
def AdV (K : PySem.W.Frag) (H : Hp) (v : V) (ns : List Int) : Prop := ∃ a, v = .ref a ∧ SqT K H a (ns.map V.int)
theorem AdV.tp {K : PySem.W.Frag} {H H' : Hp} {v : V} {ns : List Int} (t : Tp H H') (h : AdV K H v ns) : AdV K H' v ns := by
  obtain ⟨a, e, s⟩ := h
  exact ⟨a, e, t.sq s⟩
end SW

set_option Elab.async false
set_option linter.all false
set_option maxRecDepth 100000
set_option maxHeartbeats 4000000
namespace SW
open PySem PySem.Spec PyProof.Rows L2
theorem atI_last {xs : List V} {x : V} : atI (xs ++ [x]) (-1) = some x := by
  unfold atI
  have h : ixN (xs ++ [x]).length (-1) = some xs.length := by
    unfold ixN
    rw [if_neg (by decide), List.length_append, if_pos (by show -(((xs.length + 1 : Nat)) : Int) ≤ -1; omega)]
    congr 1
    show ((-1 : Int) + ((xs.length + 1 : Nat) : Int)).toNat = xs.length
    omega
  rw [h]
  show (xs ++ [x])[xs.length]? = some x
  rw [List.getElem?_append_right (Nat.le_refl _), Nat.sub_self]
  rfl
theorem stp_parts {t u : W} {i : Int} (h : t.stp i = some u) : (∃ ws, t = .join ws ∧ 0 ≤ i ∧ ws[i.toNat]? = some u) ∨ (∃ n, t = .times u n) ∨ t = .right u ∨ t = .left u := by
  cases t with
  | join ws =>
    rw [stpJ] at h
    split at h
    · rename_i hh
      exact .inl ⟨ws, rfl, hh.1, h⟩
    · cases h
  | times w n =>
    rw [stpT] at h
    split at h
    · cases h
      exact .inr (.inl ⟨n, rfl⟩)
    · cases h
  | right w =>
    rw [stpR] at h
    split at h
    · cases h
      exact .inr (.inr (.inl rfl))
    · cases h
  | left w =>
    rw [stpL] at h
    split at h
    · cases h
      exact .inr (.inr (.inr rfl))
    · cases h
  | emp => cases h
  | ltr c => cases h
  | nam c => cases h
/-- here[1][number] if here is a join, else here[1] -/
def tStep (K : PySem.W.Frag) (i j : Nat) : TE := tIf (tTest (tOp rEq (tOp (rIxT K) (tVar i) (tC (.int 0))) (tC (.str "join")))) (tOp (rIxT K) (tOp (rIxT K) (tVar i) (tC (.int 1))) (tVar j)) (tOp (rIxT K) (tVar i) (tC (.int 1)))
theorem walk_step {K : PySem.W.Frag} {i j : Nat} {H : Hp} {x : V} {u u2 : W} {k : Int} {σ : L2.St} {Q : VK} (hx : WV K H x u) (h : u.stp k = some u2) (hi : σ[i]? = some (some x)) (hj : σ[j]? = some (some (.int k))) (q : ∀ y, WV K H y u2 → Q y H) : tStep K i j σ H Q := by
  have at_ := hx.at
  rcases stp_parts h with ⟨ws, rfl, h0, h1⟩ | ⟨n, rfl⟩ | rfl | rfl
  · cases at_ with | @join a b xs ws e s s2 hw => ?_
    cases e
    have hk : k.toNat < xs.length := by rw [hw.length]; exact (List.getElem?_eq_some_iff.mp h1).1
    obtain ⟨u3, e3, hu3⟩ := hw.get (List.getElem?_eq_getElem hk)
    rw [h1] at e3
    cases e3
    exact ⟨_, hi, _, _, _, _, rfl, rfl, s, rfl, rfl, eq_yes rfl ⟨_, hi, _, _, _, _, rfl, rfl, s, rfl, _, hj, _, _, _, _, rfl, rfl, s2, at_of (j := k.toNat) (by omega) (List.getElem?_eq_getElem hk), q _ hu3⟩⟩
  · cases at_ with | times e s hw => ?_
    cases e
    exact ⟨_, hi, _, _, _, _, rfl, rfl, s, rfl, rfl, eq_no (by decide +kernel) ⟨_, hi, _, _, _, _, rfl, rfl, s, rfl, q _ hw⟩⟩
  · cases at_ with | right e s hw => ?_
    cases e
    exact ⟨_, hi, _, _, _, _, rfl, rfl, s, rfl, rfl, eq_no (by decide +kernel) ⟨_, hi, _, _, _, _, rfl, rfl, s, rfl, q _ hw⟩⟩
  · cases at_ with | left e s hw => ?_
    cases e
    exact ⟨_, hi, _, _, _, _, rfl, rfl, s, rfl, rfl, eq_no (by decide +kernel) ⟨_, hi, _, _, _, _, rfl, rfl, s, rfl, q _ hw⟩⟩
theorem cat_one {H : Hp} {K : PySem.W.Frag} {a b : Addr} {i : Int} {ns : List Int} {Q : VK} (ha : SqT K H a [.int i]) (hb : SqT K H b (ns.map V.int)) (hl : ns.length ≤ 1000) (q : ∀ p H', SqT K H' p ((i :: ns).map V.int) → Same H H' → Q (.ref p) H') : rCatT K (.ref a) (.ref b) H Q := by
  refine ⟨a, b, [.int i], ns.map V.int, rfl, rfl, ha, hb, by simp, ?_, fun e => ?_, fun _ p hp => ?_⟩
  · rw [List.length_map]
    exact Nat.le_trans (show 1 + ns.length ≤ 2000 by omega) (by decide)
  · cases ns with
    | nil => exact q a H ha (Same.refl H)
    | cons x r => cases e
  · exact q p _ (SqT.of upd_same) (same_new hp)

/-! ### parts of an address -/
theorem sl_pre {K : PySem.W.Frag} {H : Hp} {a : Addr} {ns : List Int} {i : Int} {k : Nat} {Q : VK} (hi : i = (k : Int)) (ha : SqT K H a (ns.map V.int)) (q : ∀ b H', SqT K H' b ((ns.take k).map V.int) → Same H H' → Q (.ref b) H') : rSlA K (.ref a) none (some i) H Q := by
  subst hi
  have e : cutV (ns.map V.int) none (some (k : Int)) = (ns.take k).map V.int := by rw [cut_to, List.map_take]
  refine ⟨a, _, rfl, ha, fun h => q a H ?_ (Same.refl H), fun _ p hp => q p _ (by rw [e]; exact SqT.of upd_same) (same_new hp)⟩
  have h2 := h.2
  rw [HT.sIx_nat, List.length_map] at h2
  rw [List.take_of_length_le (by omega)]
  exact ha
theorem sl_suf0 {K : PySem.W.Frag} {H : Hp} {a : Addr} {ns : List Int} {i : Int} {k : Nat} {Q : VK} (hi : i = (k : Int)) (ha : SqT K H a (ns.map V.int)) (q : ∀ b H', SqT K H' b ((ns.drop k).map V.int) → Same H H' → Q (.ref b) H') : rSlA K (.ref a) (some i) none H Q := by
  subst hi
  have e : cutV (ns.map V.int) (some (k : Int)) none = (ns.drop k).map V.int := by
    unfold cutV
    rw [HT.sIx_nat, HT.sIx_none, List.length_map, List.map_drop]
    by_cases hk : k ≤ ns.length
    · rw [Nat.min_eq_left hk]
      exact List.take_of_length_le (by rw [List.length_drop, List.length_map]; omega)
    · rw [Nat.min_eq_right (by omega), Nat.sub_self, List.take_zero, List.drop_eq_nil_of_le (by rw [List.length_map]; omega)]
  refine ⟨a, _, rfl, ha, fun h => q a H ?_ (Same.refl H), fun _ p hp => q p _ (by rw [e]; exact SqT.of upd_same) (same_new hp)⟩
  have h2 := h.1
  rw [HT.sIx_nat, List.length_map] at h2
  have h3 : ns.drop k = ns := by
    by_cases hk : k = 0
    · rw [hk, List.drop_zero]
    · have : ns.length = 0 := by omega
      rw [List.length_eq_zero_iff.mp this, List.drop_nil]
  rw [h3]
  exact ha
theorem sl_suf {K : PySem.W.Frag} {σ : L2.St} {H : Hp} {a : Addr} {ns : List Int} {i : Int} {k : Nat} {Q : VK} (hi : i = (k : Int)) (ha : SqT K H a (ns.map V.int)) (q : ∀ b H', SqT K H' b ((ns.drop k).map V.int) → Same H H' → Q (.ref b) H') : tNoPart σ H fun u H3 => rSlA K (.ref a) (some i) u H3 Q :=
  sl_suf0 hi ha q
theorem cat_any {K : PySem.W.Frag} {H : Hp} {a b : Addr} {ns ms : List Int} {Q : VK} (ha : SqT K H a (ns.map V.int)) (hb : SqT K H b (ms.map V.int)) (h1 : ns.length ≤ 1000) (h2 : ms.length ≤ 1000)
    (q : ∀ p H', SqT K H' p ((ns ++ ms).map V.int) → Same H H' → Q (.ref p) H') : rCatA K (.ref a) (.ref b) H Q := by
  refine ⟨a, b, ns.map V.int, ms.map V.int, rfl, rfl, ha, hb, ?_, fun e => ?_, fun _ e => ?_, fun _ _ p hp => ?_⟩
  · rw [List.length_map, List.length_map]
    exact Nat.le_trans (show ns.length + ms.length ≤ 2000 by omega) (by decide)
  · cases ns with
    | nil => exact q b H hb (Same.refl H)
    | cons x r => cases e
  · cases ms with
    | nil => exact q a H (by rw [List.append_nil]; exact ha) (Same.refl H)
    | cons x r => cases e
  · exact q p _ (by rw [List.map_append]; exact SqT.of upd_same) (same_new hp)
/-- what is one tuple of one number -/
theorem one_int {K : PySem.W.Frag} {H : Hp} {p : Addr} {i : Int} (h : SqT K H p [.int i]) : SqT K H p (([i] : List Int).map V.int) := h
theorem kp_same {r : Addr} {H H' : Hp} (s : Same H H') : Kp r H H' := fun b o _ h => s _ _ h
theorem Rng.same {H H' : Hp} {r l : Addr} (g : Rng H r l) (s : Same H H') : Rng H' r l := g.of (fun o h => s _ _ h) (fun o h => s _ _ h)
/-! ### comprehensions of one name with a test -/
theorem lcrT {lo : Int} {n j : Nat} {tt : TT} {te : TE} {σ : L2.St} {H1 : Hp} {D : Addr} {Qd : Hp → Prop} (Pv : Nat → Hp → Prop) (h0 : Pv 0 (upd H1 D (.lst [])))
    (hs : ∀ i H, i < n → Pv i H → tt (σ.set j (some (.int (lo + i)))) H fun b H3 => if b = true then te (σ.set j (some (.int (lo + i)))) H3 fun y H4 => ∃ acc, H4 D = some (.lst acc) ∧ acc.length < sizeLine ∧ Pv (i + 1) (upd H4 D (.lst (acc ++ [y]))) else Pv (i + 1) H3)
    (hd : ∀ H, Pv n H → Qd H) :
    ∃ W : Nat → Nat → Hp → Prop, (∃ m, W 0 m (upd H1 D (.lst []))) ∧ ∀ i m H, W i m H →
      ((Itr lo n).stop i H ∧ Qd H) ∨ ((Itr lo n).go i H ∧ ∃ Nx : Hp → Prop, (∀ H', Nx H' → ∃ m', m' < m ∧ W (i + 1) m' H') ∧ ∀ x H', (Itr lo n).yld i H x H' → gName j x (wipe σ [j]) H' fun σ2 H2 => wipe σ2 [j] = wipe σ [j] ∧ tt σ2 H2 fun b H3 =>
        if b = true then te σ2 H3 fun y H4 => ∃ acc, H4 D = some (.lst acc) ∧ acc.length < sizeLine ∧ Nx (upd H4 D (.lst (acc ++ [y]))) else Nx H3) := by
  refine lc_range Pv h0 (fun i H hi p => ?_) hd
  have e1 : wipe σ [j] = σ.set j none := rfl
  have e2 : (wipe σ [j]).set j (some (.int (lo + i))) = σ.set j (some (.int (lo + i))) := by rw [e1, List.set_set]
  unfold gName
  rw [e2]
  refine ⟨?_, hs i H hi p⟩
  show (σ.set j (some (.int (lo + i)))).set j none = σ.set j none
  rw [List.set_set]
theorem toL_zero {o : Option Int} : toL o = 0 ↔ o = some 0 := by
  cases o with
  | none => exact ⟨fun h => absurd h (by show ¬ (-1 : Int) = 0; decide), fun h => nomatch h⟩
  | some m => exact ⟨fun h => congrArg some h, fun h => Option.some.inj h⟩
/-- == 0 of a count -/
theorem eq0 {o : Option Int} {A B : Prop} (a : o = some 0 → A) (b : o ≠ some 0 → B) : ∃ k, V.bl (decide (V.int (toL o) = V.int 0)) = V.bl k ∧ if k = true then A else B := by
  by_cases h : o = some 0
  · exact ⟨true, by rw [h]; rfl, a h⟩
  · refine ⟨false, ?_, b h⟩
    rw [decide_eq_false]
    intro e
    exact h (toL_zero.mp (V.int.inj e))
/-- != 0 of a count -/
theorem ne0 {o : Option Int} {A B : Prop} (a : o ≠ some 0 → A) (b : o = some 0 → B) : ∃ k, V.bl (!decide (V.int (toL o) = V.int 0)) = V.bl k ∧ if k = true then A else B := by
  by_cases h : o = some 0
  · exact ⟨false, by rw [h]; rfl, b h⟩
  · refine ⟨true, ?_, a h⟩
    rw [decide_eq_false]
    · rfl
    · intro e
      exact h (toL_zero.mp (V.int.inj e))
theorem log_big {m : Int} (h0 : 0 ≤ m) (h : m ≤ 1000000000000000000000000000001) : m.natAbs.log2 < 9000 := by
  refine Nat.lt_of_lt_of_le (PySem.Flt.log2_lt_of (k := 110) (by decide) ?_) (by decide)
  have : m.natAbs ≤ 1000000000000000000000000000001 := by omega
  exact Nat.lt_of_le_of_lt this (by decide)
end SW

set_option Elab.async false
set_option linter.all false
set_option maxRecDepth 100000
set_option maxHeartbeats 4000000
namespace SW
open PySem PySem.Spec PyProof.Rows L2
/-! ### range(a, b) of numbers of any size -/
theorem long_turn {P : Program} {w : World} {K : PySem.W.Frag} {tg : Expr} (z : Addr) (a : Int) (k : Nat) : Turn P w K tg (Itr a k) [z] z (fun j hp => IsLongIter hp z (a + (j : Nat) * 1) ((k : Int) - (j : Nat)) 1) where
  mem := List.mem_singleton.mpr rfl
  obj := fun j hp st b hb => by
    obtain rfl := List.mem_singleton.mp hb
    exact ⟨_, st, fun v q => nomatch (show Data.fields _ = Data.cell v from q)⟩
  keep := fun j hp hp' st kp => kp z (List.mem_singleton.mpr rfl) _ st
  self := fun _ _ _ _ _ st q => wpAny_pyIter_longiter st q
  item := by
    intro X hP hw hK calm j pins s σ H E I fps st going
    subst hP hw hK
    obtain ⟨p0, p1, p2, p3, p4, p5⟩ := fps z (List.mem_singleton.mpr rfl)
    have walks := Walks.longrange (prog := X.prog) (w := X.w) (I.ok.hd calm) z a 1 k
    refine walks.item j s _ _ going st (fun v hp' tk hv st' kept => ?_)
    obtain ⟨t, rfl⟩ := hv
    have J : Inv X pins σ H { s with heap := hp', toks := tk } := I.turned (fun b o hb e => kept b o (by simpa using hb) e) p0 p1 p3 p4 p5
    refine ⟨_, rfl, go_of (s := { s with heap := hp', toks := tk }) (n := "longrange_iterator") st' rfl rfl (by decide) ⟨.int (a + j), H, J, ⟨t, ?_⟩, ⟨rfl, rfl⟩, st', fun b hb => (fps b hb).1⟩⟩
    rw [Int.mul_one]
  done := by
    intro X hP hw hK calm j pins s σ H E I fps st over
    subst hP hw hK
    obtain ⟨p0, p1, p2, p3, p4, p5⟩ := fps z (List.mem_singleton.mpr rfl)
    refine wpAny_pyNext_long_end (I.ok.hd calm) st (by have : k ≤ j := over; omega) (fun hp' eb => ⟨rfl, ?_⟩)
    exact I.turned (t' := s.toks) (fun b o hb e => eb b o hb e) p0 p1 p3 p4 p5
section
variable {X : Cx} {tg : Expr}
theorem walk_range {pins : List (Addr × Obj)} {σ : L2.St} {H : Hp} {s : Shared} {R : It → Hp → Prop} {E : Value → Shared → Prop} {a b : Int} {t u v : Tok} {tk : Nat} (I : Inv X pins σ H s) (q : R (Itr a (b - a).toNat) H) :
    wpAny (model X.prog X.w) X.A (pyIter (.ref s.heap.objs.size)) (PIE X pins σ tg R) E { s with heap := s.heap.push { cls := .type "range", data := .fields #[.int a t, .int b u, .int 1 v] }, toks := tk } := by
  have I1 : Inv X pins σ H { s with heap := s.heap.push { cls := .type "range", data := .fields #[.int a t, .int b u, .int 1 v] }, toks := tk } := I.kept fun c o e => Heap.get?_push_of_some _ e
  have e1 : a + ((0 : Nat) : Int) * 1 = a := by simp
  have e2 : (((b - a).toNat : Nat) : Int) - ((0 : Nat) : Int) = Builtin.Range.rangeSize a b 1 := by
    rw [rangeSize_one]
    split <;> omega
  have fps : ∀ c ∈ [(s.heap.push { cls := .type "range", data := .fields #[.int a t, .int b u, .int 1 v] }).objs.size], FpOk X pins H c := fun c hc => by
    obtain rfl := List.mem_singleton.mp hc
    exact I1.fpOk (Nat.le_refl _) (I1.hok.fresh (Nat.le_refl _))
  cases hs : Builtin.Range.small a b 1 with
  | true =>
    refine wpAny_pyIter_range (IsRange.new ..) hs ?_
    refine ⟨(s.heap.push { cls := .type "range", data := .fields #[.int a t, .int b u, .int 1 v] }).objs.size, [(s.heap.push { cls := .type "range", data := .fields #[.int a t, .int b u, .int 1 v] }).objs.size], _, _, H, rfl, I1.kept (t' := tk) (fun c o e => Heap.get?_push_of_some _ e), turn_range _ a (b - a).toNat, ?_, fps, q⟩
    show IsRangeIter _ _ (a + ((0 : Nat) : Int) * 1) ((((b - a).toNat : Nat) : Int) - ((0 : Nat) : Int)) 1
    rw [e1, e2]
    exact Heap.get?_push_size _ rfl
  | false =>
    refine wpAny_pyIter_longrange (IsRange.new ..) hs ?_
    refine ⟨(s.heap.push { cls := .type "range", data := .fields #[.int a t, .int b u, .int 1 v] }).objs.size, [(s.heap.push { cls := .type "range", data := .fields #[.int a t, .int b u, .int 1 v] }).objs.size], _, _, H, rfl, I1.kept (t' := tk) (fun c o e => Heap.get?_push_of_some _ e), long_turn _ a (b - a).toNat, ?_, fps, q⟩
    show IsLongIter _ _ (a + ((0 : Nat) : Int) * 1) ((((b - a).toNat : Nat) : Int) - ((0 : Nat) : Int)) 1
    rw [e1, e2]
    exact Heap.get?_push_size _ rfl
def iRgW (ta : TA) : TI := fun σ H R => ta σ H fun vs H1 => ∃ a b : Int, vs = [.int a, .int b] ∧ R (Itr a (b - a).toNat) H1
theorem pi_rgW {e1 e2 : Expr} {ta : TA} {p pos : Pos} (hg : Gl X "range") (hm : X.mg "range" = none) (ha : PA X [e1, e2] ta) (hs : starEach [e1, e2] X.env = [(false, eval e1 X.env), (false, eval e2 X.env)] := by rfl) (hs2 : starEach [e2] X.env = [(false, eval e2 X.env)] := by rfl) :
    PI X tg (.Call (.Name "range" p) [e1, e2] [] pos) (iRgW ta) := by
  constructor
  intro pins s σ H R I h
  refine Call_ (ld_blt I hg hm boot_range (PyProof.Rows.callWith_type1 (thn (ha.run pos pins s σ H _ I h) fun us s1 got => ?_) (by rw [hs, hs2]) (by rw [hs2]; rfl)))
  obtain ⟨vs, H1, I1, rel, a, b, e, q⟩ := got
  subst e
  match us, rel with
  | [_, _], .cons ⟨t, rfl⟩ (.cons ⟨t', rfl⟩ .nil) => exact call_range_2 (walk_range I1 q)
end
end SW

set_option Elab.async false
set_option linter.all false
set_option maxRecDepth 100000
set_option maxHeartbeats 4000000
namespace SW
open PySem PySem.Spec PyProof.Rows L2
/-! ### max of a tuple of numbers -/
theorem ints_read {h : Heap} : ∀ {ns : List Int} {us : List Value}, Vals (ns.map V.int) us → ReadsAll h us (ns.map PyData.int) []
  | [], _, .nil => .nil
  | n :: r, _, .cons a b => by
    obtain ⟨t, rfl⟩ := a
    exact ReadsAll.cons (as := []) (bs := []) (Reads.int _ _) (ints_read b)
theorem ints_alike (ns : List Int) : PySem.W.AlikeAll (ns.map PyData.int) := by
  refine ⟨fun x hx y hy => ?_, fun x hx => ?_⟩
  · obtain ⟨a, _, rfl⟩ := List.mem_map.mp hx
    obtain ⟨b, _, rfl⟩ := List.mem_map.mp hy
    rfl
  · obtain ⟨a, _, rfl⟩ := List.mem_map.mp hx
    intro e
    cases e
theorem ints_depth (ns : List Int) : PyData.depthAll (ns.map PyData.int) ≤ 1 := by
  induction ns with
  | nil => simp [PyData.depthAll]
  | cons n r ih =>
    rw [List.map_cons]
    unfold PyData.depthAll
    have : PyData.depth (.int n) ≤ 1 := by simp [PyData.depth]
    omega
theorem fold_max (n : Int) (ns : List Int) : ∀ y ∈ n :: ns, y ≤ ns.foldl max n := by
  induction ns generalizing n with
  | nil =>
    intro y hy
    rw [List.mem_singleton.mp hy]
    exact Int.le_refl _
  | cons k r ih =>
    intro y hy
    rw [List.foldl_cons]
    rcases List.mem_cons.mp hy with rfl | hy
    · exact Int.le_trans (Int.le_max_left _ _) (ih (max y k) _ (List.mem_cons_self ..))
    · rcases List.mem_cons.mp hy with rfl | hy
      · exact Int.le_trans (Int.le_max_right _ _) (ih (max n y) _ (List.mem_cons_self ..))
      · exact ih (max n k) y (List.mem_cons_of_mem _ hy)
def rMaxT (K : PySem.W.Frag) : List V → Hp → VK → Prop := fun vs H Q => ∃ (a : Addr) (n : Int) (ns : List Int), vs = [V.ref a] ∧ SqT K H a ((n :: ns).map V.int) ∧ ∀ m, (∀ y ∈ n :: ns, y ≤ m) → Q (.int m) H
theorem cr_maxT {X : Cx} (hc : X.calm = true) (hu : X.A.units + 64 < cLine) : CallR X (.builtin "max") (rMaxT X.K) := by
  intro pins s σ H vs us Q I r h
  obtain ⟨a, n, ns, rfl, hs, q⟩ := h
  obtain ⟨its, rv, hl, _⟩ := I.tuple hs
  rw [Vals.ref1 r]
  have hd := ints_depth (n :: ns)
  refine PySem.W.max_tuple_data (x := .int n) (xs := ns.map PyData.int) (I.ok.hd hc) (show s.heap.IsTuple a its.toArray from hl) (ints_read rv) (ints_alike (n :: ns)) (by have : PyData.depthAll (.int n :: ns.map PyData.int) ≤ 1 := hd; omega) (fun i v h' tk bs _ hr hk => ?_)
  rw [PySem.W.maxD_ints] at hr
  cases hr
  exact ⟨.int _, H, I.kept (t' := tk) hk, ⟨_, rfl⟩, q _ (fold_max n ns)⟩
/-! ### zip of a list and two tuples -/
def Itz3 (K : PySem.W.Frag) (l a b : Addr) : It :=
  ⟨fun i H => ∃ (xs ys zs : List V) (x y z : V), SqL K H l xs ∧ SqT K H a ys ∧ SqT K H b zs ∧ xs[i]? = some x ∧ ys[i]? = some y ∧ zs[i]? = some z,
    fun i H v H' => ∃ T x y z, v = .ref T ∧ H T = none ∧ H' = upd H T (.tup [x, y, z]) ∧ (∀ xs, SqL K H l xs → xs[i]? = some x) ∧ (∀ ys, SqT K H a ys → ys[i]? = some y) ∧ ∀ zs, SqT K H b zs → zs[i]? = some z,
    fun i H => ∃ xs ys zs : List V, SqL K H l xs ∧ SqT K H a ys ∧ SqT K H b zs ∧ i = min (min xs.length ys.length) zs.length⟩
theorem turn_zip3 {P : Program} {w : World} {K : PySem.W.Frag} {elts : List Expr} {kk : Nat} {tpos : Pos} {l a b z TI TO i1 i2 i3 : Addr} (S : ZipSep3 z TI TO i1 i2 i3 [i1, l] [i2, a] [i3, b]) (n1 : l ≠ i1) (n2 : a ≠ i2) (n3 : b ≠ i3) :
    Turn P w K (.Tuple elts kk tpos) (Itz3 K l a b) [z, TI, TO, i1, i2, i3] z
      (fun i h => IsZip h z TI TO .none ∧ IsTupOf3 h TI (.ref i1) (.ref i2) (.ref i3) ∧ (∃ x y u, IsTupOf3 h TO x y u) ∧ h.IsListIter i1 l i ∧ h.IsTupleIter i2 a i ∧ h.IsTupleIter i3 b i) where
  mem := List.mem_cons_self ..
  obj := fun i h st c hc => by
    obtain ⟨hz, hTI, ⟨x, y, u, hTO⟩, ⟨o1, e1, _, d1⟩, ⟨o2, e2, _, d2⟩, ⟨o3, e3, _, d3⟩⟩ := st
    have e' : c = z ∨ c = TI ∨ c = TO ∨ c = i1 ∨ c = i2 ∨ c = i3 := by simpa using hc
    rcases e' with q | q | q | q | q | q
    · rw [q]; exact ⟨_, hz, fun v q => nomatch q⟩
    · rw [q]; exact ⟨_, hTI, fun v q => nomatch q⟩
    · rw [q]; exact ⟨_, hTO, fun v q => nomatch q⟩
    · rw [q]; exact ⟨o1, e1, fun v q => by rw [d1] at q; cases q⟩
    · rw [q]; exact ⟨o2, e2, fun v q => by rw [d2] at q; cases q⟩
    · rw [q]; exact ⟨o3, e3, fun v q => by rw [d3] at q; cases q⟩
  keep := fun i h h' st k => by
    obtain ⟨hz, hTI, ⟨x, y, u, hTO⟩, h1, h2, h3⟩ := st
    exact ⟨k z (by simp) _ hz, k TI (by simp) _ hTI, ⟨x, y, u, k TO (by simp) _ hTO⟩, h1.at fun o q => k i1 (by simp) o q, h2.at fun o q => k i2 (by simp) o q, h3.at fun o q => k i3 (by simp) o q⟩
  self := fun A i s Q E st h => wpAny_pyIter_zip st.1 h
  item := by
    intro X hP hw hK calm i pins s σ H E I fps st going
    subst hP hw hK
    obtain ⟨hz, hTI, hTO, h1, h2, h3⟩ := st
    obtain ⟨xs, ys, zs, x, y, u, hl, ha, hb, hx, hy, hu⟩ := going
    obtain ⟨its1, r1, p1, _⟩ := I.list hl
    obtain ⟨its2, r2, p2, _⟩ := I.tuple ha
    obtain ⟨its3, r3, p3, _⟩ := I.tuple hb
    obtain ⟨v1, hv1, q1⟩ := r1.get hx
    obtain ⟨v2, hv2, q2⟩ := r2.get hy
    obtain ⟨v3, hv3, q3⟩ := r3.get hu
    have hd : X.A.in1.handled = none := I.ok.hd calm
    have W := WalksT.zipD3 (A := X.A) S (Draws.list (prog := X.prog) (w := X.w) hd i1 l n1 its1.toArray) (Draws.tuple hd i2 a n2 its2.toArray) (Draws.tuple hd i3 b n3 its3.toArray)
    have L1 : i < its1.toArray.size := by rw [List.size_toArray]; exact (List.getElem?_eq_some_iff.mp hv1).1
    have L2 : i < its2.toArray.size := by rw [List.size_toArray]; exact (List.getElem?_eq_some_iff.mp hv2).1
    have L3 : i < its3.toArray.size := by rw [List.size_toArray]; exact (List.getElem?_eq_some_iff.mp hv3).1
    refine W.item i s _ _ (by omega) ⟨hz, hTI, hTO, ⟨h1, p1.isList⟩, ⟨h2, show s.heap.IsTuple a its2.toArray from p2⟩, ⟨h3, show s.heap.IsTuple b its3.toArray from p3⟩⟩ (fun T vals h' tk hvals hT hTup mid kept => ?_)
    obtain ⟨w1, w2, w3, e1, e2, e3, rfl⟩ := hvals
    have a1 : w1 = v1 := by
      have : its1[i]? = some w1 := by simpa using e1
      rw [hv1] at this
      exact (Option.some.inj this).symm
    have a2 : w2 = v2 := by
      have : its2[i]? = some w2 := by simpa using e2
      rw [hv2] at this
      exact (Option.some.inj this).symm
    have a3 : w3 = v3 := by
      have : its3[i]? = some w3 := by simpa using e3
      rw [hv3] at this
      exact (Option.some.inj this).symm
    subst a1 a2 a3
    have apart := W.apart i T h' mid
    refine ⟨_, rfl, W.go elts kk tpos i T { s with heap := h', toks := tk } _ _ mid (fun h'' st' kept2 => ?_)⟩
    have hTup2 : h''.IsTuple T #[w1, w2, w3] := hTup.at fun o q => kept2 T o apart q
    have new : ObjOk X.prog X.w (upd H T (.tup [x, y, u])) h'' T (.tup [x, y, u]) := ⟨by show 3 ≤ sizeLine; decide, [w1, w2, w3], .cons q1 (.cons q2 (.cons q3 .nil)), hTup2⟩
    have sub : ∀ c ∈ [z, TO, i1, i2, i3], FpOk X pins H c := fun c hc => fps c (by
      have e' : c = z ∨ c = TO ∨ c = i1 ∨ c = i2 ∨ c = i3 := by simpa using hc
      rcases e' with q | q | q | q | q <;> rw [q] <;> simp)
    have J : Inv X pins σ (upd H T (.tup [x, y, u])) { s with heap := h'', toks := tk } :=
      I.turnedNew (t' := tk) (ch := [z, TO, i1, i2, i3]) (fun c o hc q => kept2 c o hc (kept c o hc q)) sub hT new
    obtain ⟨gz, gTI, gTO, g1, g2, g3⟩ := st'
    refine ⟨.ref T, _, J, rfl, ⟨T, x, y, u, rfl, I.hok.fresh hT, rfl, fun l' hl' => by rw [I.list_inj hl' hl]; exact hx, fun l' hl' => by rw [I.tuple_inj hl' ha]; exact hy, fun l' hl' => by rw [I.tuple_inj hl' hb]; exact hu⟩, ⟨gz, gTI, gTO, g1.1, g2.1, g3.1⟩, fun c hc => ?_⟩
    have hcl : c < s.heap.objs.size := by
      have e' : c = z ∨ c = TI ∨ c = TO ∨ c = i1 ∨ c = i2 ∨ c = i3 := by simpa using hc
      obtain ⟨x0, y0, u0, hTO⟩ := hTO
      rcases e' with q | q | q | q | q | q
      · rw [q]; exact Heap.lt_size hz
      · rw [q]; exact Heap.lt_size hTI
      · rw [q]; exact Heap.lt_size hTO
      · rw [q]; obtain ⟨_, e1, _⟩ := h1; exact Heap.lt_size e1
      · rw [q]; obtain ⟨_, e1, _⟩ := h2; exact Heap.lt_size e1
      · rw [q]; obtain ⟨_, e1, _⟩ := h3; exact Heap.lt_size e1
    rw [upd_ne (Nat.ne_of_lt (Nat.lt_of_lt_of_le hcl hT))]
    exact (fps c hc).1
  done := by
    intro X hP hw hK calm i pins s σ H E I fps st over
    subst hP hw hK
    obtain ⟨hz, hTI, hTO, h1, h2, h3⟩ := st
    obtain ⟨xs, ys, zs, hl, ha, hb, hi⟩ := over
    obtain ⟨its1, r1, p1, _⟩ := I.list hl
    obtain ⟨its2, r2, p2, _⟩ := I.tuple ha
    obtain ⟨its3, r3, p3, _⟩ := I.tuple hb
    have hd : X.A.in1.handled = none := I.ok.hd calm
    have W := WalksT.zipD3 (A := X.A) S (Draws.list (prog := X.prog) (w := X.w) hd i1 l n1 its1.toArray) (Draws.tuple hd i2 a n2 its2.toArray) (Draws.tuple hd i3 b n3 its3.toArray)
    have e : i = min (min its1.toArray.size its2.toArray.size) its3.toArray.size := by
      rw [List.size_toArray, List.size_toArray, List.size_toArray, ← r1.length, ← r2.length, ← r3.length]
      exact hi
    have sub : ∀ c ∈ [z, TO, i1, i2, i3], FpOk X pins H c := fun c hc => fps c (by
      have e' : c = z ∨ c = TO ∨ c = i1 ∨ c = i2 ∨ c = i3 := by simpa using hc
      rcases e' with q | q | q | q | q <;> rw [q] <;> simp)
    subst e
    exact W.done s _ _ ⟨hz, hTI, hTO, ⟨h1, p1.isList⟩, ⟨h2, show s.heap.IsTuple a its2.toArray from p2⟩, ⟨h3, show s.heap.IsTuple b its3.toArray from p3⟩⟩ (fun h' tk kept => ⟨rfl, I.turnedL (t' := tk) (ch := [z, TO, i1, i2, i3]) (fun c o hc q => kept c o hc q) sub⟩)
def iZip3 (K : PySem.W.Frag) (ta : TA) : TI := fun σ H R => ta σ H fun vs H1 => ∃ l a b xs ys zs, vs = [.ref l, .ref a, .ref b] ∧ SqL K H1 l xs ∧ SqT K H1 a ys ∧ SqT K H1 b zs ∧ R (Itz3 K l a b) H1
theorem pi_zip3 {X : Cx} {e1 e2 e3 : Expr} {ta : TA} {p pos tpos : Pos} {elts : List Expr} {kk : Nat} (hg : Gl X "zip") (hm : X.mg "zip" = none) (ha : PA X [e1, e2, e3] ta)
    (hs : starEach [e1, e2, e3] X.env = (false, eval e1 X.env) :: starEach [e2, e3] X.env := by rfl) (hpl : (backTo pos (starEach [e2, e3] X.env)).any (·.1) = false := by rfl) :
    PI X (.Tuple elts kk tpos) (.Call (.Name "zip" p) [e1, e2, e3] [] pos) (iZip3 X.K ta) := by
  constructor
  intro pins s σ H R I h
  refine Call_ (ld_blt I hg hm PyProof.Rows.boot_zip (PyProof.Rows.callWith_type1 (thn (ha.run pos pins s σ H _ I h) fun us s1 got => ?_) hs hpl))
  obtain ⟨vs, H1, I1, rel, l, a, b, xs, ys, zs, rfl, hl, ht, ht2, q⟩ := got
  match us, rel with
  | [_, _, _], .cons e1 (.cons e2 (.cons e3 .nil)) =>
    cases e1
    cases e2
    cases e3
    obtain ⟨its1, r1, p1, _⟩ := I1.list hl
    obtain ⟨its2, r2, p2, _⟩ := I1.tuple ht
    obtain ⟨its3, r3, p3, _⟩ := I1.tuple ht2
    have p2' : s1.heap.IsTuple a its2.toArray := p2
    have p3' : s1.heap.IsTuple b its3.toArray := p3
    have ll : l < s1.heap.objs.size := by obtain ⟨o, ho, _⟩ := p1.isList; exact Heap.lt_size ho
    have la : a < s1.heap.objs.size := by obtain ⟨o, ho, _⟩ := p2'; exact Heap.lt_size ho
    have lb : b < s1.heap.objs.size := by obtain ⟨o, ho, _⟩ := p3'; exact Heap.lt_size ho
    refine zip_begins3 (begins_list l its1.toArray) (begins_tuple a its2.toArray) (begins_tuple b its3.toArray) p1.isList p2' p3' (fun h' hz hTI hTO g1 g2 g3 hsz hk => wpAny_pyIter_zip hz ?_)
    have I2 : Inv X pins σ H1 { s1 with heap := h' } := I1.kept (t' := s1.toks) hk
    have S := zip_sep3 (N := s1.heap.objs.size) (fp1 := [l]) (fp2 := [a]) (fp3 := [b]) (fun c hc => by rw [List.mem_singleton.mp hc]; exact ll) (fun c hc => by rw [List.mem_singleton.mp hc]; exact la) (fun c hc => by rw [List.mem_singleton.mp hc]; exact lb)
    refine ⟨s1.heap.objs.size + 5, [s1.heap.objs.size + 5, s1.heap.objs.size + 3, s1.heap.objs.size + 4, s1.heap.objs.size, s1.heap.objs.size + 1, s1.heap.objs.size + 2], _, _, H1, rfl, I2,
      turn_zip3 S (Nat.ne_of_lt ll) (Nat.ne_of_lt (Nat.lt_succ_of_lt la)) (Nat.ne_of_lt (Nat.lt_succ_of_lt (Nat.lt_succ_of_lt lb))), ⟨hz, hTI, ⟨_, _, _, hTO⟩, ⟨_, g1, rfl, rfl⟩, ⟨_, g2, rfl, rfl⟩, ⟨_, g3, rfl, rfl⟩⟩, fun c hc => ?_, q⟩
    have hle : s1.heap.objs.size ≤ c := by
      have e' : c = s1.heap.objs.size + 5 ∨ c = s1.heap.objs.size + 3 ∨ c = s1.heap.objs.size + 4 ∨ c = s1.heap.objs.size ∨ c = s1.heap.objs.size + 1 ∨ c = s1.heap.objs.size + 2 := by simpa using hc
      rcases e' with q | q | q | q | q | q <;> rw [q]
      · exact Nat.le_add_right _ _
      · exact Nat.le_add_right _ _
      · exact Nat.le_add_right _ _
      · exact Nat.le_refl _
      · exact Nat.le_add_right _ _
      · exact Nat.le_add_right _ _
    exact I1.fpOk hle (I1.hok.fresh hle)
/-- a loop over it -/
theorem for_zip3 {K : PySem.W.Frag} {l a b : Addr} {xs ys zs : List V} {g : TG} {tb : TS} {D : Ends} {σ : L2.St} {H : Hp} {n : Nat} (hn : n = min (min xs.length ys.length) zs.length) (Pv : Nat → L2.St → Hp → Prop) (h0 : Pv 0 σ H) (hq : ∀ i σ H, Pv i σ H → SqL K H l xs ∧ SqT K H a ys ∧ SqT K H b zs)
    (hs : ∀ (i : Nat) (x y u : V) (T : Addr) (σ : L2.St) (H : Hp), xs[i]? = some x → ys[i]? = some y → zs[i]? = some u → Pv i σ H → H T = none → g (.ref T) σ (upd H T (.tup [x, y, u])) fun σ2 H2 => tb { D with nx := Pv (i + 1), ct := Pv (i + 1), bk := D.nx } σ2 H2) (hd : ∀ σ H, Pv n σ H → D.nx σ H) :
    ∃ W : Nat → Nat → L2.St → Hp → Prop, (∃ m, W 0 m σ H) ∧ ∀ i m σ H, W i m σ H →
      ((Itz3 K l a b).stop i H ∧ D.nx σ H) ∨ ((Itz3 K l a b).go i H ∧ ∃ N : L2.St → Hp → Prop, (∀ σ' H', N σ' H' → ∃ m', m' < m ∧ W (i + 1) m' σ' H') ∧ ∀ v H', (Itz3 K l a b).yld i H v H' → g v σ H' fun σ2 H2 => tb { D with nx := N, ct := N, bk := D.nx } σ2 H2) := by
  refine ⟨fun i m σ H => m = n - i ∧ i ≤ n ∧ Pv i σ H, ⟨n, rfl, Nat.zero_le _, h0⟩, ?_⟩
  rintro i m σ H ⟨rfl, hi, p⟩
  obtain ⟨qx, qy, qz⟩ := hq i σ H p
  by_cases hlt : i < n
  · have h1 : xs[i]? = some xs[i] := List.getElem?_eq_getElem (by omega)
    have h2 : ys[i]? = some ys[i] := List.getElem?_eq_getElem (by omega)
    have h3 : zs[i]? = some zs[i] := List.getElem?_eq_getElem (by omega)
    refine .inr ⟨⟨xs, ys, zs, _, _, _, qx, qy, qz, h1, h2, h3⟩, Pv (i + 1), fun σ' H' p' => ⟨n - (i + 1), by omega, rfl, hlt, p'⟩, fun v H' y => ?_⟩
    obtain ⟨T, x', y', u', rfl, hT, rfl, f1, f2, f3⟩ := y
    exact hs i x' y' u' T σ H (f1 xs qx) (f2 ys qy) (f3 zs qz) p hT
  · have e : i = n := by omega
    subst e
    exact .inl ⟨⟨xs, ys, zs, qx, qy, qz, hn⟩, hd σ H p⟩
/-- a loop over zip of two tuples of any lengths -/
theorem for_zipTm {K : PySem.W.Frag} {a b : Addr} {xs ys : List V} {g : TG} {tb : TS} {D : Ends} {σ : L2.St} {H : Hp} {n : Nat} (hn : n = min xs.length ys.length) (Pv : Nat → L2.St → Hp → Prop) (h0 : Pv 0 σ H) (hq : ∀ i σ H, Pv i σ H → SqT K H a xs ∧ SqT K H b ys)
    (hs : ∀ (i : Nat) (x y : V) (T : Addr) (σ : L2.St) (H : Hp), xs[i]? = some x → ys[i]? = some y → Pv i σ H → H T = none → g (.ref T) σ (upd H T (.tup [x, y])) fun σ2 H2 => tb { D with nx := Pv (i + 1), ct := Pv (i + 1), bk := D.nx } σ2 H2) (hd : ∀ σ H, Pv n σ H → D.nx σ H) :
    ∃ W : Nat → Nat → L2.St → Hp → Prop, (∃ m, W 0 m σ H) ∧ ∀ i m σ H, W i m σ H →
      ((RZ.ItzT K a b).stop i H ∧ D.nx σ H) ∨ ((RZ.ItzT K a b).go i H ∧ ∃ N : L2.St → Hp → Prop, (∀ σ' H', N σ' H' → ∃ m', m' < m ∧ W (i + 1) m' σ' H') ∧ ∀ v H', (RZ.ItzT K a b).yld i H v H' → g v σ H' fun σ2 H2 => tb { D with nx := N, ct := N, bk := D.nx } σ2 H2) := by
  refine ⟨fun i m σ H => m = n - i ∧ i ≤ n ∧ Pv i σ H, ⟨n, rfl, Nat.zero_le _, h0⟩, ?_⟩
  rintro i m σ H ⟨rfl, hi, p⟩
  obtain ⟨qx, qy⟩ := hq i σ H p
  by_cases hlt : i < n
  · have h1 : xs[i]? = some xs[i] := List.getElem?_eq_getElem (by omega)
    have h2 : ys[i]? = some ys[i] := List.getElem?_eq_getElem (by omega)
    refine .inr ⟨⟨xs, ys, _, _, qx, qy, h1, h2⟩, Pv (i + 1), fun σ' H' p' => ⟨n - (i + 1), by omega, rfl, hlt, p'⟩, fun v H' y => ?_⟩
    obtain ⟨T, x', y', rfl, hT, rfl, f1, f2⟩ := y
    exact hs i x' y' T σ H (f1 xs qx) (f2 ys qy) p hT
  · have e : i = n := by omega
    subst e
    exact .inl ⟨⟨xs, ys, qx, qy, by omega⟩, hd σ H p⟩
end SW

set_option Elab.async false
set_option linter.all false
set_option maxRecDepth 100000
set_option maxHeartbeats 4000000
namespace SW
open PySem PySem.Spec PyProof.Rows L2

/-! ### a try with several clauses, each of which names what it caught -/
abbrev Cls1 := Value × (Addr → Value → Option Addr → TS)
def wAsL (K : PySem.W.Frag) (i : Nat) (Wout : WX) (D : Ends) : List Cls1 → WX
  | [] => Wout
  | cl :: rest => wAs K cl.1 i cl.2 (wAsL K i Wout D rest) D
inductive AsOk (X : Cx) (nm : Str) : List ExceptHandler → List Cls1 → Prop
  | none : AsOk X nm [] []
  | some {y : Str} {cv : Value} {tsu : Addr → Value → Option Addr → TS} {st : Stmt} {sts : List Stmt} {q1 q2 : Pos} {more : List ExceptHandler} {ls : List Cls1}
      (known : Names X y cv)
      (body : ∀ (b : Addr) (ob : Obj) (k : Value) (dd : Option Addr) (pl : List (Addr × Obj)),
        Zc k dd ob → (∃ w, ob.data = .fields w) → PSs (X.suite b ((b, ob) :: pl)) (st :: sts) (tsu b k dd))
      (tail : AsOk X nm more ls) :
      AsOk X nm (.ExceptHandler (some (.Name y q1)) (some nm) (st :: sts) q2 :: more) ((cv, tsu) :: ls)

section
variable {X : Cx} {nm : Str} {i : Nat} {Wout : WX} {D : Ends} {pins : List (Addr × Obj)} {σ : L2.St} {H : Hp}
  {sB : Shared} {s1 : Shared} {B h3 : Heap} {a : Addr} {cls : Value} {d : Option Addr}

/-- what is known of an exception that has landed in the frame of the try -/
structure Down (X : Cx) (pins : List (Addr × Obj)) (σ : L2.St) (H : Hp) (B : Heap) (sB s1 : Shared) (a : Addr) (cls : Value) (d : Option Addr) (h3 : Heap) : Prop where
  inv : Inv X pins σ H sB
  old : ∀ b o, sB.heap.get? b = some o → b ∉ frs X.stack → B.get? b = some o
  up : sB.heap.UpToSlots h3
  free : H a = none
  os : s1.os = sB.os
  bare : AllBare s1.gens
  fly : HandSPX.FlyingZ B (X.env :: X.outer) a (Zc cls d) h3

theorem Down.at_ (w : Down X pins σ H B sB s1 a cls d h3) : Inv X pins σ H { s1 with heap := h3 } :=
  w.inv.landed (s' := { s1 with heap := h3 }) w.old w.fly.1 w.up w.os w.bare
theorem Down.notFrame (w : Down X pins σ H B sB s1 a cls d h3) : a ∉ frs (X.env :: X.outer) := by
  intro hm
  obtain ⟨ob, vv, p1, _, p3⟩ := w.fly.there
  obtain ⟨_, o2, p4, p5⟩ := (w.fly.2.2.1).mem hm
  rw [p1] at p4
  cases p4
  exact p5 _ p3
theorem Down.notLocals (w : Down X pins σ H B sB s1 a cls d h3) (hf : X.env.frame = some X.env.locals) : a ≠ X.env.locals :=
  fun z => w.notFrame (List.mem_filterMap.mpr ⟨X.env, List.mem_cons_self, z ▸ hf⟩)
theorem Down.notFs (w : Down X pins σ H B sB s1 a cls d h3) : a ∉ X.fs := fun hm => by
  obtain ⟨en, p1, p2⟩ := List.mem_filterMap.mp hm
  exact w.notFrame (List.mem_filterMap.mpr ⟨en, List.mem_cons_of_mem _ p1, p2⟩)

theorem Down.clauses (hs : X.stack = X.env :: X.outer) (hf : X.env.frame = some X.env.locals) (hN : X.N.Nodup) (hi : X.N[i]? = some nm) (hln : X.env.kindOf nm = some .local)
    (tk : Takes X Wout) {hl : List ExceptHandler} {ls : List Cls1} (ok : AsOk X nm hl ls) (w : Down X pins σ H B sB s1 a cls d h3) (wish : wAsL X.K i Wout D ls cls d σ H) :
    wpAny (model X.prog X.w) X.A (handleBy (.ref a) X.env hl) (SP X pins D) X.xe { s1 with heap := h3 } := by
  have okX := w.inv.ok
  induction ok with
  | none =>
    refine wpAny_handleBy_nil ?_
    obtain ⟨_, _, _, ob, vv, T, _, _, p1, _, p3, p4, _⟩ := id w.fly
    unfold PySem.passOn
    refine wpAny_bind (wpAny_field p1 p3 p4 ?_)
    rw [if_neg (by simp : ¬ ((Value.ref T == Value.none) = true))]
    have last : wpAny (model X.prog X.w) X.A (setFlight (.ref a) X.env.frame)
        (fun _ s4 => wpAny (model X.prog X.w) X.A (throw (.ref a) : Sem Flow) (SP X pins D) X.xe s4) X.xe { s1 with heap := h3 } := by
      rw [hf]
      refine HandSPX.setFlight_upZ w.fly fun hx held more => wpAny_throw (tk _ _ ?_)
      exact ⟨a, B, sB, pins, σ, H, cls, d, rfl, w.inv, w.old, w.up.trans more, .inr (.inr (hs ▸ held)), w.free, w.os, w.bare, wish⟩
    first
    | exact wpAny_bind last
    | exact wpAny_bind (wpAny_pure (wpAny_bind last))
  | @some y cv tsu st sts q1 q2 more ls known body tail ih =>
    obtain ⟨yes, hit, onYes, onNo⟩ := wish
    obtain ⟨ob, vv, p1, p2, p3⟩ := w.fly.there
    have S := w.at_.suite p1 p3 w.free (w.notLocals hf) w.notFs
    refine wpAny_handleBy_cons (codeAny_handlers_test ?_) (fun q => nomatch q)
    have typ : PySem.W.Looks (model X.prog X.w) h3 (typeOf (.ref a)) cls :=
      fun _ _ _ _ k q => wpAny_typeOf_ref (k _ _ p1) (by rw [p2.1]; exact q)
    have meets := PySem.W.exm_one (M := model X.prog X.w) w.at_.kIn typ hit
    have name : ∀ {Q : Value → Shared → Prop} {E : Value → Shared → Prop}, Q cv { s1 with heap := h3 } →
        wpAny (model X.prog X.w) (X.A.mark (some (.ref a))) (eval (.Name y q1) X.env) Q E { s1 with heap := h3 } := by
      intro Q E q
      obtain ⟨g1, g2, g3⟩ := known
      rcases g3 with g3 | ⟨g3, g4, g5⟩
      · exact ld_glob (X := X.suite a ((a, ob) :: (X.pn ++ pins))) S g1 g3 q g2
      · exact ld_blt (X := X.suite a ((a, ob) :: (X.pn ++ pins))) S g1 g3 g4 q g5 g2
    refine name (meets.here ?_)
    cases yes with
    | false => exact ih (onNo rfl)
    | true =>
      refine codeAny_handlers_suite_as (HandSPX.lands_againZ w.fly fun h4 fl4 up4 => ?_)
      have w4 : Down X pins σ H B sB s1 a cls d h4 := { w with up := w.up.trans up4, fly := fl4 }
      obtain ⟨o4, v4, r1, r2, r3⟩ := fl4.there
      have S4 := w4.at_.suite r1 r3 w.free (w.notLocals hf) w.notFs
      refine store_ok (X := X.suite a ((a, o4) :: (X.pn ++ pins))) (v := .ref a) S4 hN hi (Or.inl hln) rfl (fun s5 S5 => ?_) (.inr hln)
      have run := (body a o4 cls d (X.pn ++ pins) r2 ⟨_, r3⟩).run [] s5 _ H _ S5 (onYes rfl a w.free)
      have after : ∀ {τ : L2.St} {G : Hp} {Q : Shared → Prop} {s6 : Shared}, Inv (X.suite a ((a, o4) :: (X.pn ++ pins))) [] τ G s6 →
          (∀ s7, Inv X pins (τ.set i none) G s7 → Q s7) →
          wpAny (model X.prog X.w) X.A (do bindName X.env nm .none; unbindBehindTheSuite X.env nm q2) (fun _ s7 => Q s7) X.xe s6 :=
        fun S6 hq => gone_ok (S6.unsuite okX) hN hi hln hq
      refine wpAny_mono run (fun f s6 out => ?_) (fun _ _ z => z.elim)
      cases f with
      | ret u =>
        obtain ⟨v6, τ, G, S6, r6, q6⟩ := out
        exact after S6 fun s7 J => ⟨_, _, _, J, r6, q6⟩
      | next =>
        obtain ⟨τ, G, S6, q6⟩ := out
        exact after S6 fun s7 J => ⟨_, _, J, q6⟩
      | brk =>
        obtain ⟨τ, G, S6, q6⟩ := out
        exact after S6 fun s7 J => ⟨_, _, J, q6⟩
      | cont =>
        obtain ⟨τ, G, S6, q6⟩ := out
        exact after S6 fun s7 J => ⟨_, _, J, q6⟩
end

section
variable {X : Cx} {nm : Str} {i : Nat} {Wout : WX} {body : List Stmt} {hd0 : ExceptHandler} {hl : List ExceptHandler} {ls : List Cls1} {pos : Pos} {tb : WX → TS}
/-- try: body / except A as e: .. / except B as e: .. -/
theorem ps_try_asL (hs : X.stack = X.env :: X.outer) (hf : X.env.frame = some X.env.locals) (hN : X.N.Nodup) (hi : X.N[i]? = some nm) (hln : X.env.kindOf nm = some .local) (tk : Takes X Wout)
    (hb : ∀ (W : WX) (pl : List (Addr × Obj)) (xe : Value → Shared → Prop), Takes (X.tr pl xe) W → PassesOwn (model X.prog X.w) X.A X.env xe → PSs (X.tr pl xe) body (tb W))
    (ok : AsOk X nm (hd0 :: hl) ls) : PS X (.Try body (hd0 :: hl) [] [] pos) (fun D σ H => tb (wAsL X.K i Wout D ls) D σ H) := by
  refine ⟨fun pins s σ H D I h => wpAny_Try_except ?_⟩
  have okX := I.ok
  have here : X.A.frames = some (X.env :: X.outer) := okX.frames.trans (congrArg some hs)
  have inner := (hb (wAsL X.K i Wout D ls) (X.pn ++ pins)
    (fun e s₁ => wpAny (model X.prog X.w) X.A (noteFrame e X.env) (fun _ s₂ => wpAny (model X.prog X.w) X.A (setFlight e none)
      (fun _ s₃ => wpAny (model X.prog X.w) X.A (handleBy e X.env (hd0 :: hl)) (SP X pins D) X.xe s₃) X.xe s₂) X.xe s₁)
    (fun u s' caught => ?_) PassesOwn.looking).run [] s σ H D (I.toTry _) h
  · refine wpAny_mono inner (fun f s1 out => ?_) (fun _ _ z => z)
    cases f with
    | ret u =>
      obtain ⟨v, τ, G, J, r, q⟩ := out
      exact ⟨v, τ, G, J.ofTry okX, r, q⟩
    | next =>
      obtain ⟨τ, G, J, q⟩ := out
      exact wpAny_execs_nil ⟨τ, G, J.ofTry okX, q⟩
    | brk =>
      obtain ⟨τ, G, J, q⟩ := out
      exact ⟨τ, G, J.ofTry okX, q⟩
    | cont =>
      obtain ⟨τ, G, J, q⟩ := out
      exact ⟨τ, G, J.ofTry okX, q⟩
  · obtain ⟨a, B, sB, _, τ, G, cls, d, rfl, J, old, up, sky, free, os, bare, wish⟩ := caught
    have sky2 : Sky B (X.env :: X.outer) a (Zc cls d) X.env.locals s'.heap := hs ▸ sky
    show wpAny (model X.prog X.w) X.A (noteFrame (.ref a) X.env) _ _ _
    refine Sky.land Zc.steady here hf sky2 fun h3 fly more => ?_
    exact Down.clauses hs hf hN hi hln tk ok ⟨J.ofTry okX, old, up.trans more, free, os, bare, fly⟩ wish
end
end SW

set_option Elab.async false
set_option linter.all false
set_option maxRecDepth 100000
set_option maxHeartbeats 4000000
namespace PySem.W
open PySem PySem.Spec PySem.Calls PyProof.Rows Builtin Builtin.ObjectAttr Builtin.Getset_descriptor
/-! ### e.__class__ of an exception, C.__name__ of a class of the program -/
/-- the class object at C keeps its name's own text -/
def nameIn (K : Frag) (C : Addr) (n : Str) : Bool := match K.lookup C with
  | some ⟨_, _, Data.cls _, sl⟩ => (match (sl[2]?).join with | some (Value.str m _) => m == n | _ => false)
  | _ => false
section
variable {prog : Program} {w : World} {A : Around} {E : Value → Shared → Prop} {s : Shared} {K : Frag} {x C : Addr} {ox : Obj}
theorem name_slot {h : Heap} {n : Str} (X : K.In h) (q : nameIn K C n = true) : ∃ ob tk, h.get? C = some ob ∧ (ob.slots[2]?).join = some (.str n tk) := by
  unfold nameIn at q
  split at q
  · rename_i c0 d0 cd sl ho
    split at q
    · rename_i m tk hs
      rw [beq_iff_eq] at q
      exact ⟨_, tk, X _ _ ho, q ▸ hs⟩
    · cases q
  · cases q
theorem name_get {R : Result → Shared → Prop} {n : Str} {tp : Value} (X : K.In s.heap) (ty : typeIn K (.ref C) = some (.type "type")) (q : nameIn K C n = true)
    (h : ∀ tk, R (.ok (.ret (.str n tk))) s) : codeAny (model prog w) A (.call (.builtin "getset_descriptor.__get__") ⟨[.builtin "type.__name__", .ref C, tp], []⟩) R s := by
  obtain ⟨ob, tk, hC, hs⟩ := name_slot X q
  have LT : Looks (model prog w) s.heap (typeOf (.ref C)) (.type "type") := looks_typeIn X ty
  have LS : Looks (model prog w) s.heap (isSubtype (.type "type") (.type "type")) true := Looks.of_pure (by rw [isSubtype_type]; kernel_rfl)
  obtain ⟨hh, g, dr, t, os⟩ := s
  refine codeAny_call_builtin KF.slot_gs.plain KF.entry_gs
    (KF.slot_gs.check _ _ _ _ _ _ _ _ ktyn_type (KF.args_gs _ _ _) ?_)
  unfold Builtin.«getset_descriptor.__get__»
  unfold descrGet
  have args : descrGetArgs ⟨[Value.builtin "type.__name__", .ref C, tp], []⟩ = pure (.builtin "type.__name__", some (.ref C), given tp) := by kernel_rfl
  rw [args]
  refine wpAny_bind (wpAny_pure ?_)
  unfold descrGetter descrCheckInstance
  unfold descrNameAndClass isInstance
  simp only [ktyn_owner]
  repeat lk
  refine ⟨Code.quiet_builtin _ (by decide +kernel),
    codeAny_builtin ktyn_entry ?_⟩
  unfold Builtin.«type.__name__»
  show wpAny _ _ (keptObject (.ref C) 2 "__name__" _) _ _ _
  unfold keptObject slotAt
  refine wpAny_bind (wpAny_bind (wpAny_loadPart hC (wpAny_pure ?_)))
  rw [hs]
  exact wpAny_pure (h tk)
/-- C.__name__ -/
theorem name_attr {n : Str} {expr : Bool} {Q : Value → Shared → Prop} (X : K.In s.heap) (rd : readsIn K C (.type "type") = true) (ty : typeIn K (.ref C) = some (.type "type")) (q : nameIn K C n = true)
    (f : findCls K (.ref C) (.type "type") "__name__" = some (.get (.builtin "getset_descriptor.__get__") (.builtin "type.__name__") (.ref C) (.type "type")))
    (h : ∀ tk u, Q (.str n tk) { s with toks := u }) : wpAny (model prog w) A (getAttr (.ref C) "__name__" expr) Q E s :=
  cls_bind X rd f (wpAny_call (name_get (s := { s with toks := s.toks + 1 }) X ty q fun tk => handed_on rfl (h tk _)))
/-- x.__class__, x an exception of the class at C -/
theorem class_attr {od : Option Obj} {expr : Bool} {Q : Value → Shared → Prop} (X : K.In s.heap) (I : InstAt s.heap x ox C od)
    (hga : findIn K (.ref C) "__getattribute__" = some (some (.builtin "BaseException.__getattribute__"))) (hgt : findIn K (.ref C) "__getattr__" = some none)
    (hsub : subIn K (.ref C) (.type "BaseException") = some true) (hf : findObj K C od "__class__" = some (.bind (.builtin "getset_descriptor.__get__") (.builtin "object.__class__")))
    (hm : mroIn K C (.type "object") = some true) (h : Q (.ref C) { s with toks := s.toks + 1 }) : wpAny (model prog w) A (getAttr (.ref x) "__class__" expr) Q E s := by
  obtain ⟨hp, gs, dr, tk, os⟩ := s
  have typ := I.type (M := model prog w)
  have lGa := looks_findIn (M := model prog w) X hga
  have lGt := looks_findIn (M := model prog w) X hgt
  have lFind := looks_find (M := model prog w) X I hf
  have isE : Looks (model prog w) hp (isInstance (.ref x) (.type "BaseException")) true := typ.andThen (looks_subIn X hsub)
  have ne1 : (Value.builtin "BaseException.__getattribute__" == Value.builtin "object.__getattribute__") = false := by decide +kernel
  unfold getAttr getAttrBy
  refine wpAny_bind (wpAny_mkText (wpAny_holding
    (wpAny_bind (typ.at (wpAny_bind (lGa.at ?_))))))
  have ne2 : (onTheHeap (Value.ref C) && Value.builtin "BaseException.__getattribute__" == Value.builtin "object.__getattribute__") = false := by rw [ne1, Bool.and_false]
  dsimp only
  rw [ne2, if_neg (by decide)]
  unfold getAttrByItsOwn hookBefore
  refine wpAny_bind ?_
  have onH : onTheHeap (Value.ref C) = true := rfl
  rw [if_pos onH]
  refine lGt.at (wpAny_bind (wpAny_attempt (wpAny_holding ?_)))
  unfold callGetattribute
  have ne3 : (expr && onTheHeap (Value.builtin "BaseException.__getattribute__")) = false := by cases expr <;> rfl
  rw [ne3, if_neg (by decide)]
  unfold boundAndCalled
  rw [PySem.F.excAttr_ValueError.ga.bind (Value.ref x)]
  refine wpAny_bind (wpAny_pure (wpAny_call ?_))
  refine codeAny_call_builtin PySem.F.excAttr_ValueError.ga.plain PySem.F.entry_bexc_ga (@check_slot (model prog w) _ _ ⟨hp, gs, dr, tk + 1, os⟩
    "BaseException.__getattribute__" "BaseException" "__getattribute__" (.ref x) [.str "__class__" tk] [] _ (by decide +kernel) (by decide +kernel) isE
    (PySem.F.args_bexc_ga (.ref x) (.str "__class__" tk)) ?_)
  unfold Builtin.«object.__getattribute__»
  refine wpAny_bind (wpAny_of_eq (a := ((.ref x : Value), [(.str "__class__" tk : Value)]))
    (by first | rfl | (simp only [slotArgs]; rfl)) (wpAny_bind (wpAny_pure (wpAny_bind (typ.at (wpAny_bind (lFind.at ?_)))))))
  show wpAny _ _ (holding [Value.builtin "object.__class__"] (call (.builtin "getset_descriptor.__get__") [.builtin "object.__class__", .ref x, .ref C]) >>= ret) _ _ _
  refine wpAny_bind (wpAny_holding (wpAny_call (class_get (s := ⟨hp, gs, dr, tk + 1, os⟩) X I hm (wpAny_pure ?_))))
  exact handed_on rfl h
end
end PySem.W

set_option Elab.async false
set_option linter.all false
set_option maxRecDepth 100000
set_option maxHeartbeats 4000000
namespace SW
open PySem PySem.Spec PyProof.Rows L2

/-- what the class at C must say for its new instances' own class and for its name -/
structure ClsN (K : PySem.W.Frag) (C : Addr) (n : Str) : Prop where
  rd : PySem.W.readsIn K C (.type "type") = true
  ty : PySem.W.typeIn K (.ref C) = some (.type "type")
  nm : PySem.W.nameIn K C n = true
  fd : PySem.W.findCls K (.ref C) (.type "type") "__name__" = some (.get (.builtin "getset_descriptor.__get__") (.builtin "type.__name__") (.ref C) (.type "type"))
  ga : PySem.W.findIn K (.ref C) "__getattribute__" = some (some (.builtin "BaseException.__getattribute__"))
  gt : PySem.W.findIn K (.ref C) "__getattr__" = some none
  ex : PySem.W.subIn K (.ref C) (.type "BaseException") = some true
  ob : PySem.W.findObj K C none "__class__" = some (.bind (.builtin "getset_descriptor.__get__") (.builtin "object.__class__"))
  mr : PySem.W.mroIn K C (.type "object") = some true

/-- e.__class__.__name__, e an exception that is being made, nothing of it stored yet -/
def tNameOf (K : PySem.W.Frag) (te : TE) : TE := fun σ H Q => te σ H fun x H1 => ∃ a C n, x = .ref a ∧ H1 a = some (exo a C none) ∧ ClsN K C n ∧ Q (.str n) H1
section
variable {X : Cx} {e : Expr} {te : TE} {p1 p2 : Pos}
theorem pe_nameof (he : PE X e te) (hb : attributeBase e "__class__" X.env (eval e X.env) = eval e X.env := by rfl)
    (hb2 : attributeBase (.Attribute e "__class__" p1) "__name__" X.env (eval (.Attribute e "__class__" p1) X.env) = eval (.Attribute e "__class__" p1) X.env := by rfl) :
    PE X (.Attribute (.Attribute e "__class__" p1) "__name__" p2) (tNameOf X.K te) := by
  refine ⟨fun pins s σ H Q I h => attr_of hb2 (attr_of hb (thn (he.run pins s σ H _ I h) fun u s1 hh => ?_))⟩
  obtain ⟨x, H1, I1, rx, a, C, n, ex, ea, c, q⟩ := hh
  subst ex
  obtain rfl : u = Value.ref a := rx
  obtain ⟨t1, ho⟩ := exo_at I1.hok ea
  have J : PySem.W.InstAt s1.heap a { cls := .ref C, dict := none, data := .fields #[.ref t1, .none, .none, .none, .bool false, .none] } C none := ⟨ho, rfl, rfl, trivial⟩
  refine PySem.W.class_attr I1.kIn J c.ga c.gt c.ex c.ob c.mr ?_
  have I2 : Inv X pins σ H1 { s1 with toks := s1.toks + 1 } := I1.tok _
  exact PySem.W.name_attr I2.kIn c.rd c.ty c.nm c.fd fun tk u => ⟨.str n, H1, I2.tok u, ⟨tk, rfl⟩, q⟩
end

/-! ### B.m(e, ..): a def read off a class -/
section
variable {X : Cx} {CX : CXT} {k : Nat} {f B : Addr} {fd : FuncData} {ps : List Str} {sp : Sp} {dvs : List V} {ds : List Value} {E : XK} {x m : Str} {p apos pos : Pos} {e : Expr} {es : List Expr} {t : TA} {pl : Sem Bool}
theorem pe_clsfn (F : FnOk X.prog X.w X.K X.mg X.base CX k f fd ps sp) (hr : Room k X.A) (hg : Gl X x) (hm : X.mg x = some (.ref B)) (hk : PySem.W.keepIn X.K (.ref f) = true) (hb : Binds X.K fd ps ds) (hd : Vals dvs ds) (hx : Passes CX X E)
    (rd : PySem.W.readsIn X.K B (.type "type") = true) (sg : PySem.W.specialIn X.K (.ref B) "__getattribute__" = some (some (.builtin "type.__getattribute__")))
    (ff : PySem.W.findCls X.K (.ref B) (.type "type") m = some (.val (.ref f)))
    (ha : PA X (e :: es) t) (hdb : (x == ("__debug__" : Str)) = false := by decide) (he : starEach (e :: es) X.env = (false, eval e X.env) :: starEach es X.env := by rfl)
    (hpl : (backTo pos (starEach es X.env)).any (·.1) = false := by rfl)
    (hc : eval (.Call (.Attribute (.Name x p) m apos) (e :: es) [] pos) X.env = (do
      let ov ← eval (.Name x p) X.env
      standAt apos.atName
      let (f, first) ← holding [ov] (getMethod ov m pl)
      callWith pos f first (backTo pos (starEach (e :: es) X.env)) (backToKw pos (keywordEach [] X.env))) := by rfl) :
    PE X (.Call (.Attribute (.Name x p) m apos) (e :: es) [] pos) (tCall sp dvs E t) := by
  refine ⟨fun pins s σ H Q I h => ?_⟩
  refine PySem.W.methodCall_KW (ld_glob I hg hm ?_ hdb) hc
  refine PySem.W.method_cls I.kIn sg (PySem.W.cls_value I.kIn rd ff rfl ?_)
  have I0 : Inv X pins σ H { s with toks := s.toks + 1 } := I.tok _
  refine PySem.W.callWith_K (h₀ := X.base) I0.ok.mod.kin hk (thn (ha.run pos pins _ σ H _ I0 h) fun us s1 got => ?_) he hpl
  obtain ⟨vs, H1, I1, r, q⟩ := got
  exact ⟨I1.kIn, run_fn F hr hb hd hx I1 r q⟩
end
end SW

set_option Elab.async false
set_option linter.all false
set_option maxRecDepth 100000
set_option maxHeartbeats 4000000
namespace SW
open PySem PySem.Spec PyProof.Rows L2 L2H

/-! ### defs that are handed a caught exception, called in the suite that holds it -/
structure FnW (P : Program) (w : World) (K : PySem.W.Frag) (mg : Str → Option Value) (base : Heap) (k : Nat) (f : Addr) (fd : FuncData) (ps : List Str) (sp : Addr × Obj → List V → Hp → VK → Prop) : Prop where
  len : ∀ p vs H Q, sp p vs H Q → vs.length = ps.length
  run : ∀ (A : Around) (outer : List Env) (s : Shared) (H : Hp) (args : Args) (us : List Value) (vs : List V) (Q : VK) (p : Addr × Obj),
    RoomH k A → PinOk outer H s p → Env0 P w K mg base A outer s H → BindsTo s fd args (ps.zip us) → Vals vs us → sp p vs H Q →
      codeAny (model P w) A (.call (.ref f) args) (CR C8.CX0 outer P w H s Q C8.E0) s

theorem fn_ofW {P : Program} {w : World} {K : PySem.W.Frag} {mg : Str → Option Value} {base : Heap} {k : Nat} {f : Addr} {name qual : Str} {params : Arguments} {body : List Stmt} {scope : Scope}
    {dV kV doc pm cdv ct oc : Value} {an od : Option Addr} {osl : Array (Option Value)} {N ps : List Str} {sp : Addr × Obj → List V → Hp → VK → Prop}
    (lk : K.lookup f = some ⟨oc, od, .func (PySem.W.fnOf name qual params body scope dV kV doc pm an cdv ct), osl⟩) (hcd : PySem.W.codeIn K cdv qual = true) (S : FnScope N ps scope)
    (len : ∀ p vs H Q, sp p vs H Q → vs.length = ps.length)
    (hbody : ∀ (A : Around) (outer : List Env) (s : Shared) (H : Hp) (vs : List V) (Q : VK) (p : Addr × Obj), RoomH k (A.deeper (envOfC qual scope s.heap.objs.size f cdv)) → sp p vs H Q →
      ∃ t, PSs (cxH C8.CX0 P w K mg base N qual scope f cdv A outer s H C8.E0 p) body t ∧ t { nx := fun _ H' => Q .non H', rt := Q } (L2.start N vs) H) :
    FnW P w K mg base (k + 1) f (PySem.W.fnOf name qual params body scope dV kV doc pm an cdv ct) ps sp := by
  constructor
  · exact len
  intro A outer s H args us vs Q p room pinned e0 binds rel wish
  have size := len _ _ _ _ wish
  have kin : K.In s.heap := e0.mod.kin.keeps (fun b o e => (e0.bs b o e).1)
  have free : s.heap.NoLimit := e0.mod.nolimit.keeps (fun b o e => (e0.bs b o e).1)
  refine codeAny_call_function room.depth (kin _ _ lk) rfl S.co S.gen rfl (PySem.W.codeRec_of kin hcd) (binds _ _ _ _ ?_)
  refine wpAny_newFunctionEnv_cells S.kind (fun ⟨y, v⟩ hy => ?_) (fun env he s1 made => ?_)
  · rcases S.par y (List.of_mem_zip hy).1 with q | q
    · exact Or.inl q
    · exact Or.inr ⟨q, PySem.W.cellsFrom_some _ _ _ (Or.inl q)⟩
  subst he
  obtain ⟨t, good, asked⟩ := hbody A outer s H vs Q p (room.deeper _) wish
  have I0 := inv_startH (CX := C8.CX0) (f := f) (cd := cdv) (qual := qual) (E := C8.E0) S pinned e0 size rel made
  refine ⟨free.keeps made.toInCall.keep, codeAny_func (wpAny_mono (good.run [] s1 _ H _ I0 asked) (fun fl s' out => ?_) (fun _ _ z => z))⟩
  cases fl with
  | ret u =>
    obtain ⟨v, τ, G, J, rv, q⟩ := out
    exact ⟨v, G, J.os, J.bare, J.base, J.hok, rv, q⟩
  | next =>
    obtain ⟨τ, G, J, q⟩ := out
    exact ⟨V.non, G, J.os, J.bare, J.base, J.hok, rfl, q⟩
  | brk => exact out.elim fun _ z => z.elim fun _ z => z.2.elim
  | cont => exact out.elim fun _ z => z.elim fun _ z => z.2.elim

section
variable {X : Cx} {k : Nat} {f a : Addr} {oe : Obj} {fd : FuncData} {ps : List Str} {sp : Addr × Obj → List V → Hp → VK → Prop} {x : Str} {q pos : Pos} {e : Expr} {es : List Expr} {t : TA}
/-- f(e, ..) in the suite that holds the exception at a -/
theorem pe_callW {sp2 : List V → Hp → VK → Prop} (imp : ∀ vs H Q, sp2 vs H Q → sp (a, oe) vs H Q) (hp : (a, oe) ∈ X.pn) (F : FnW X.prog X.w X.K X.mg X.base k f fd ps sp) (hr : RoomH k X.A) (hg : Gl X x) (hm : X.mg x = some (.ref f)) (hk : PySem.W.keepIn X.K (.ref f) = true) (hb : Binds X.K fd ps [])
    (ha : PA X (e :: es) t) (hdb : (x == ("__debug__" : Str)) = false := by decide) (he : starEach (e :: es) X.env = (false, eval e X.env) :: starEach es X.env := by rfl)
    (hpl : (backTo pos (starEach es X.env)).any (·.1) = false := by rfl) :
    PE X (.Call (.Name x q) (e :: es) [] pos) (fun σ H Q => t σ H fun vs H1 => sp2 vs H1 Q) := by
  refine ⟨fun pins s σ H Q I h => wpAny_Call_Name_kw (ld_glob I hg hm ?_ hdb)⟩
  refine PySem.W.callWith_K (h₀ := X.base) I.ok.mod.kin hk (thn (ha.run pos pins s σ H _ I h) fun us s1 got => ?_) he hpl
  obtain ⟨vs, H1, I1, rel, wish2⟩ := got
  have wish := imp _ _ _ wish2
  refine ⟨I1.kIn, ?_⟩
  have size : us.length = ps.length := rel.length.symm.trans (F.len _ _ _ _ wish)
  have binds := hb s1 us I1.kIn (by simpa using size)
  rw [List.append_nil] at binds
  obtain ⟨g1, g2, g3, g4, g5⟩ := I1.pin (a, oe) (List.mem_append_left _ hp)
  have pinned : PinOk X.stack H1 s1 (a, oe) := ⟨g1, g2, fun hm => (List.mem_cons.mp (I1.stkSub a hm)).elim g3 g4, g5⟩
  refine wpAny_call (codeAny_mono (F.run X.A X.stack s1 H1 ⟨us, []⟩ us vs Q (a, oe) hr pinned I1.env0 binds rel wish) (fun r s2 out => ?_))
  match r, out with
  | .error _, out => exact out.elim
  | .ok (.ret u), out => exact I1.after out
  | .ok .next, out => exact out.elim
  | .ok .brk, out => exact out.elim
  | .ok .cont, out => exact out.elim

/-- e.n, the exception at a pinned, its class and dict told by the reading -/
theorem pe_xfQ {cls : Value} {d : Option Addr} {te : TE} {n : Str} (hp : (a, oe) ∈ X.pn) (hz : Zc cls d oe) (hf : ∃ vs, oe.data = .fields vs)
    (he : PE X e te) (hb : attributeBase e n X.env (eval e X.env) = eval e X.env := by rfl) :
    PE X (.Attribute e n pos) (fun σ H Q => te σ H fun x H1 => x = .ref a ∧ ∃ (C dd : Addr) (fs : List (Str × V)) (v : V), cls = .ref C ∧ d = some dd ∧ XfC X.K C ∧ PySem.W.findIn X.K (.ref C) n = some none ∧ H1 dd = some (.xd fs) ∧ fs.lookup n = some v ∧ Q v H1) := by
  refine ⟨fun pins s σ H Q I h => attr_of hb (thn (he.run pins s σ H _ I h) fun u s1 got => ?_)⟩
  obtain ⟨x, H1, I1, rx, ex, C, dd, fs, v, ec, ed, T, hno, ea, l, q⟩ := got
  subst ex
  subst ec
  subst ed
  obtain rfl : u = Value.ref a := rx
  obtain ⟨here, _⟩ := I1.pin (a, oe) (List.mem_append_left _ hp)
  obtain ⟨ws, hd⟩ := hf
  have known : ObjOk X.prog X.w H1 s1.heap dd (.xd fs) := I1.hok dd _ ea
  obtain ⟨mA, ns, rl⟩ := known
  obtain ⟨od, ho, hl⟩ := lookIn_ns ns
  obtain ⟨u2, hu, ru⟩ := RelO.some_of (v := v) (o := mA n) (l ▸ rl n)
  have nc : PySem.W.notCls oe := by unfold PySem.W.notCls; rw [hd] <;> rfl
  have J : PySem.W.InstAt s1.heap a oe C (some od) := ⟨here, hz.1, nc, hz.2.symm ▸ ho⟩
  exact HandSPX.exc_get I1.kIn J T.ga T.gg T.exC (PySem.W.findObj_own T.hdC hno rfl (by rw [hl, hu])) (handed_of ru) ⟨v, H1, I1.tok _, ru, q⟩
/-- e.n, the exception at a pinned, its dict at dd -/
theorem pe_xfP {C dd : Addr} {te : TE} {n : Str} (hp : (a, oe) ∈ X.pn) (T : XfC X.K C) (hno : PySem.W.findIn X.K (.ref C) n = some none) (hz : Zc (.ref C) (some dd) oe) (hf : ∃ vs, oe.data = .fields vs)
    (he : PE X e te) (hb : attributeBase e n X.env (eval e X.env) = eval e X.env := by rfl) :
    PE X (.Attribute e n pos) (fun σ H Q => te σ H fun x H1 => x = .ref a ∧ ∃ (fs : List (Str × V)) (v : V), H1 dd = some (.xd fs) ∧ fs.lookup n = some v ∧ Q v H1) := by
  refine ⟨fun pins s σ H Q I h => attr_of hb (thn (he.run pins s σ H _ I h) fun u s1 got => ?_)⟩
  obtain ⟨x, H1, I1, rx, ex, fs, v, ea, l, q⟩ := got
  subst ex
  obtain rfl : u = Value.ref a := rx
  obtain ⟨here, _⟩ := I1.pin (a, oe) (List.mem_append_left _ hp)
  obtain ⟨ws, hd⟩ := hf
  have known : ObjOk X.prog X.w H1 s1.heap dd (.xd fs) := I1.hok dd _ ea
  obtain ⟨mA, ns, rl⟩ := known
  obtain ⟨od, ho, hl⟩ := lookIn_ns ns
  obtain ⟨u2, hu, ru⟩ := RelO.some_of (v := v) (o := mA n) (l ▸ rl n)
  have nc : PySem.W.notCls oe := by unfold PySem.W.notCls; rw [hd] <;> rfl
  have J : PySem.W.InstAt s1.heap a oe C (some od) := ⟨here, hz.1, nc, hz.2.symm ▸ ho⟩
  exact HandSPX.exc_get I1.kIn J T.ga T.gg T.exC (PySem.W.findObj_own T.hdC hno rfl (by rw [hl, hu])) (handed_of ru) ⟨v, H1, I1.tok _, ru, q⟩
end
end SW

set_option Elab.async false
set_option linter.all false
set_option maxRecDepth 100000
set_option maxHeartbeats 4000000
namespace SW
open PySem PySem.Spec PyProof.Rows L2
/-- the j-th row of a class's suite -/
def inCls (st : Stmt) (j : Nat) : Stmt := match st with
  | .ClassDef (body := b) .. => b.getD j (.Pass ⟨0, 0, 0, 0⟩)
  | _ => .Pass ⟨0, 0, 0, 0⟩
/-- an own error class of one field: its name n, the field's name -/
structure Er (K : PySem.W.Frag) (C : Addr) (n fld : Str) : Prop where
  cls : ClsN K C n
  oex : OexC K C
  code : PySem.W.findIn K (.ref C) "code" = some none
  msg : PySem.W.findIn K (.ref C) "message" = some none
  fld_ : PySem.W.findIn K (.ref C) fld = some none
/-- the base class at B of the name b: its __init__ with one default -/
structure Bas (K : PySem.W.Frag) (mg : Str → Option Value) (b : Str) (B : Addr) (qual : Str) (st : Stmt) (df : Str) : Prop where
  ex : ∃ f fd, FunD K "__init__" qual (defArgs st) (defBody st) (defScope st) [.str df] [] f fd ∧ PySem.W.findCls K (.ref B) (.type "type") "__init__" = some (.val (.ref f)) ∧ Binds K fd ["self", "message"] []
  at_ : mg b = some (.ref B)
  rd : PySem.W.readsIn K B (.type "type") = true
  sg : PySem.W.specialIn K (.ref B) "__getattribute__" = some (some (.builtin "type.__getattribute__"))
/-- what the base's __init__ promises -/
def spBas (K : PySem.W.Frag) : Sp := fun vs H Q _ => ∃ a C n m, vs = [.ref a, .str m] ∧ H a = some (exo a C none) ∧ ClsN K C n ∧ OexC K C ∧ PySem.W.findIn K (.ref C) "code" = some none ∧ PySem.W.findIn K (.ref C) "message" = some none ∧
  ∀ dx H', H' a = some (exo a C (some dx)) → H' dx = some (exd dx [("message", .str m), ("code", .str n)]) → H dx = none → dx ≠ a → (∀ b o, b ≠ a → H b = some o → H' b = some o) → Q .non H'
/-- what an error's __init__ promises -/
def spErr (K : PySem.W.Frag) (C : Addr) (n fld : Str) : Sp := fun vs H Q _ => ∃ a i, vs = [.ref a, .int i] ∧ i.natAbs.log2 < 1900 ∧ H a = some (exo a C none) ∧
  ∀ dx H' m, H' a = some (exo a C (some dx)) → H' dx = some (exd dx [(fld, .int i), ("message", .str m), ("code", .str n)]) → H dx = none → dx ≠ a → (∀ b o, b ≠ a → H b = some o → H' b = some o) → Q .non H'
structure BasOk (P : Program) (w : World) (K : PySem.W.Frag) (mg : Str → Option Value) (base : Heap) (b : Str) (B : Addr) : Prop where
  ex : ∃ f fd, FnOk P w K mg base CX0 1 f fd ["self", "message"] (spBas K) ∧ PySem.W.findCls K (.ref B) (.type "type") "__init__" = some (.val (.ref f)) ∧ Binds K fd ["self", "message"] [] ∧ PySem.W.keepIn K (.ref f) = true
  at_ : mg b = some (.ref B)
  rd : PySem.W.readsIn K B (.type "type") = true
  sg : PySem.W.specialIn K (.ref B) "__getattribute__" = some (some (.builtin "type.__getattribute__"))
section
variable {X : Cx} {P : Program} {w : World} {K : PySem.W.Frag} {mg : Str → Option Value} {base : Heap} {b : Str} {B : Addr}
/-- B.__init__(self, m) -/
theorem pe_base {p apos pos : Pos} {e : Expr} {es : List Expr} {t : TA} {pl : Sem Bool} (c : BasOk X.prog X.w X.K X.mg X.base b B) (hr : Room 1 X.A) (hg : Gl X b) (ha : PA X (e :: es) t) (hdb : (b == ("__debug__" : Str)) = false := by decide)
    (he : starEach (e :: es) X.env = (false, eval e X.env) :: starEach es X.env := by rfl) (hpl : (backTo pos (starEach es X.env)).any (·.1) = false := by rfl)
    (hc : eval (.Call (.Attribute (.Name b p) "__init__" apos) (e :: es) [] pos) X.env = (do
      let ov ← eval (.Name b p) X.env
      standAt apos.atName
      let (f, first) ← holding [ov] (getMethod ov "__init__" pl)
      callWith pos f first (backTo pos (starEach (e :: es) X.env)) (backToKw pos (keywordEach [] X.env))) := by rfl) :
    PE X (.Call (.Attribute (.Name b p) "__init__" apos) (e :: es) [] pos) (tCall (spBas X.K) [] (fun _ _ _ => False) t) := by
  obtain ⟨f, fd, F, h1, h2, h3⟩ := c.ex
  exact pe_clsfn (E := fun _ _ _ => False) F hr hg c.at_ h3 h2 .nil (fun _ _ _ _ _ _ _ z => z.elim) c.rd c.sg h1 ha hdb he hpl hc
end
theorem msg_fits {a : Str} {i : Int} (h : a.length ≤ 100) (hi : i.natAbs.log2 < 1920) : (a ++ Str.ofString (toString i)).length ≤ sizeLine := by
  have h2 := int_text_len_1921 hi
  rw [Str.length_append, sizeLine_eq]
  omega
section
variable {P : Program} {w : World} {K : PySem.W.Frag} {mg : Str → Option Value} {base : Heap}
theorem bas_mk {h : Heap} {x : Str} {qual : Str} {st : Stmt} {df : Str} {B f T : Addr} {od an : Option Addr} {sl : Array (Option Value)} {oc kV dc pm cd ct dv : Value} {o : Obj} {n : Nat} (X : K.In h) (G : h.Ns mainGlobals mg)
    (a : PySem.W.nsIn K mainGlobals x = some (some (.ref B))) (fc : PySem.W.findCls K (.ref B) (.type "type") "__init__" = some (.val (.ref f)))
    (l : K.lookup f = some ⟨oc, od, .func (PySem.W.fnOf "__init__" qual (defArgs st) (defBody st) (defScope st) (.ref T) kV dc pm an cd ct), sl⟩) (lT : K.lookup T = some o) (dT : o.data = .seq #[dv] n) (rT : RelV (.str df) dv)
    (c : PySem.W.codeIn K cd qual = true) (k : PySem.W.keepIn K (.ref f) = true) (rd : PySem.W.readsIn K B (.type "type") = true) (sg : PySem.W.specialIn K (.ref B) "__getattribute__" = some (some (.builtin "type.__getattribute__")))
    (hb : ∀ (T : Addr) (kV doc pm : Value) (an : Option Addr) (cdv ct : Value) (us its : List Value), us.length = 2 → its.length = 1 → ∃ k, bindArgs (PySem.W.fnOf "__init__" qual (defArgs st) (defBody st) (defScope st) (.ref T) kV doc pm an cdv ct) ⟨us, []⟩ = seqItems? (.ref T) >>= k ∧ k (some its.toArray) = pure ([("self" : Str), "message"].zip (us ++ its.drop 1))) :
    Bas K mg x B qual st df := by
  have F : FunD K "__init__" qual (defArgs st) (defBody st) (defScope st) [.str df] [] f (PySem.W.fnOf "__init__" qual (defArgs st) (defBody st) (defScope st) (.ref T) kV dc pm an cd ct) :=
    ⟨⟨oc, od, .ref T, kV, dc, pm, an, cd, ct, sl, rfl, l, c, .inr ⟨by simp, T, o, [dv], n, rfl, lT, dT, .cons rT .nil⟩, .inl rfl⟩, k⟩
  obtain ⟨ds, r, b⟩ := F.binds1 (ps := ["self", "message"]) 2 1 (by simp) rfl hb
  cases r
  exact ⟨⟨f, _, F, fc, b⟩, PySem.W.mg_of X G a, rd, sg⟩
theorem oexC_mk {C : Addr} {nm q : Str} {N : Addr} {bs bm : List Value} {sn : List Str} {sub : List Value} {ab : Bool} {col : Option Bool} {dd : Option Addr} {k0 k1 k2 k3 k5 : Option Value}
    (l : K.lookup C = some (excClassObj nm q C N bs bm true sn sub ab col dd k0 k1 k2 k3 k5 "ValueError.__new__")) (r : PySem.HandSPX.refsVE bm = true) (sa : PySem.W.findIn K (.ref C) "__setattr__" = some (some (.builtin "object.__setattr__")))
    (ex : PySem.W.subIn K (.ref C) (.type "BaseException") = some true) (ty : PySem.W.typeIn K (.ref C) = some (.type "type")) (kp : PySem.W.keepIn K (.ref C) = true) : OexC K C :=
  ⟨⟨nm, q, N, bs, bm, sn, sub, ab, col, dd, k0, k1, k2, k3, k5, l, r⟩, sa, ex, ty, kp⟩
theorem er_mk {C : Addr} {n fld : Str} {tk : Tok} {nm q : Str} {N : Addr} {bs bm : List Value} {sn : List Str} {sub : List Value} {ab : Bool} {col : Option Bool} {dd : Option Addr} {k0 k1 k2 k3 k5 : Option Value}
    (l : K.lookup C = some (excClassObj nm q C N bs bm true sn sub ab col dd k0 k1 k2 k3 k5 "ValueError.__new__")) (e2 : k2 = some (.str n tk)) (r : PySem.HandSPX.refsVE bm = true) (sa : PySem.W.findIn K (.ref C) "__setattr__" = some (some (.builtin "object.__setattr__")))
    (ex : PySem.W.subIn K (.ref C) (.type "BaseException") = some true) (ty : PySem.W.typeIn K (.ref C) = some (.type "type")) (kp : PySem.W.keepIn K (.ref C) = true) (rd : PySem.W.readsIn K C (.type "type") = true)
    (fd : PySem.W.findCls K (.ref C) (.type "type") "__name__" = some (.get (.builtin "getset_descriptor.__get__") (.builtin "type.__name__") (.ref C) (.type "type")))
    (ga : PySem.W.findIn K (.ref C) "__getattribute__" = some (some (.builtin "BaseException.__getattribute__"))) (gt : PySem.W.findIn K (.ref C) "__getattr__" = some none) (fc : PySem.W.findIn K (.ref C) "__class__" = some (some (.builtin "object.__class__")))
    (sp : PySem.W.specialIn K (.builtin "object.__class__") "__get__" = some (some (.builtin "getset_descriptor.__get__"))) (tk : PySem.W.takesIn K (.builtin "object.__class__") = some true) (mr : PySem.W.mroIn K C (.type "object") = some true)
    (c1 : PySem.W.findIn K (.ref C) "code" = some none) (c2 : PySem.W.findIn K (.ref C) "message" = some none) (c3 : PySem.W.findIn K (.ref C) fld = some none) : Er K C n fld := by
  have hc : (PySem.W.clsIn K C).isSome = true := by unfold PySem.W.clsIn; rw [l]; rfl
  refine ⟨⟨rd, ty, ?_, fd, ga, gt, ex, PySem.W.findObj_dataN hc fc sp tk, mr⟩, oexC_mk l r sa ex ty kp, c1, c2, c3⟩
  unfold PySem.W.nameIn
  rw [l, e2]
  exact beq_self_eq_true n
end
/-! ### an error made: C(i) -/
/-- the fields of an error of one number -/
abbrev erf (n fld : Str) (i : Int) (m : Str) : List (Str × V) := [(fld, .int i), ("message", .str m), ("code", .str n)]
structure ErrOk (P : Program) (w : World) (K : PySem.W.Frag) (mg : Str → Option Value) (base : Heap) (x : Str) (C : Addr) (n fld : Str) : Prop where
  ex : ∃ f fd, FnOk P w K mg base CX0 2 f fd ["self", fld] (spErr K C n fld) ∧ PySem.W.findIn K (.ref C) "__init__" = some (some (.ref f)) ∧ PySem.W.typeIn K (.ref f) = some (.type "function") ∧ Binds K fd ["self", fld] []
  er : Er K C n fld
  at_ : mg x = some (.ref C)
section
variable {X : Cx} {x : Str} {C : Addr} {n fld : Str}
theorem pmk_err {p pos : Pos} {e : Expr} {es : List Expr} {t : TA} (c : ErrOk X.prog X.w X.K X.mg X.base x C n fld) (hr : Room 3 X.A) (hg : Gl X x) (ha : PA X (e :: es) t) (hdb : (x == ("__debug__" : Str)) = false := by decide)
    (he : starEach (e :: es) X.env = (false, eval e X.env) :: starEach es X.env := by rfl) (hpl : (backTo pos (starEach es X.env)).any (·.1) = false := by rfl) :
    PMk X (.Call (.Name x p) (e :: es) [] pos) (tMkO C (spErr X.K C n fld) [] t) := by
  obtain ⟨f, fd, F, h1, h2, h3⟩ := c.ex
  exact pmk_oex c.er.oex h1 h2 F hr h3 .nil (fun _ _ _ _ _ _ _ z => z.elim) hg c.at_ ha hdb he hpl
/-- the answer to its question -/
theorem mk_err {K : PySem.W.Frag} {H1 : Hp} {i : Int} {Q : XK} (hi : i.natAbs.log2 < 1900) (h : ∀ d H2 m, H1 d = none → H2 d = some (.xd (erf n fld i m)) → Same H1 H2 → Q (.ref C) (some d) H2) :
    ([V.int i] : List V).length ≤ 1000 ∧ ∀ a, H1 a = none → spErr K C n fld (.ref a :: ([V.int i] ++ [])) (upd H1 a (exo a C none))
      (fun v H2 => v = .non ∧ ∃ (d : Addr) (fs : List (Str × V)), H2 a = some (exo a C (some d)) ∧ H2 d = some (exd d fs) ∧ H1 d = none ∧ Q (.ref C) (some d) (upd (del H2 a) d (.xd fs))) (fun _ _ _ => False) := by
  refine ⟨(by show 1 ≤ 1000; decide), fun a ha => ⟨a, i, rfl, hi, upd_same, fun dx H' m h1 h2 h3 h4 h5 => ⟨rfl, dx, _, h1, h2, ?_, ?_⟩⟩⟩
  · rw [← h3, upd_ne h4]
  · have hn : H1 dx = none := by rw [← h3, upd_ne h4]
    refine h dx _ m hn upd_same (fun b o hb => ?_)
    have hba := ne_of_none hb ha
    rw [upd_ne (ne_of_none hb hn), del_ne hba]
    exact h5 b o hba (by rw [upd_ne hba]; exact hb)
end
end SW

set_option Elab.async false
set_option linter.all false
set_option maxRecDepth 100000
set_option maxHeartbeats 4000000
namespace SW
open PySem PySem.Spec PyProof.Rows L2
/-- a class of errors whose instances' fields can be read -/
structure ErrC (K : PySem.W.Frag) (C : Addr) : Prop where
  xf : XfC K C
  no : ∀ f ∈ (["code", "position", "limit", "variables", "number", "name"] : List Str), PySem.W.findIn K (.ref C) f = some none
/-- an error's code and what it is about -/
inductive ErV (fs : List (Str × V)) : Str → V → Prop
  | text {v : V} (h : fs.lookup ("position" : Str) = some v) : ErV fs "InvalidText" v
  | large {v : V} (h : fs.lookup ("limit" : Str) = some v) : ErV fs "TooLarge" v
  | addr : ErV fs "InvalidAddress" .non
/-- what the law's reader of an error's field promises -/
def spField (K : PySem.W.Frag) : Addr × Obj → List V → Hp → VK → Prop := fun p vs H Q => ∃ C dd fs n v, vs = [.ref p.1] ∧ Zc (.ref C) (some dd) p.2 ∧ (∃ ws, p.2.data = .fields ws) ∧ ErrC K C ∧ H dd = some (.xd fs) ∧ fs.lookup ("code" : Str) = some (V.str n) ∧ ErV fs n v ∧ Q v H
structure CalW (P : Program) (w : World) (K : PySem.W.Frag) (mg : Str → Option Value) (base : Heap) (k : Nat) (x : Str) (ps : List Str) (sp : Addr × Obj → List V → Hp → VK → Prop) : Prop where
  ex : ∃ f fd, FnW P w K mg base k f fd ps sp ∧ mg x = some (.ref f) ∧ PySem.W.keepIn K (.ref f) = true ∧ Binds K fd ps []
theorem Df.okW {P : Program} {w : World} {K : PySem.W.Frag} {mg : Str → Option Value} {base : Heap} {x : Str} {st : Stmt} {N ps : List Str} {k : Nat} {sp : Addr × Obj → List V → Hp → VK → Prop} (D : Df K mg x st ps) (S : FnScope N ps (defScope st))
    (len : ∀ p vs H Q, sp p vs H Q → vs.length = ps.length)
    (hbody : ∀ (f : Addr) (cdv : Value) (A : Around) (outer : List Env) (s : Shared) (H : Hp) (vs : List V) (Q : VK) (p : Addr × Obj), L2H.RoomH k (A.deeper (envOfC x (defScope st) s.heap.objs.size f cdv)) → sp p vs H Q →
      ∃ t, PSs (L2H.cxH C8.CX0 P w K mg base N x (defScope st) f cdv A outer s H C8.E0 p) (defBody st) t ∧ t { nx := fun _ H' => Q .non H', rt := Q } (L2.start N vs) H) : CalW P w K mg base (k + 1) x ps sp := by
  obtain ⟨f, fd, F, m, b⟩ := D.ex
  obtain ⟨oc, od, kV, doc, pm, an, cdv, ct, osl, rfl, lk, hcd⟩ := F.ex
  exact ⟨f, _, fn_ofW lk hcd S len (fun A outer s H vs Q p hr h => hbody f cdv A outer s H vs Q p hr h), m, F.kp, b⟩
/-- the same as the suite asks it -/
def spF (K : PySem.W.Frag) (a : Addr) (cls : Value) (d : Option Addr) : List V → Hp → VK → Prop := fun vs H Q =>
  ∃ C dd fs n v, vs = [.ref a] ∧ cls = .ref C ∧ d = some dd ∧ ErrC K C ∧ H dd = some (.xd fs) ∧ fs.lookup ("code" : Str) = some (V.str n) ∧ ErV fs n v ∧ Q v H
/-- the suite: the code and the field as a pair -/
def tsTry (K : PySem.W.Frag) (a : Addr) (cls : Value) (d : Option Addr) : TS := fun D σ H =>
  ∃ C dd fs n v, cls = .ref C ∧ d = some dd ∧ ErrC K C ∧ (1 < σ.length → σ[1]? = some (some (.ref a))) ∧ H dd = some (.xd fs) ∧ fs.lookup ("code" : Str) = some (V.str n) ∧ ErV fs n v ∧ ∀ p, H p = none → D.rt (.ref p) (upd H p (.tup [.str n, v]))
/-- what the law's try makes of what was asked -/
def TTry (K : PySem.W.Frag) (BS : Addr) : (XK → Hp → VK → Prop) → Hp → VK → Prop := fun tl H Q =>
  tl (fun cls d H' => ∃ C dd fs n v, cls = .ref C ∧ d = some dd ∧ PySem.W.exmOne K cls (.ref BS) = some true ∧ ErrC K C ∧ H' dd = some (.xd fs) ∧ fs.lookup ("code" : Str) = some (V.str n) ∧ ErV fs n v ∧
      ∀ p, H' p = none → Q (.ref p) (upd H' p (.tup [.str n, v])))
    H (fun v H' => ([V.str "value", v] : List V).length ≤ sizeLine ∧ ∀ p, H' p = none → Q (.ref p) (upd H' p (.tup [.str "value", v])))
/-! ### defs that errors leave -/
structure CalX (P : Program) (w : World) (K : PySem.W.Frag) (mg : Str → Option Value) (base : Heap) (k : Nat) (x : Str) (ps : List Str) (sp : Sp) : Prop where
  ex : ∃ f fd, FnOk P w K mg base (L2.CX P w) k f fd ps sp ∧ mg x = some (.ref f) ∧ PySem.W.keepIn K (.ref f) = true ∧ Binds K fd ps [] ∧ ∃ oc od osl, K.lookup f = some ⟨oc, od, .func fd, osl⟩
theorem Df.okX {P : Program} {w : World} {K : PySem.W.Frag} {mg : Str → Option Value} {base : Heap} {x : Str} {st : Stmt} {N ps : List Str} {k : Nat} {sp : Sp} (D : Df K mg x st ps) (S : FnScope N ps (defScope st)) (len : ∀ vs H Q E, sp vs H Q E → vs.length = ps.length)
    (hbody : ∀ (f : Addr) (cdv : Value) (A : Around) (outer : List Env) (s : Shared) (H : Hp) (vs : List V) (Q : VK) (E : XK), Room k (A.deeper (envOfC x (defScope st) s.heap.objs.size f cdv)) → sp vs H Q E →
      ∃ t, PSs (cxOf (L2.CX P w) P w K mg base N x (defScope st) f cdv A outer s H E) (defBody st) t ∧ t { nx := fun _ H' => Q .non H', rt := Q } (L2.start N vs) H) : CalX P w K mg base (k + 1) x ps sp := by
  obtain ⟨f, fd, F, m, b⟩ := D.ex
  obtain ⟨oc, od, kV, doc, pm, an, cdv, ct, osl, rfl, lk, hcd⟩ := F.ex
  exact ⟨f, _, fn_of lk hcd S len (fun A outer s H vs Q E hr h => hbody f cdv A outer s H vs Q E hr h), m, F.kp, b, oc, od, osl, lk⟩
section
variable {X : Cx} {k j : Nat} {x : Str} {ps : List Str} {sp : Sp} {p pos : Pos} {e : Expr} {es : List Expr} {t : TA} {E : XK}
theorem pe_ownX (c : CalX X.prog X.w X.K X.mg X.base k x ps sp) (hr : Room j X.A) (hk : k ≤ j) (hx : Passes (L2.CX X.prog X.w) X E) (hg : Gl X x) (ha : PA X (e :: es) t) (hdb : (x == ("__debug__" : Str)) = false := by decide)
    (he : starEach (e :: es) X.env = (false, eval e X.env) :: starEach es X.env := by rfl) (hpl : (backTo pos (starEach es X.env)).any (·.1) = false := by rfl) :
    PE X (.Call (.Name x p) (e :: es) [] pos) (tCall sp [] E t) := by
  obtain ⟨f, fd, F, hm, hK, hb, _⟩ := c.ex
  exact pe_call F (hr.mono hk) hg hm hK hb .nil hx ha hdb he hpl
/-- what leaves a called def leaves the caller -/
theorem passX {P : Program} {w : World} {K : PySem.W.Frag} {mg : Str → Option Value} {base : Heap} {N : List Str} {q : Str} {scope : Scope} {f : Addr} {cd : Value} {A : Around} {outer : List Env} {s : Shared} {H : Hp} {E : XK} :
    Passes (L2.CX P w) (cxOf (L2.CX P w) P w K mg base N q scope f cd A outer s H E) E := passes_call (takes_of rfl rfl rfl rfl) (fun _ _ _ _ z => z)
/-- what leaves the lambda's body leaves the lambda -/
theorem pass_lam {A : Around} {outer : List Env} {s : Shared} {H : Hp} {scope : Scope} {f c' : Addr} : Passes (L2.CX X.prog X.w) (LamX.lamCx X A outer s H E scope f c') E :=
  passes_call (takes_of rfl rfl rfl rfl) (fun _ _ _ _ z => z)
end
end SW

set_option Elab.async false
set_option linter.all false
set_option maxRecDepth 100000
set_option maxHeartbeats 4000000
namespace SW
open PySem PySem.Spec PyProof.Rows L2 LamX
/-! ### a lambda with one parameter that has a default -/
/-- its names: the parameter y0 alone is its own, and it is none of the maker's -/
structure LamD (N : List Str) (sc scope : Scope) (y0 : Str) : Prop where
  kind : scope.kind = .function
  co : scope.isCoroutine = false
  gen : scope.isGenerator = false
  nocell : ∀ y ∈ scope.names, y.2 ≠ .cell
  own : ∀ y ∈ scope.names, y.2 = .local → y.1 ∉ N
  par : scope.names.lookup y0 = some .local
  free : ∀ y ∈ scope.names, y.2 = .free → sc.names.lookup y.1 = some .cell ∨ sc.names.lookup y.1 = some .free
def lamDB (N : List Str) (sc scope : Scope) (y0 : Str) : Bool :=
  decide (scope.kind = .function) && (!scope.isCoroutine && (!scope.isGenerator && (decide (scope.names.lookup y0 = some .local) &&
    scope.names.all fun y => !decide (y.2 = .cell) && ((!decide (y.2 = .local) || !decide (y.1 ∈ N)) && (!decide (y.2 = .free) || (decide (sc.names.lookup y.1 = some .cell) || decide (sc.names.lookup y.1 = some .free)))))))
theorem lamD_by {N : List Str} {sc scope : Scope} {y0 : Str} (h : lamDB N sc scope y0 = true) : LamD N sc scope y0 := by
  unfold lamDB at h
  simp only [Bool.and_eq_true, Bool.or_eq_true, Bool.not_eq_true', decide_eq_true_eq, decide_eq_false_iff_not, List.all_eq_true] at h
  obtain ⟨h1, h2, h3, h4, h5⟩ := h
  refine ⟨h1, h2, h3, fun y hy => (h5 y hy).1, fun y hy e => ?_, h4, fun y hy e => ?_⟩
  · exact (h5 y hy).2.1.resolve_left (fun z => z e)
  · exact (h5 y hy).2.2.resolve_left (fun z => z e)
section
variable {X : Cx} {pins : List (Addr × Obj)} {σ : L2.St} {H HZ : Hp} {s s1 : Shared} {y0 : Str}
theorem LamD.has {scope : Scope} (L : LamD X.N X.env.scope scope y0) (ok : X.Ok) : ∀ y ∈ scope.names, y.2 = .free → ∃ c, X.env.cells.lookup y.1 = some c :=
  fun y hy e => ok.has _ (L.free y hy e)
/-- the state in which its body starts -/
theorem lamD_start {A : Around} {outer : List Env} {E : XK} {scope : Scope} {f c' : Addr} {h1 : Heap} {tk : Nat} {m0 : Str → Option Value} (I : Inv X pins σ H s) (L : LamD X.N X.env.scope scope y0) (e0 : Env0 X.prog X.w X.K X.mg X.base A outer s1 HZ) (hd : A.handled = none)
    (un : Un (frs X.stack) [] H HZ s.heap s1.heap) (hns : h1.Ns s1.heap.objs.size m0) (kp : ∀ b o, s1.heap.get? b = some o → h1.get? b = some o) :
    Inv (lamCx X A outer s1 HZ E scope f c') [] σ HZ { s1 with heap := h1, toks := tk } := by
  have caps := L.has I.ok
  have back : ∀ {y c}, (cloFrom X.env.cells scope.names []).lookup y = some c → X.env.cells.lookup y = some c := by
    intro y c e
    rcases cloFrom_mem (PySem.mem_of_lookup e) with z | ⟨z1, z2⟩
    · cases z
    · obtain ⟨c1, hc⟩ := caps _ z1 rfl
      have hc1 : X.env.cells.lookup y = some c1 := hc
      have same : c = c1 := by rw [z2, hc1] <;> rfl
      rw [same]
      exact hc1
  have there : ∀ {y}, scope.names.lookup y = some .free → ∃ c, (cloFrom X.env.cells scope.names []).lookup y = some c := by
    intro y hl
    have hy := PySem.mem_of_lookup hl
    exact mem_lookup (cloFrom_has (cells := X.env.cells) (acc := []) hy)
  have cellAt : ∀ {c : Addr} {v : Option Value}, H c = none → s.heap.IsCell c v → h1.IsCell c v := by
    intro c v n ⟨o, ho, hdt⟩
    obtain ⟨sl, q⟩ := un.any ho n (by simp)
    exact ⟨_, kp _ _ q, hdt⟩
  have none_ : ∀ b : Addr, b ∉ (lamCx X A outer s1 HZ E scope f c').ex := by
    intro b z
    have z' : b ∈ ([] : List Addr) := z
    cases z'
  have okNew : (lamCx X A outer s1 HZ E scope f c').Ok := {
    mod := e0.mod
    kind := L.kind
    glob := rfl
    blt := rfl
    above := Nat.le_refl _
    inj := fun y z c g1 g2 => I.ok.inj y z c (back g1) (back g2)
    has := fun y hy => by
      have hy2 : scope.names.lookup y = some .cell ∨ scope.names.lookup y = some .free := hy
      rcases hy2 with hy2 | hy2
      · exact absurd rfl (L.nocell _ (PySem.mem_of_lookup hy2))
      · exact there hy2
    cab := fun y c z _ => by
      have z' : false = true := z
      cases z'
    hd := fun _ => hd
    frames := Around.frames_deeper e0.frames
    stk := .inr ⟨rfl, rfl⟩
    exf := fun b z => absurd z (none_ b)
    bs := e0.bs
    bsz := e0.bsz
    noex := fun b _ _ => none_ b
    exfs := fun b z => absurd z (none_ b)
    funs := e0.funs
    frf := e0.frf }
  have m1 : ∀ (i : Nat) (y : Str) (v : V), X.N[i]? = some y → σ[i]? = some (some v) → Vis scope y → ∃ u, RelV v u ∧ Look (lamEnv X scope s1.heap.objs.size f c') h1 m0 y u := by
    intro i y v g1 g2 g3
    have g4 : Vis scope y := g3
    rcases g4 with k | k | k
    · exact absurd (List.mem_of_getElem? g1) (L.own _ (PySem.mem_of_lookup k) rfl)
    · exact absurd rfl (L.nocell _ (PySem.mem_of_lookup k))
    · obtain ⟨m, _, look⟩ := I.loc
      have outerK := L.free _ (PySem.mem_of_lookup k) rfl
      obtain ⟨u, r, q⟩ := look i y v g1 g2 (outerK.elim (fun z => .inr (.inl z)) (fun z => .inr (.inr z)))
      obtain ⟨c2, hc2⟩ := there k
      refine ⟨u, r, .inr ⟨.inr k, c2, hc2, ?_⟩⟩
      have hc1 := back hc2
      rcases q with ⟨k', _⟩ | ⟨_, c3, hc3, isC⟩
      · have k2 : X.env.scope.names.lookup y = some .local := k'
        rcases outerK with z | z
        · have z2 : X.env.scope.names.lookup y = some .cell := z
          rw [z2] at k2
          cases k2
        · have z2 : X.env.scope.names.lookup y = some .free := z
          rw [z2] at k2
          cases k2
      · rw [hc1] at hc3
        cases hc3
        exact cellAt (I.freeC y _ hc1) isC
  refine ⟨okNew, rfl, e0.bare, Un.kept kp, ⟨_, hns, ?m1⟩, ?m2, e0.hok.fresh (Nat.le_refl _), ?m3, ?m4, e0.hok.kept kp, I.len⟩
  case m1 => intro i y v g1 g2 g3; exact m1 i y v g1 g2 g3
  case m2 =>
    intro y c e
    obtain ⟨v, z⟩ := I.cell y c (back e)
    exact ⟨v, cellAt (I.freeC y c (back e)) z⟩
  case m3 =>
    intro y c e
    obtain ⟨v, o, ho, _⟩ := I.cell y c (back e)
    exact un.free c o ho (I.freeC y c (back e)) (by simp)
  case m4 =>
    intro q hq
    have hq2 : q ∈ ([] : List (Addr × Obj)) ++ [] := hq
    simp at hq2
/-- what the making leaves: the function, its default's tuple, its code object -/
structure Made (X : Cx) (pins : List (Addr × Obj)) (σ : L2.St) (T : List (Addr × Str)) (H H1 : Hp) (s' : Shared) (params : Arguments) (body : Expr) (scope : Scope) (f c' T0 : Addr) (dv doc pm ctv : Value) : Prop where
  inv : Inv X pins σ H1 s'
  ext : ExtN H H1
  tabs : Tabs T H1
  tup : s'.heap.get? T0 = some (PySem.W.kdv_tup [dv])
  tupN : H1 T0 = none
  tupF : T0 ∉ frs X.stack
  fn : s'.heap.get? f = some (PySem.W.kdv_obj "<lambda>" (X.env.qual ++ "<lambda>") params (.expr body) scope (cloFrom X.env.cells scope.names []) (.ref T0) doc pm c' ctv)
  fnN : H1 f = none
  fnF : f ∉ frs X.stack
  code : H1 c' = some (CodeO c' (X.env.qual ++ "<lambda>"))
theorem notFrame_new (I : Inv X pins σ H s) {f : Addr} (hf : s.heap.objs.size ≤ f) : f ∉ frs X.stack := by
  intro z
  rcases List.mem_cons.mp (I.stkSub _ z) with e | e
  · have lt := I.lt
    rw [← e] at lt
    exact absurd (Nat.lt_of_lt_of_le lt hf) (Nat.lt_irrefl _)
  · exact I.nofs hf e
theorem lamD_make {T : List (Addr × Str)} {c P : Addr} {params : Arguments} {body : Expr} {scope : Scope} {pos dp : Pos} {z : Int} {j : Nat} {Q : Value → Shared → Prop} (I : Inv X pins σ H s) (TB : TabB X.base X.mg c P) (hcode : X.env.code = .ref c)
    (hm : (P, X.env.qual ++ "<lambda>") ∈ T) (hu : ∀ p ∈ T, p.1 = P → p.2 = X.env.qual ++ "<lambda>") (hT : Tabs T H) (hd : params.defaults = [.Constant (.int z) j dp]) (hk : params.kw_defaults = []) (hfree : ∀ y ∈ scope.names, y.2 = .free → ∃ c, X.env.cells.lookup y.1 = some c)
    (h : ∀ f c' T0 dv doc pm ctv H1 s', Made X pins σ T H H1 s' params body scope f c' T0 dv doc pm ctv → Q (.ref f) s') :
    wpAny (model X.prog X.w) X.A (eval (.Lambda params body scope pos) X.env) Q X.xe s := by
  refine PySem.W.kdv_lam (by rw [hd]; rfl) hk ?_
  rw [hd]
  refine PySem.W.kdv_all1 (thn (pe_int.run pins s σ H (fun v G => v = .int z ∧ G = H) I ⟨rfl, rfl⟩) fun u s1 got => ?_)
  obtain ⟨v, G, I1, _, _, eG⟩ := got
  subst eG
  refine PySem.W.kdv_all0 ?_
  rw [makeFunction_eq]
  simp only [List.zip_nil_right, List.filterMap_nil, List.isEmpty_nil, List.isEmpty_cons, if_true, pure_bind, Bool.false_eq_true, if_false]
  refine wpAny_bind (wpAny_newTextTuple ?_)
  obtain ⟨ps, hP, ht, ha⟩ := hT _ hm
  have hP1 : s1.heap.get? P = some { cls := .none, data := .fields ps } := I1.hok P _ hP
  have tN : G s1.heap.objs.size = none := I1.hok.fresh (Nat.le_refl _)
  have tF := notFrame_new I1 (Nat.le_refl _)
  have tP : s1.heap.objs.size ≠ P := Nat.ne_of_gt (Heap.lt_size hP1)
  have I2 : Inv X pins σ G { s1 with heap := s1.heap.push (PySem.W.kdv_tup [u]) } := I1.kept fun b o e => Heap.get?_push_of_some _ e
  have tG : (s1.heap.push (PySem.W.kdv_tup [u])).get? s1.heap.objs.size = some (PySem.W.kdv_tup [u]) := Heap.get?_push_size _ rfl
  have bP : (s1.heap.push (PySem.W.kdv_tup [u])).BuiltinsAt X.mg P := TB.bm.keeps I2.bk
  have hP2 : (s1.heap.push (PySem.W.kdv_tup [u])).get? P = some { cls := .none, data := .fields ps } := I2.hok P _ hP
  cases hc : codeAmong pos ps.toList with
  | some cv =>
    obtain ⟨c', e, hco⟩ := ha pos cv hc
    subst e
    refine PySem.W.kdv_makeTailHit (mg := X.mg) (c := c) (P := P) (ps := ps) (closure_ok hfree) I2.ok.glob (I2.mod.glob.keeps I2.bk) hcode (TB.code.keeps I2.bk) hP2 ht hc bP fun ctv doc h' tk keep hsz => ?_
    refine h h'.objs.size c' s1.heap.objs.size u doc ((X.mg "__name__").getD .none) ctv G _ ⟨I2.kept fun b o e => Heap.get?_push_of_some _ (keep b o e), ExtN.refl G, hT, Heap.get?_push_of_some _ (keep _ _ tG), tN, tF, Heap.get?_push_size _ rfl, I2.hok.fresh hsz, notFrame_new I2 hsz, hco⟩
  | none =>
    refine PySem.W.kdv_makeTail (mg := X.mg) (c := c) (P := P) (ps := ps) (closure_ok hfree) I2.ok.glob (I2.mod.glob.keeps I2.bk) hcode (TB.code.keeps I2.bk) hP2 ht hc TB.gP bP fun c' ctv doc h' tk keep hge hlt hrec htb => ?_
    obtain ⟨c2, oc, vs, t, e2, hoc, hdt, hv⟩ := hrec
    cases e2
    have nC : G c' = none := I2.hok.fresh hge
    have big : (s1.heap.push (PySem.W.kdv_tup [u])).objs.size ≤ h'.objs.size := Nat.le_trans hge (Nat.le_of_lt hlt)
    have tC : s1.heap.objs.size ≠ c' := Nat.ne_of_lt (Nat.lt_of_lt_of_le (Heap.lt_size tG) hge)
    have J := inv_table (t' := tk) (more := #[rawInt pos.line, rawInt pos.col, .ref c']) (h' := h'.push (PySem.W.kdv_obj "<lambda>" (X.env.qual ++ "<lambda>") params (.expr body) scope (cloFrom X.env.cells scope.names []) (.ref s1.heap.objs.size) doc ((X.mg "__name__").getD .none) c' ctv)) I2 hP
      (fun b o hb e => Heap.get?_push_of_some _ (keep b o hb e)) (Heap.get?_push_of_some _ htb) hge ⟨oc, vs, t, Heap.get?_push_of_some _ hoc, hdt, hv⟩
    have ext : ExtN G (upd (upd G P (.tbl (ps ++ #[rawInt pos.line, rawInt pos.col, .ref c']))) c' (CodeO c' (X.env.qual ++ "<lambda>"))) := by
      intro b o e n
      rw [upd_ne (ne_of_none e nC), upd_ne (fun q => n ps (Option.some.inj (e.symm.trans (by rw [q]; exact hP))))]
      exact e
    refine h h'.objs.size c' s1.heap.objs.size u doc ((X.mg "__name__").getD .none) ctv _ _ ⟨J, ext, fun p hp => ?_, Heap.get?_push_of_some _ (keep _ _ tP tG), ?_, tF, Heap.get?_push_size _ rfl, ?_, notFrame_new I2 big, upd_same⟩
    · by_cases hb : p.1 = P
      · rw [hu p hp hb, hb]
        refine ⟨ps ++ #[rawInt pos.line, rawInt pos.col, .ref c'], by rw [upd_ne (ne_of_none hP nC), upd_same], ?_, fun p' cv hcv => ?_⟩
        · rw [Array.toList_append]
          exact PySem.TriplesOk_snoc _ _ _ _ ht
        · rw [Array.toList_append] at hcv
          rcases among_app _ ht hcv with q | q
          · obtain ⟨c0, q1, q2⟩ := ha p' cv q
            exact ⟨c0, q1, ext _ _ q2 codeO_ne⟩
          · exact ⟨c', q, upd_same⟩
      · obtain ⟨ps', a1, a2, a3⟩ := hT p hp
        refine ⟨ps', by rw [upd_ne (ne_of_none a1 nC), upd_ne hb]; exact a1, a2, fun p' cv hcv => ?_⟩
        obtain ⟨c0, q1, q2⟩ := a3 p' cv hcv
        exact ⟨c0, q1, ext _ _ q2 codeO_ne⟩
    · rw [upd_ne tC, upd_ne tP]
      exact tN
    · rw [upd_ne (Nat.ne_of_gt hlt), upd_ne (Nat.ne_of_gt (Nat.lt_of_lt_of_le (Heap.lt_size hP2) big))]
      exact I2.hok.fresh big
/-- a(), in the def that got such a lambda: that def was entered at s -/
theorem pe_actD {T : List (Addr × Str)} {H0 : Hp} {CXg : CXT} {Eg : XK} {Ng : List Str} {qg : Str} {sg : Scope} {g f c' T0 : Addr} {cdg dv doc pm ctv : Value} {params : Arguments} {body : Expr} {scope : Scope} {k i : Nat} {a : Str} {pn : List (Addr × Obj)} {xe : Value → Shared → Prop} {W : WX} {E : XK} {tb : TE} {p1 p2 : Pos}
    (Md : Made X pins σ T H0 H s params body scope f c' T0 dv doc pm ctv) (L : LamD X.N X.env.scope scope y0)
    (hbind : ∃ k, bindArgs (PySem.W.kdv_fn "<lambda>" (X.env.qual ++ "<lambda>") params (.expr body) scope (cloFrom X.env.cells scope.names []) (.ref T0) doc pm (.ref c') ctv) ⟨[], []⟩ = seqItems? (.ref T0) >>= k ∧ k (some #[dv]) = pure [(y0, dv)])
    (tk : Takes ((cxOf CXg X.prog X.w X.K X.mg X.base Ng qg sg g cdg X.A X.stack s H Eg).tr pn xe) W) (hW : ∀ cls d σ' H', E cls d H' → W cls d σ' H') (hr : Room (k + 1) (X.A.deeper (envOfC qg sg s.heap.objs.size g cdg)))
    (hbody : ∀ (A : Around) (outer : List Env) (s : Shared) (H : Hp), Room k (A.deeper (lamEnv X scope s.heap.objs.size f c')) → PE (lamCx X A outer s H E scope f c') body tb)
    (hN : Ng[i]? = some a) (hv : Vis sg a) (hd : (a == ("__debug__" : Str)) = false := by decide) (hcd : (a == ("__classdict__" : Str)) = false := by decide) :
    PE ((cxOf CXg X.prog X.w X.K X.mg X.base Ng qg sg g cdg X.A X.stack s H Eg).tr pn xe) (.Call (.Name a p1) [] [] p2)
      (fun σZ HZ Q => σZ[i]? = some (some (.ref f)) ∧ HZ c' = some (CodeO c' (X.env.qual ++ "<lambda>")) ∧ tb σ HZ Q) := by
  refine ⟨fun pinsZ sZ σZ HZ Q IZ hh => wpAny_Call_Name_kw ?_⟩
  obtain ⟨hs, hc, ht⟩ := hh
  refine thn ((pe_var (pos := p1) (i := i) hN hv hd hcd).run pinsZ sZ σZ HZ (fun v H1 => v = .ref f ∧ H1 = HZ) IZ ⟨.ref f, hs, rfl, rfl⟩) (fun u s1 got => ?_)
  obtain ⟨v, H1, I1, r1, ev, eH⟩ := got
  subst ev
  rw [eH] at I1
  obtain rfl : u = Value.ref f := r1
  have noEx : ∀ b : Addr, b ∉ ([] : List Addr) := fun b z => nomatch z
  have fn1 := I1.base.keep f _ Md.fn Md.fnN Md.fnF (noEx f)
  have tup1 := I1.base.keep T0 _ Md.tup Md.tupN Md.tupF (noEx T0)
  refine PySem.W.callWith_F0 ⟨_, _, _, _, fn1⟩ ?_
  have un : Un (frs X.stack) [] H HZ s.heap s1.heap := I1.base
  obtain ⟨⟨oc, vs, t, hoc, hdc, hvc⟩, _, _⟩ := I1.hok c' _ hc
  obtain ⟨kk, b1, b2⟩ := hbind
  have run : codeAny (model X.prog X.w) (X.A.deeper (envOfC qg sg s.heap.objs.size g cdg)) (.call (.ref f) ⟨[], []⟩) (CR (L2.CX X.prog X.w) (envOfC qg sg s.heap.objs.size g cdg :: X.stack) X.prog X.w HZ s1 Q E) s1 := by
    refine PySem.W.kla_callFunE hr.depth fn1 rfl L.co L.gen rfl ⟨c', oc, vs, t, rfl, hoc, hdc, hvc⟩ ?_
    refine BindsTo.of_defaults rfl tup1 rfl b1 b2 _ _ _ _ ?_
    refine wpAny_newFunctionEnv L.nocell (fun y hy => ?_) (fun h1 hns hsb => ⟨I1.nolimit.fresh _ hsb, ?_⟩) L.kind
    · obtain rfl := List.mem_singleton.mp hy
      exact L.par
    have kp : ∀ b o, s1.heap.get? b = some o → h1.get? b = some o := fun b o e => hsb.extBut b o (Nat.ne_of_lt (Heap.lt_size e)) (Heap.get?_push_of_some _ e)
    show codeAny _ _ (.expr body (lamEnv X scope s1.heap.objs.size f c')) _ _
    have J := lamD_start (E := E) (f := f) (c' := c') (tk := s1.toks + 1) Md.inv L I1.env0 hr.hd un hns kp
    refine PySem.W.kla_codeExpr (wpAny_mono ((hbody _ _ s1 HZ (hr.deeper _)).run [] _ _ HZ Q J ht) (fun v s' out => ?_) (fun _ _ z => z))
    obtain ⟨w', H', J', rv, q⟩ := out
    exact ⟨w', H', J'.os, J'.bare, J'.base, J'.hok, rv, q⟩
  have out := passes_call tk hW
  refine wpAny_call (codeAny_mono run (fun r s' hq => ?_))
  match r, hq with
  | .error e, hq => exact out pinsZ σZ HZ s1 e s' I1 hq
  | .ok (.ret u), hq => exact I1.after hq
  | .ok .next, hq => exact hq.elim
  | .ok .brk, hq => exact hq.elim
  | .ok .cont, hq => exact hq.elim
end
section
variable {X : Cx} {y0 : Str}
/-- x(lambda y0=z: body) -/
theorem pe_lamcallD {T : List (Addr × Str)} {TT : (XK → Hp → VK → Prop) → Hp → VK → Prop} {x a : Str} {g c P : Addr} {k j : Nat} {z : Int} {pg : Arguments} {bg : List Stmt} {sg : Scope} {dV kV doc pm cdv ct oc : Value} {an od : Option Addr} {osl : Array (Option Value)} {Ng : List Str}
    {params : Arguments} {body : Expr} {scope : Scope} {t : XK → TE} {p lpos pos dp : Pos} (hg : Gl X x) (hm : X.mg x = some (.ref g)) (hk : PySem.W.keepIn X.K (.ref g) = true)
    (lk : X.K.lookup g = some ⟨oc, od, .func (PySem.W.fnOf x x pg bg sg dV kV doc pm an cdv ct), osl⟩) (hcg : PySem.W.codeIn X.K cdv x = true) (hb : L2.Binds X.K (PySem.W.fnOf x x pg bg sg dV kV doc pm an cdv ct) [a] []) (Sg : FnScope Ng [a] sg) (hNg : Ng[0]? = some a) (hva : Vis sg a)
    (gives : GivesTo X Ng x sg g cdv bg a (X.env.qual ++ "<lambda>") TT) (TB : TabB X.base X.mg c P) (hcode : X.env.code = .ref c) (hmT : (P, X.env.qual ++ "<lambda>") ∈ T) (hu : ∀ p ∈ T, p.1 = P → p.2 = X.env.qual ++ "<lambda>")
    (hr : Room (k + 2) X.A) (L : LamD X.N X.env.scope scope y0) (hdef : params.defaults = [.Constant (.int z) j dp]) (hkw : params.kw_defaults = [])
    (hbind : ∀ (q : Str) (cl : List (Str × Addr)) (T0 : Addr) (doc pm cv ctv dv : Value), ∃ kk, bindArgs (PySem.W.kdv_fn "<lambda>" q params (.expr body) scope cl (.ref T0) doc pm cv ctv) ⟨[], []⟩ = seqItems? (.ref T0) >>= kk ∧ kk (some #[dv]) = pure [(y0, dv)])
    (hbody : ∀ (A : Around) (outer : List Env) (s : Shared) (H : Hp) (E : XK) (f c' : Addr), Room k (A.deeper (lamEnv X scope s.heap.objs.size f c')) → PE (lamCx X A outer s H E scope f c') body (t E))
    (hdb : (x == ("__debug__" : Str)) = false := by decide) (hd : (a == ("__debug__" : Str)) = false := by decide) (hcd : (a == ("__classdict__" : Str)) = false := by decide) :
    PE X (.Call (.Name x p) [.Lambda params body scope lpos] [] pos) (tLam T TT t) := by
  refine ⟨fun pins s σ H Q I hh => wpAny_Call_Name_kw (ld_glob I hg hm ?_ hdb)⟩
  obtain ⟨hT, ask⟩ := hh
  refine PySem.W.callWith_K (h₀ := X.base) I.ok.mod.kin hk ?_ (by rfl) (by rfl)
  show wpAny _ _ (spliced ((false, eval (.Lambda params body scope lpos) X.env) :: backTo pos (starEach [] X.env))) _ _ s
  refine Calls.spliced_cons (lamD_make I TB hcode hmT hu hT hdef hkw (L.has I.ok) (fun f c' T0 dv doc' pm' ctv H1 s' Md => ?_))
  refine Calls.spliced_nil ⟨Md.inv.kIn, ?_⟩
  have run : codeAny (model X.prog X.w) X.A (.call (.ref g) ⟨[.ref f], []⟩) (CR C8.CX0 X.stack X.prog X.w H1 s' Q C8.E0) s' := by
    refine run_ofS (N := Ng) (ps := [a]) (us := [.ref f]) (vs := [.ref f]) lk hcg Sg hr Md.inv.env0 (hb s' [.ref f] Md.inv.kIn rfl) (.cons rfl .nil) rfl (fun room => ?_)
    have act := gives f c' s' H1 Q (fun E H' Q' => t E σ H' Q')
      (fun W pn xe E p1 p2 tk hW => pe_actD (i := 0) Md L (hbind _ _ _ _ _ _ _ _) tk hW room (fun A outer s H r2 => hbody A outer s H E f c' r2) hNg hva hd hcd) Md.code (ask H1 Md.ext Md.tabs)
    obtain ⟨t', good, asked⟩ := act
    exact ⟨t', good.nox, asked⟩
  refine wpAny_call (codeAny_mono run (fun r s2 hq => ?_))
  match r, hq with
  | .error e, hq => exact (show False from hq).elim
  | .ok (.ret u), hq => exact Md.inv.after hq
  | .ok .next, hq => exact hq.elim
  | .ok .brk, hq => exact hq.elim
  | .ok .cont, hq => exact hq.elim
end
end SW

set_option Elab.async false
set_option linter.all false
set_option maxRecDepth 100000
set_option maxHeartbeats 4000000
namespace SW
open PySem PySem.Spec PyProof.Rows L2
/-! ### calls with keywords of defs that errors may leave -/
section
variable {X : Cx} {k j : Nat} {x : Str} {ps ks : List Str} {sp : Sp} {p pos : Pos} {kws : List Keyword} {tk : TA} {st : Stmt} {g : List Value → List Value → List Value} {gV : List V → List V → List V} {e : Expr} {es : List Expr} {t : TA} {E : XK}
/-- where no error is raised -/
theorem passN : Passes (L2.CX X.prog X.w) X (fun _ _ _ => False) := passes_call LamX.takes0 (fun _ _ _ _ z => z)
theorem pe_ownXK0 (c : CalX X.prog X.w X.K X.mg X.base k x ps sp) (D : Df X.K X.mg x st ps) (room : Room j X.A) (hk : k ≤ j) (hx : Passes (L2.CX X.prog X.w) X E) (hg : Gl X x)
    (hb : ∀ (kV doc pm : Value) (an : Option Addr) (cdv ct : Value) (us ws : List Value), (g us ws).length = ps.length →
      bindArgs (PySem.W.fnOf x x (defArgs st) (defBody st) (defScope st) .none kV doc pm an cdv ct) ⟨us, ks.zip ws⟩ = pure (ps.zip (g us ws)))
    (hrel : ∀ {vs : List V} {us : List Value} {zs : List V} {ws : List Value}, Vals vs us → Vals zs ws → Vals (gV vs zs) (g us ws)) (hkw : PK X kws tk)
    (hall : (backToKw pos (keywordEach kws X.env)).all (·.1.isSome) = true := by rfl) (hks : (backToKw pos (keywordEach kws X.env)).filterMap (·.1) = ks := by rfl) (hdb : (x == ("__debug__" : Str)) = false := by decide)
    (hpl : ((backTo pos (starEach [] X.env)).any (·.1) || (backToKw pos (keywordEach kws X.env)).any (·.1.isNone)) = false := by rfl) :
    PE X (.Call (.Name x p) [] kws pos) (tCallK sp gV E tNil tk) := by
  obtain ⟨f, fd, F, m, keep, _, look⟩ := c.ex
  have kb : KBinds X.K fd ps ks g gV := kbinds D m look hb hrel
  constructor
  intro pins s σ H Q I h
  refine wpAny_Call_Name_kw (ld_glob I hg m (PySem.W.callWith_KW0 (h₀ := X.base) I.ok.mod.kin keep hall (thn (hkw.run pos pins s σ H _ I h) fun ws s2 got => ?_) hpl) hdb)
  obtain ⟨zs, H2, I2, rz, q2⟩ := got
  refine ⟨I2.kIn, ?_⟩
  rw [hks]
  exact run_fnk (F.mono hk) room kb hx I2 .nil rz q2
theorem pe_ownXK (c : CalX X.prog X.w X.K X.mg X.base k x ps sp) (D : Df X.K X.mg x st ps) (room : Room j X.A) (hk : k ≤ j) (hx : Passes (L2.CX X.prog X.w) X E) (hg : Gl X x)
    (hb : ∀ (kV doc pm : Value) (an : Option Addr) (cdv ct : Value) (us ws : List Value), (g us ws).length = ps.length →
      bindArgs (PySem.W.fnOf x x (defArgs st) (defBody st) (defScope st) .none kV doc pm an cdv ct) ⟨us, ks.zip ws⟩ = pure (ps.zip (g us ws)))
    (hrel : ∀ {vs : List V} {us : List Value} {zs : List V} {ws : List Value}, Vals vs us → Vals zs ws → Vals (gV vs zs) (g us ws)) (ha : PA X (e :: es) t) (hkw : PK X kws tk)
    (hall : (backToKw pos (keywordEach kws X.env)).all (·.1.isSome) = true := by rfl) (hks : (backToKw pos (keywordEach kws X.env)).filterMap (·.1) = ks := by rfl) (hdb : (x == ("__debug__" : Str)) = false := by decide)
    (he : starEach (e :: es) X.env = (false, eval e X.env) :: starEach es X.env := by rfl)
    (hpl : ((backTo pos (starEach (e :: es) X.env)).any (·.1) || (backToKw pos (keywordEach kws X.env)).any (·.1.isNone)) = false := by rfl) :
    PE X (.Call (.Name x p) (e :: es) kws pos) (tCallK sp gV E t tk) := by
  obtain ⟨f, fd, F, m, keep, _, look⟩ := c.ex
  exact pe_callK (F.mono hk) room hg m keep (kbinds D m look hb hrel) hx ha hkw hall hks hdb he hpl
end
/-- one place, two keywords the other way round -/
def g12s {α : Type} : List α → List α → List α
  | [a], [b, c] => [a, c, b]
  | _, _ => []
end SW

set_option Elab.async false
set_option linter.all false
set_option maxRecDepth 100000
set_option maxHeartbeats 4000000
namespace SW
open PySem PySem.Spec PyProof.Rows L2
/-! ### an error without a field: C() -/
/-- what its __init__ promises -/
def spErr0 (K : PySem.W.Frag) (C : Addr) (n : Str) : Sp := fun vs H Q _ => ∃ a, vs = [.ref a] ∧ H a = some (exo a C none) ∧
  ∀ dx H' m, H' a = some (exo a C (some dx)) → H' dx = some (exd dx [("message", .str m), ("code", .str n)]) → H dx = none → dx ≠ a → (∀ b o, b ≠ a → H b = some o → H' b = some o) → Q .non H'
structure ErrOk0 (P : Program) (w : World) (K : PySem.W.Frag) (mg : Str → Option Value) (base : Heap) (x : Str) (C : Addr) (n : Str) : Prop where
  ex : ∃ f fd, FnOk P w K mg base CX0 2 f fd ["self"] (spErr0 K C n) ∧ PySem.W.findIn K (.ref C) "__init__" = some (some (.ref f)) ∧ PySem.W.typeIn K (.ref f) = some (.type "function") ∧ Binds K fd ["self"] []
  er : Er K C n "code"
  at_ : mg x = some (.ref C)
abbrev erf0 (n : Str) (m : Str) : List (Str × V) := [("message", .str m), ("code", .str n)]
/-- such an error is wished for -/
def Rz0 (H : Hp) (E : XK) (C : Addr) (n : Str) : Prop := ∀ d H2 m, H d = none → H2 d = some (.xd (erf0 n m)) → Same H H2 → E (.ref C) (some d) H2
theorem Rz0.same {H H1 : Hp} {E : XK} {C : Addr} {n : Str} (z : Rz0 H E C n) (s : Same H H1) : Rz0 H1 E C n := fun d H2 m hd h1 h2 =>
  z d H2 m (Option.eq_none_iff_forall_ne_some.mpr fun o q => by rw [s _ _ q] at hd; cases hd) h1 (s.trans h2)
section
variable {X : Cx} {x : Str} {C : Addr} {n : Str}
theorem pmk_err0 {p pos : Pos} (c : ErrOk0 X.prog X.w X.K X.mg X.base x C n) (room : Room 3 X.A) (hg : Gl X x) (hdb : (x == ("__debug__" : Str)) = false := by decide) :
    PMk X (.Call (.Name x p) [] [] pos) (fun _ H Q => Rz0 H Q C n) := by
  obtain ⟨fI, fd, F1, iC, tI, bI⟩ := c.ex
  have T := c.er.oex
  intro pins s σ H Q I z
  obtain ⟨nm, q, N, bs, bm, sn, sub, ab, col, dd, k0, k1, k2, k3, k5, look, refs⟩ := T.cls
  refine wpAny_Call_Name_kw (ld_glob I hg c.at_ (PySem.W.callWith_K0 I.kIn T.kC ?_) hdb)
  show wpAny _ _ (call (.ref C) []) _ _ _
  obtain ⟨h0, gs, dr, tk, os⟩ := s
  have up : h0.objs.size ≤ h0.objs.size + 1 := Nat.le_succ _
  have free : H (h0.objs.size + 1) = none := I.hok.fresh up
  have kept : ∀ b o, h0.get? b = some o → ((h0.push (PySem.W.kdv_tup [])).push (PySem.HandSPX.excO C h0.objs.size)).get? b = some o := fun b o e => Heap.get?_push_of_some _ (Heap.get?_push_of_some _ e)
  have mine : ((h0.push (PySem.W.kdv_tup [])).push (PySem.HandSPX.excO C h0.objs.size)).get? (h0.objs.size + 1) = some (PySem.HandSPX.excO C h0.objs.size) := by heap_get
  have J : Inv X pins σ (upd H (h0.objs.size + 1) (exo (h0.objs.size + 1) C none)) ⟨(h0.push (PySem.W.kdv_tup [])).push (PySem.HandSPX.excO C h0.objs.size), gs, dr, tk, os⟩ :=
    I.laid (t' := tk) (a := h0.objs.size + 1) (o := exo (h0.objs.size + 1) C none) kept up (exo_ok mine)
  have one : Vals [V.ref (h0.objs.size + 1)] [Value.ref (h0.objs.size + 1)] := .cons rfl .nil
  have asked : spErr0 X.K C n [.ref (h0.objs.size + 1)] (upd H (h0.objs.size + 1) (exo (h0.objs.size + 1) C none))
      (fun v H2 => v = .non ∧ ∃ (d : Addr) (fs : List (Str × V)), H2 (h0.objs.size + 1) = some (exo (h0.objs.size + 1) C (some d)) ∧ H2 d = some (exd d fs) ∧ H d = none ∧ Q (.ref C) (some d) (upd (del H2 (h0.objs.size + 1)) d (.xd fs))) (fun _ _ _ => False) := by
    refine ⟨_, rfl, upd_same, fun dx H' m h1 h2 h3 h4 h5 => ⟨rfl, dx, _, h1, h2, ?_, ?_⟩⟩
    · rw [← h3, upd_ne h4]
    · have hn : H dx = none := by rw [← h3, upd_ne h4]
      refine z dx _ m hn upd_same (fun b o hb => ?_)
      have hba := ne_of_none hb free
      rw [upd_ne (ne_of_none hb hn), del_ne hba]
      exact h5 b o hba (by rw [upd_ne hba]; exact hb)
  have run := F1.run _ X.stack _ _ ⟨[Value.ref (h0.objs.size + 1)], []⟩ [Value.ref (h0.objs.size + 1)] _ _ (fun _ _ _ => False) (room.make C [] []) (J.env0.make C [] []) (bI _ [Value.ref (h0.objs.size + 1)] J.kIn rfl) one asked
  refine wpAny_call (PySem.HandSPX.call_own F.excBase_ValueError (fun Y => PySem.HandSPX.refsVE_contains Y bm refs) (I.kIn _ _ look) (PySem.W.looks_findIn I.kIn iC) (fun self => PySem.W.bind_fn I.kIn self tI) (Nat.zero_le _)
    (codeAny_mono run fun r s' out => ?_))
  match r, out with
  | .error er, out => exact out.elim
  | .ok .next, out => exact False.elim out
  | .ok .brk, out => exact False.elim out
  | .ok .cont, out => exact False.elim out
  | .ok (.ret u), out =>
    obtain ⟨v, H2, os2, bare2, un2, hok2, rv, ev, d, fs, ea, ed, hd1, q2⟩ := out
    subst ev
    obtain ⟨h2, g2, d2, t2, os'⟩ := s'
    exact ⟨rv, mk_end (raises_own T.exC T.tyC) I up kept un2 hok2 os2 bare2 ea ed hd1 q2⟩
end
end SW

set_option Elab.async false
set_option linter.all false
set_option maxRecDepth 100000
set_option maxHeartbeats 4000000
namespace SW
open PySem PySem.Spec PyProof.Rows L2
/-- what a law's def promises that makes functions: its table of code objects is at T, empty -/
def spLawT (K : PySem.W.Frag) (T : Addr) : Sp := fun vs H Q _ => ∃ (a : Addr) (ns : List Int), vs = [.ref a] ∧ SqL K H a (ns.map V.int) ∧ H T = some (.tbl #[]) ∧ ∀ H', Q (.bl true) H'
theorem walkT {l : PySem.W.OpenLaw} {q : Program} {loose : List Str} {XP : (Str → Option Value) → Heap → Prop} {YP : World → Heap → Prop} {d : DefRec} {K : Params → PySem.W.Frag} {k : Nat} (hr : Room k callerA) (hn : l.most = some 63) (hdf : d.params.defaults = [])
    (hY : ∀ (w : World) (h : Heap), YP w h → (K w.params).In h)
    (F : ∀ (w : World) (mg : Str → Option Value) (fa : Addr) (h : Heap), YP w h → (K w.params).In h → h.Ns mainGlobals mg → mg d.name = some (.ref fa) →
      ∃ (fd : FuncData) (c T : Addr), h.get? T = some { cls := .none, data := .fields #[] } ∧ (K w.params).lookup T = none ∧ PySem.W.CodeHd h c T ∧ (∀ (s : Shared) (u : Value), BindsTo s fd ⟨[u], []⟩ [("_law_script", u)]) ∧
        ∀ base : Heap, (K w.params).In base → base.Ns mainGlobals mg → LamX.TabB base mg c T → FnOk l.prog w (K w.params) mg base CX0 k fa fd ["_law_script"] (spLawT (K w.params) T)) :
    PySem.W.WalkO q loose XP YP l.row.toRowW d [] (fun f vs => PySem.call f vs) := by
  refine LamX.walk_ofTs (n := 63) (k := k) (x := "_law_script") (CX := fun _ => CX0) hn (by decide) hdf hr hY (fun w mg fa h Y X G m => ?_) (fun _ _ _ _ _ z => z)
  obtain ⟨fd, c, T, h1, h2, h3, h4, h5⟩ := F w mg fa h Y X G m
  refine ⟨fd, [(c, T)], spLawT (K w.params) T, fun p hp => ?_, fun p hp => ?_, fun p hp => ?_, h4, fun H a ns _ _ hT hS => ⟨a, ns, rfl, hS, hT (c, T) (List.mem_singleton.mpr rfl), fun _ => rfl⟩, fun base i1 i2 i3 => h5 base i1 i2 (i3 (c, T) (List.mem_singleton.mpr rfl))⟩
  · obtain rfl := List.mem_singleton.mp hp
    exact h1
  · obtain rfl := List.mem_singleton.mp hp
    exact h2
  · obtain rfl := List.mem_singleton.mp hp
    exact h3
/-! ### a law's def that tells its code object -/
structure DfC (K : PySem.W.Frag) (mg : Str → Option Value) (x : Str) (st : Stmt) (ps : List Str) (c : Addr) : Prop where
  ex : ∃ (f : Addr) (oc : Value) (od an : Option Addr) (kV doc pm ct : Value) (osl : Array (Option Value)), K.lookup f = some ⟨oc, od, .func (PySem.W.fnOf x x (defArgs st) (defBody st) (defScope st) .none kV doc pm an (.ref c) ct), osl⟩ ∧
    PySem.W.codeIn K (.ref c) x = true ∧ mg x = some (.ref f)
theorem DfC.ok {P : Program} {w : World} {K : PySem.W.Frag} {mg : Str → Option Value} {x : Str} {st : Stmt} {N ps : List Str} {k : Nat} {sp : Sp} {c fa : Addr} (D : DfC K mg x st ps c) (hmg : mg x = some (.ref fa)) (S : FnScope N ps (defScope st)) (len : ∀ vs H Q E, sp vs H Q E → vs.length = ps.length)
    (hb : ∀ (kV doc pm : Value) (an : Option Addr) (cdv ct : Value) (us : List Value), us.length = ps.length → bindArgs (PySem.W.fnOf x x (defArgs st) (defBody st) (defScope st) .none kV doc pm an cdv ct) ⟨us, []⟩ = pure (ps.zip us)) {Φ : Heap → Prop}
    (hbody : ∀ (base : Heap) (f : Addr) (A : Around) (outer : List Env) (s : Shared) (H : Hp) (vs : List V) (Q : VK) (E : XK), Φ base → Room k (A.deeper (envOfC x (defScope st) s.heap.objs.size f (.ref c))) → sp vs H Q E →
      ∃ t, PSs (cxOf CX0 P w K mg base N x (defScope st) f (.ref c) A outer s H E).nox (defBody st) t ∧ t { nx := fun _ H' => Q .non H', rt := Q } (L2.start N vs) H) :
    ∃ fd : FuncData, (∀ (s : Shared) (us : List Value), us.length = ps.length → BindsTo s fd ⟨us, []⟩ (ps.zip us)) ∧ ∀ base : Heap, Φ base → FnOk P w K mg base CX0 (k + 1) fa fd ps sp := by
  obtain ⟨f, oc, od, an, kV, doc, pm, ct, osl, lk, hcd, m⟩ := D.ex
  have e : f = fa := by
    rw [hmg] at m
    cases m
    rfl
  subst e
  refine ⟨_, fun s us hl => .of_eq (hb kV doc pm an (.ref c) ct us hl), fun base hΦ => fn_of lk hcd S len (fun A outer s H vs Q E hr h => ?_)⟩
  obtain ⟨t, good, asked⟩ := hbody base f A outer s H vs Q E hΦ hr h
  exact ⟨t, good.nox, asked⟩
theorem dfC_mk {K : PySem.W.Frag} {mg : Str → Option Value} {h : Heap} {x : Str} {st : Stmt} {ps : List Str} {c f : Addr} {oc : Value} {od an : Option Addr} {kV doc pm ct : Value} {osl : Array (Option Value)} (X : K.In h) (G : h.Ns mainGlobals mg)
    (a : PySem.W.nsIn K mainGlobals x = some (some (.ref f))) (l : K.lookup f = some ⟨oc, od, .func (PySem.W.fnOf x x (defArgs st) (defBody st) (defScope st) .none kV doc pm an (.ref c) ct), osl⟩) (cd : PySem.W.codeIn K (.ref c) x = true) : DfC K mg x st ps c :=
  ⟨f, oc, od, an, kV, doc, pm, ct, osl, l, cd, PySem.W.mg_of X G a⟩
end SW

set_option Elab.async false
set_option linter.all false
set_option maxRecDepth 100000
set_option maxHeartbeats 4000000
namespace SW
open PySem PySem.Spec PyProof.Rows L2
/-! ### what the making of a function keeps -/
theorem ext_same {H H' : Hp} (s : Same H H') : LamX.ExtN H H' := LamX.ExtN.of fun b o h => s b o h
theorem ext_tp {H H' : Hp} (e : LamX.ExtN H H') : Tp H H' := fun a xs h => by
  rcases h with h | ⟨o, h⟩
  · exact .inl (e _ _ h (fun ps q => nomatch q))
  · exact .inr ⟨o, e _ _ h (fun ps q => nomatch q)⟩
theorem Rng.ext {H H' : Hp} {r l : Addr} (g : Rng H r l) (e : LamX.ExtN H H') : Rng H' r l := by
  obtain ⟨ns, i, d, st, c, h1, h2, h3, h4⟩ := g
  exact ⟨ns, i, d, st, c, e _ _ h1 (fun ps q => nomatch q), e _ _ h2 (fun ps q => nomatch q), h3, h4⟩
theorem tabs_kp {T : List (Addr × Str)} {H H' : Hp} {r : Addr} {z : List V} (t : LamX.Tabs T H) (k : Kp r H H') (h : H r = some (.lst z)) : LamX.Tabs T H' := fun p hp => by
  obtain ⟨ps, h1, h2, h3⟩ := t p hp
  refine ⟨ps, k _ _ (fun e => by rw [e, h] at h1; cases h1) h1, h2, fun pos cv hc => ?_⟩
  obtain ⟨c, e1, e2⟩ := h3 pos cv hc
  exact ⟨c, e1, k _ _ (fun e => by rw [e, h] at e2; cases e2) e2⟩
theorem tabs_same {T : List (Addr × Str)} {H H' : Hp} (t : LamX.Tabs T H) (s : Same H H') : LamX.Tabs T H' := t.ext fun b o h => s b o h
/-- the law's try over an error without a field -/
theorem rz_try {K : PySem.W.Frag} {BS C : Addr} {H : Hp} {Q : VK} (hx : PySem.W.exmOne K (.ref C) (.ref BS) = some true) (ec : ErrC K C) (q : ∀ p H', SqT K H' p [.str "InvalidAddress", .non] → Same H H' → Q (.ref p) H') :
    Rz0 H (fun cls d H' => ∃ C dd fs n v, cls = .ref C ∧ d = some dd ∧ PySem.W.exmOne K cls (.ref BS) = some true ∧ ErrC K C ∧ H' dd = some (.xd fs) ∧ fs.lookup ("code" : Str) = some (V.str n) ∧ ErV fs n v ∧ ∀ p, H' p = none → Q (.ref p) (upd H' p (.tup [.str n, v]))) C "InvalidAddress" := by
  intro d H2 m hd h2 s
  refine ⟨C, d, _, "InvalidAddress", .non, rfl, rfl, hx, ec, h2, ?_, .addr, fun p hp => q p _ (SqT.of upd_same) (s.trans (same_new hp))⟩
  have e : (("code" : Str) == ("message" : Str)) = false := by decide +kernel
  simp only [erf0, List.lookup, e, beq_self_eq_true]
theorem addr_pair {K : PySem.W.Frag} {H : Hp} {p p2 : Addr} {Q : VK} (h : SqT K H p [.str "InvalidAddress", .non]) (h2 : SqT K H p2 [.str "InvalidAddress", .non]) (q : Q (.bl false) H) : rNeD K (.ref p) (.ref p2) H Q := by
  refine ⟨.tuple [.str "InvalidAddress", .none], .tuple [.str "InvalidAddress", .none], .tup h (.cons (.str _) (.cons .non .nil)), .tup h2 (.cons (.str _) (.cons .non .nil)), by decide +kernel, by decide +kernel, ?_⟩
  have e : (!PyData.eqv (.tuple [.str "InvalidAddress", .none]) (.tuple [.str "InvalidAddress", .none])) = false := by decide +kernel
  rw [e]
  exact q
/-- what leaves the lambda's body leaves the lambda (the program stands apart, for the unifier's sake) -/
theorem pass_lam2 {X : Cx} {P : Program} {w : World} {A : Around} {outer : List Env} {s : Shared} {H : Hp} {scope : Scope} {f c' : Addr} {E : XK} (hP : X.prog = P := by rfl) (hw : X.w = w := by rfl) : Passes (L2.CX P w) (LamX.lamCx X A outer s H E scope f c') E := by
  subst hP
  subst hw
  exact pass_lam
theorem try_val {K : PySem.W.Frag} {T BS C : Addr} {Lq : Str} {σ : L2.St} {H : Hp} {tl : XK → TE} {Q : VK} (tabs : LamX.Tabs [(T, Lq)] H) (hx : PySem.W.exmOne K (.ref C) (.ref BS) = some true) (ec : ErrC K C)
    (ask : ∀ H1, LamX.ExtN H H1 → ∀ (Ech : XK), Rz0 H1 Ech C "InvalidAddress" → ∀ Q', tl Ech σ H1 Q') (k : ∀ p H2, SqT K H2 p [.str "InvalidAddress", .non] → LamX.ExtN H H2 → LamX.Tabs [(T, Lq)] H2 → Q (.ref p) H2) :
    LamX.tLam [(T, Lq)] (TTry K BS) tl σ H Q := by
  refine ⟨tabs, fun H1 e1 t1 => ?_⟩
  exact ask H1 e1 _ (rz_try (Q := Q) hx ec (fun p H' hp S => k p H' hp (e1.trans (ext_same S)) (tabs_same t1 S))) _
theorem try_test {K : PySem.W.Frag} {T BS C : Addr} {Lq : Str} {σ : L2.St} {H : Hp} {tl : XK → TE} {QF : Bool → Hp → Prop} (tabs : LamX.Tabs [(T, Lq)] H) (hx : PySem.W.exmOne K (.ref C) (.ref BS) = some true) (ec : ErrC K C)
    (ask : ∀ H1, LamX.ExtN H H1 → ∀ (Ech : XK), Rz0 H1 Ech C "InvalidAddress" → ∀ Q', tl Ech σ H1 Q') (k : ∀ H2, LamX.ExtN H H2 → LamX.Tabs [(T, Lq)] H2 → QF false H2) :
    tTest (tOp (rNeD K) (LamX.tLam [(T, Lq)] (TTry K BS) tl) (tTup (tCons (tC (.str "InvalidAddress")) (tCons (tC .non) tNil)))) σ H QF := by
  refine ⟨tabs, fun H1 e1 t1 => ?_⟩
  refine ask H1 e1 _ (rz_try (Q := fun x H1 => tTup (tCons (tC (.str "InvalidAddress")) (tCons (tC .non) tNil)) σ H1 fun y H2 => rNeD K x y H2 fun x H' => ∃ k, x = .bl k ∧ QF k H') hx ec (fun p H' hp S => ?_)) _
  refine ⟨(by show 2 ≤ sizeLine; decide), fun p2 hp2 => ?_⟩
  have S2 := S.trans (same_new (o := .tup [.str "InvalidAddress", .non]) hp2)
  exact addr_pair ((tp_new hp2).sq hp) (SqT.of upd_same) ⟨_, rfl, k _ (e1.trans (ext_same S2)) (tabs_same t1 S2)⟩
theorem fun0_mk {K : PySem.W.Frag} {qual : Str} {st : Stmt} {f : Addr} {od an : Option Addr} {sl : Array (Option Value)} {oc kV dc pm cd ct : Value} {ps : List Str} (l : K.lookup f = some ⟨oc, od, .func (PySem.W.fnOf "__init__" qual (defArgs st) (defBody st) (defScope st) .none kV dc pm an cd ct), sl⟩)
    (c : PySem.W.codeIn K cd qual = true) (k : PySem.W.keepIn K (.ref f) = true) (hb : ∀ (kV doc pm : Value) (an : Option Addr) (cdv ct : Value) (us : List Value), us.length = ps.length → bindArgs (PySem.W.fnOf "__init__" qual (defArgs st) (defBody st) (defScope st) .none kV doc pm an cdv ct) ⟨us, []⟩ = pure (ps.zip us)) :
    ∃ fd, Fun K "__init__" qual st f fd ∧ Binds K fd ps [] := by
  have F := fun_mk (st := st) l c k
  exact ⟨_, F, F.binds (ps := ps) hb⟩
theorem errc_mk {K : PySem.W.Frag} {C : Addr} (h1 : PySem.W.findIn K (.ref C) "__getattribute__" = some (some (.builtin "BaseException.__getattribute__"))) (h2 : PySem.W.findIn K (.ref C) "__getattr__" = some none) (h3 : PySem.W.subIn K (.ref C) (.type "BaseException") = some true) (h4 : PySem.W.hasDictIn K C = true)
    (n1 : PySem.W.findIn K (.ref C) "code" = some none) (n2 : PySem.W.findIn K (.ref C) "position" = some none) (n3 : PySem.W.findIn K (.ref C) "limit" = some none) (n4 : PySem.W.findIn K (.ref C) "variables" = some none) (n5 : PySem.W.findIn K (.ref C) "number" = some none) (n6 : PySem.W.findIn K (.ref C) "name" = some none) : ErrC K C := by
  refine ⟨⟨h1, h2, h3, h4⟩, fun f hf => ?_⟩
  simp only [List.mem_cons, List.not_mem_nil, or_false] at hf
  rcases hf with rfl | rfl | rfl | rfl | rfl | rfl
  · exact n1
  · exact n2
  · exact n3
  · exact n4
  · exact n5
  · exact n6
/-- what the head says of an error without a field -/
def Er0 (K : PySem.W.Frag) (mg : Str → Option Value) (stB stC : Stmt) (x qual : Str) : Prop := ∃ B C f, Bas K mg "ScatterError" B "ScatterError.__init__" stB "something that was passed is not valid" ∧ (∃ fd, Fun K "__init__" qual stC f fd ∧ Binds K fd ["self"] []) ∧
  PySem.W.findIn K (.ref C) "__init__" = some (some (.ref f)) ∧ PySem.W.typeIn K (.ref f) = some (.type "function") ∧ Er K C x "code" ∧ mg x = some (.ref C) ∧ ErrC K C ∧ PySem.W.exmOne K (.ref C) (.ref B) = some true ∧ ∃ BM, mg "Missing" = some (.ref BM)
theorem exm_mk {K : PySem.W.Frag} {c : Value} {B : Addr} (h1 : PySem.W.subIn K (.ref B) (.type "BaseException") = some true) (h2 : (PySem.W.clsIn K B).isSome = true) (h3 : PySem.W.typeIn K (.ref B) = some (.type "type")) (h4 : PySem.W.subIn K c (.ref B) = some true) : PySem.W.exmOne K c (.ref B) = some true := by
  unfold PySem.W.exmOne
  rw [h1]
  show PySem.W.kitCls K c (.ref B) = some true
  unfold PySem.W.kitCls
  show (if ((PySem.W.clsIn K B).isSome && PySem.W.typeIn K (.ref B) == some (.type "type")) = true then PySem.W.subIn K c (.ref B) else none) = some true
  rw [h2, h3, if_pos (by rfl)]
  exact h4
theorem dp_str {K : PySem.W.Frag} {H : Hp} (c : Str) : Dp K H (.str c) (.str c) := .str c
theorem sm_str {n : Nat} (c : Str) : Sm n (.str c) := by cases n <;> (unfold Sm; trivial)
end SW

set_option Elab.async false
set_option linter.all false
set_option maxRecDepth 100000
set_option maxHeartbeats 4000000
namespace SW
open PySem PySem.Spec PyProof.Rows L2
def top (i : Nat) : Stmt := PySem.Challenge.pw_scatterwords_k09_places_compared.main.body.getD i (.Pass ⟨0, 0, 0, 0⟩)
abbrev s_ScatterError_init : Stmt := inCls (top 1) 0
abbrev s_InvalidAddress_init : Stmt := inCls (top 2) 0
abbrev s_Missing_init : Stmt := inCls (top 3) 0
abbrev s_compare : Stmt := top 6
abbrev s__nodes_on_the_way : Stmt := top 7
abbrev s__inner : Stmt := top 8
abbrev s__law_draws : Stmt := top 10
abbrev s__law_draw : Stmt := top 11
abbrev s__law_pick : Stmt := top 12
abbrev s__law_great : Stmt := top 13
abbrev s__law_same : Stmt := top 14
abbrev s__law_field : Stmt := top 15
abbrev s__law_try : Stmt := top 16
abbrev s__law_tree : Stmt := top 17
abbrev s__law_word : Stmt := top 18
abbrev s__law_parts : Stmt := top 19
abbrev s__law_count : Stmt := top 20
abbrev s__law_places : Stmt := top 21
abbrev s__law_spots : Stmt := top 22
abbrev s__law_ahead : Stmt := top 23
abbrev s__law_wide : Stmt := top 24
abbrev s__law_spot : Stmt := top 25
abbrev s__law_bad_spot : Stmt := top 26
abbrev s__law_order : Stmt := top 27
abbrev s_law : Stmt := top 28
section
variable {P : Program} {w : World} {K : PySem.W.Frag} {mg : Str → Option Value} {base : Heap}
/-! ### _law_draws -/
def spDraws (K : PySem.W.Frag) : Sp := fun vs H Q _ => ∃ (a : Addr) (ns : List Int), vs = [.ref a] ∧ SqL K H a (ns.map V.int) ∧ ∀ r l H', Rng H' r l → Same H H' → Q (.ref r) H'
theorem sc__law_draws : FnScope ["_law_script", "_law_state", "_law_cell"] ["_law_script"] (defScope s__law_draws) := ⟨rfl, rfl, rfl, by decide +kernel, rfl, by decide +kernel, by decide +kernel⟩
theorem ok_draws (D : Df K mg "_law_draws" s__law_draws ["_law_script"]) (bi : Bi mg) : Cal P w K mg base 1 "_law_draws" ["_law_script"] (spDraws K) := by
  refine D.ok sc__law_draws (fun vs H Q E h => ?_) (fun f cdv A outer s H vs Q E hr h => ?_)
  · obtain ⟨a, ns, rfl, _⟩ := h
    rfl
  obtain ⟨a, ns, rfl, hS, q⟩ := h
  refine ⟨_, (pss_cons (ps_set (i := 1) sc__law_draws.nd rfl (.inl rfl) pe_int)
      (pss_cons (ps_for PassesOwn.never rfl (pi_list (pe_slice sl_list (pv 0) po_none (po_some pe_int))) (pg_name (i := 2) sc__law_draws.nd rfl (.inl rfl)) (pss_one (ps_set (i := 1) sc__law_draws.nd rfl (.inl rfl) (pe_op op_modN (pe_callTy call_int1 (by rfl) bi.int (by decide +kernel) (pa_cons (pe_op op_add (pe_op op_add (pe_op op_mul (pv 1) pe_int) (pe_op op_modN (pe_callTy call_int1 (by rfl) bi.int (by decide +kernel) (pa_cons (pv 2) pa_nil)) pe_int)) pe_int) pa_nil)) pe_int))))
      (pss_one (ps_ret (pe_lst (pa_cons (pe_callTy call_list_of (by rfl) bi.list (by decide +kernel) (pa_cons (pe_slice sl_list (pv 0) po_none (po_some pe_int)) pa_nil)) (pa_cons pe_int (pa_cons pe_int (pa_cons (pv 1) (pa_cons pe_int pa_nil)))))))))), ?_⟩
  obtain ⟨ms, hms⟩ := cutV_ints ns none (some 63)
  refine ⟨_, rfl, 63, rfl, a, _, rfl, hS, fun c nc => ?_⟩
  have k1 : Same H (upd H c (.lst (cutV (ns.map V.int) none (some 63)))) := same_new nc
  refine ⟨c, rfl, ⟨_, SqL.of upd_same⟩, for_list (xs := cutV (ns.map V.int) none (some 63)) (fun i σ' H' => ∃ st y2, σ' = [some (.ref a), some (.int st), y2] ∧ H' = upd H c (.lst (cutV (ns.map V.int) none (some 63)))) ?_ ?_ ?_ ?_⟩
  · exact ⟨_, none, rfl, rfl⟩
  · rintro i σ' H' _ ⟨st, y2, _, rfl⟩
    exact SqL.of upd_same
  · rintro i x σ' H' hx ⟨st, y2, rfl, rfl⟩
    rw [hms, List.getElem?_map] at hx
    obtain ⟨m, _, rfl⟩ := Option.map_eq_some_iff.mp hx
    refine ⟨_, rfl, _, _, rfl, rfl, .inr (by decide), _, rfl, .inl ⟨_, rfl, _, _, rfl, rfl, (show (2147483629 : Int) ≠ 0 by decide), _, _, rfl, rfl, _, _, rfl, rfl, .inl ⟨_, rfl, _, _, rfl, rfl, (show (2147483647 : Int) ≠ 0 by decide), ?_⟩⟩⟩
    exact ⟨_, _, rfl, rfl⟩
  · rintro σ' H' ⟨st, y2, rfl, rfl⟩
    refine ⟨_, rfl, 63, rfl, a, _, rfl, k1.seq hS, fun c2 nc2 => ?_⟩
    refine ⟨c2, _, rfl, .inl (SqL.of upd_same), fun l hl => ?_⟩
    refine ⟨_, rfl, (by show 5 ≤ sizeLine; decide), fun r hr' => ?_⟩
    have e1 := upd_same (H := upd (upd H c (.lst (cutV (ns.map V.int) none (some 63)))) c2 (.lst (cutV (ns.map V.int) none (some 63)))) (a := l) (o := .lst (cutV (ns.map V.int) none (some 63)))
    have lr := ne_of_none e1 hr'
    refine q r l _ ⟨ms, 0, 0, st, 0, upd_same, ?_, by decide, lr⟩ (k1.trans ((same_new nc2).trans ((same_new hl).trans (same_new hr'))))
    rw [upd_ne lr, e1, hms]
/-! ### _law_draw -/
def spDrawW : Sp := fun vs H Q _ => ∃ r l m, vs = [.ref r, .int m] ∧ 0 < m ∧ m.natAbs.log2 < 9000 ∧ Rng H r l ∧ ∀ (v : Int) H', 0 ≤ v → v < m → Rng H' r l → Kp r H H' → Q (.int v) H'
def spDraw : Sp := fun vs H Q _ => ∃ r l m, vs = [.ref r, .int m] ∧ 0 < m ∧ m < 1073741824 ∧ Rng H r l ∧ ∀ (v : Int) H', 0 ≤ v → v < m → Rng H' r l → Kp r H H' → Q (.int v) H'
theorem sc__law_draw : FnScope ["_law_rng", "_law_many", "_law_cell", "_law_digit", "_law_seed"] ["_law_rng", "_law_many"] (defScope s__law_draw) := ⟨rfl, rfl, rfl, by decide +kernel, rfl, by decide +kernel, by decide +kernel⟩
theorem ok_drawW (D : Df K mg "_law_draw" s__law_draw ["_law_rng", "_law_many"]) (bi : Bi mg) : Cal P w K mg base 1 "_law_draw" ["_law_rng", "_law_many"] spDrawW := by
  refine D.ok sc__law_draw (fun vs H Q E h => ?_) (fun f cdv A outer s H vs Q E hr h => ?_)
  · obtain ⟨r, l, m, rfl, _⟩ := h
    rfl
  obtain ⟨r, l, m, rfl, hm, hm2, ⟨ns, i, d, st, c, h1, h2, h3, h4⟩, q⟩ := h
  refine ⟨_, (pss_cons (ps_asg (pe_op op_add (pe_ix ix_list (pv 0) pe_int (fun _ _ => rfl)) pe_int) (pg_sub (pv 0) pe_int set_list))
      (C8.pss_cut (ps_if (PW.pt (pw_and (pt_cmpR op_eq (pe_ix ix_list (pv 0) pe_int (fun _ _ => rfl)) pe_int (nomark _)) (pw_and1 (pt_cmpR op_lt (pe_ix ix_list (pv 0) pe_int (fun _ _ => rfl)) (pe_callB call_len_seq (by rfl) bi.len PySem.boot_len (pa_cons (pe_ix ix_list (pv 0) pe_int (fun _ _ => rfl)) pa_nil)) (nomark _))))) (pss_cons (ps_set (i := 2) sc__law_draw.nd rfl (.inl rfl) (pe_ix ix_list (pe_ix ix_list (pv 0) pe_int (fun _ _ => rfl)) (pe_ix ix_list (pv 0) pe_int (fun _ _ => rfl)) (fun _ _ => rfl)))
      (pss_cons (ps_asg (pe_op op_add (pe_ix ix_list (pv 0) pe_int (fun _ _ => rfl)) pe_int) (pg_sub (pv 0) pe_int set_list))
      (pss_one (ps_if (pt_cmpR op_ge (pv 2) (pe_op op_pow pe_int pe_int) (nomark _)) (pss_one (ps_asg (pv 2) (pg_sub (pv 0) pe_int set_list))) (pss_one (ps_asg (pe_op op_modN (pe_callTy call_int1 (by rfl) bi.int (by decide +kernel) (pa_cons (pe_op op_add (pe_op op_add (pe_op op_mul (pe_ix ix_list (pv 0) pe_int (fun _ _ => rfl)) pe_int) (pe_op op_mul (pe_op op_modN (pe_callTy call_int1 (by rfl) bi.int (by decide +kernel) (pa_cons (pv 2) pa_nil)) pe_int) pe_int)) pe_int) pa_nil)) pe_int) (pg_sub (pv 0) pe_int set_list))))))) pss_nil)
      (pss_cons (ps_if (pt_cmpR op_gt (pe_ix ix_list (pv 0) pe_int (fun _ _ => rfl)) pe_int (nomark _)) (pss_cons (ps_set (i := 3) sc__law_draw.nd rfl (.inl rfl) (pe_op op_modN (pe_callTy call_int1 (by rfl) bi.int (by decide +kernel) (pa_cons (pe_ix ix_list (pv 0) pe_int (fun _ _ => rfl)) pa_nil)) (pv 1)))
      (pss_cons (ps_asg (pe_op op_fdivW (pe_ix ix_list (pv 0) pe_int (fun _ _ => rfl)) (pv 1)) (pg_sub (pv 0) pe_int set_list))
      (pss_one (ps_ret (pv 3))))) pss_nil)
      (pss_cons (ps_set (i := 4) sc__law_draw.nd rfl (.inl rfl) (pe_ix ix_list (pv 0) pe_int (fun _ _ => rfl)))
      (pss_cons (ps_asg (pe_op op_modN (pe_callTy call_int1 (by rfl) bi.int (by decide +kernel) (pa_cons (pe_op op_add (pe_op op_add (pe_op op_add (pe_op op_mul (pv 4) pe_int) (pe_op op_mul (pe_op op_fdivN (pv 4) pe_int) pe_int)) (pe_op op_mul (pe_ix ix_list (pv 0) pe_int (fun _ _ => rfl)) pe_int)) pe_int) pa_nil)) pe_int) (pg_sub (pv 0) pe_int set_list))
      (pss_one (ps_ret (pe_op op_modN (pe_callTy call_int1 (by rfl) bi.int (by decide +kernel) (pa_cons (pe_op op_add (pe_op op_fdivN (pe_ix ix_list (pv 0) pe_int (fun _ _ => rfl)) pe_int) (pe_op op_mul (pe_op op_modN (pe_callTy call_int1 (by rfl) bi.int (by decide +kernel) (pa_cons (pe_ix ix_list (pv 0) pe_int (fun _ _ => rfl)) pa_nil)) pe_int) pe_int)) pa_nil)) (pv 1))))))))), ?_⟩
  -- rng[4] += 1
  refine ⟨_, rfl, _, _, _, _, rfl, rfl, SqL.of h1, rfl, _, _, rfl, rfl, _, rfl, r, _, 4, 4, rfl, rfl, h1, rfl, ?_⟩
  have k1 : Kp r H (upd H r (.lst [.ref l, .int i, .int d, .int st, .int (c + 1)])) := Kp.at
  generalize e1 : upd H r (.lst (List.set [.ref l, .int i, .int d, .int st, .int c] 4 (.int (c + 1)))) = H1
  have g1 : H1 r = some (.lst [.ref l, .int i, .int d, .int st, .int (c + 1)]) := by
    rw [← e1]
    exact upd_same
  have k1 : Kp r H H1 := by
    rw [← e1]
    exact Kp.at
  have g2 := k1 _ _ h4 h2
  -- the first if: anything may stand in the three
  refine ⟨fun σ' H' => ∃ y2 i d st c, σ' = [some (.ref r), some (.int m), y2, none, none] ∧ H' r = some (.lst [.ref l, .int i, .int d, .int st, .int c]) ∧ 0 ≤ i ∧ Kp r H H', ?_, ?_⟩
  · refine ⟨_, rfl, _, _, _, _, rfl, rfl, SqL.of g1, rfl, rfl, _, rfl, ?_⟩
    refine ite2 (fun _ => ?_) (fun _ => ⟨none, i, d, st, c + 1, rfl, g1, h3, k1⟩)
    refine ⟨_, rfl, _, _, _, _, rfl, rfl, SqL.of g1, rfl, _, rfl, _, _, _, _, rfl, rfl, SqL.of g1, rfl, l, _, rfl, .inl (SqL.of g2), _, _, rfl, rfl, _, rfl, ?_⟩
    refine ite2 (fun hc => ?_) (fun _ => ⟨none, i, d, st, c + 1, rfl, g1, h3, k1⟩)
    have hc' : i < ((ns.map V.int).length : Int) := of_decide_eq_true hc
    rw [List.length_map] at hc'
    have hi : i.toNat < ns.length := by omega
    have ha : atI (ns.map V.int) i = some (.int ns[i.toNat]) := at_of (j := i.toNat) (by omega) (by rw [List.getElem?_map, List.getElem?_eq_getElem hi]; rfl)
    refine ⟨_, rfl, _, _, _, _, rfl, rfl, SqL.of g1, rfl, _, rfl, _, _, _, _, rfl, rfl, SqL.of g1, rfl, _, _, _, _, rfl, rfl, SqL.of g2, ha, ?_⟩
    refine ⟨_, rfl, _, _, _, _, rfl, rfl, SqL.of g1, rfl, _, _, rfl, rfl, _, rfl, r, _, 1, 1, rfl, rfl, g1, rfl, ?_⟩
    generalize e3 : upd H1 r (.lst (List.set [.ref l, .int i, .int d, .int st, .int (c + 1)] 1 (.int (i + 1)))) = H2
    have g3 : H2 r = some (.lst [.ref l, .int (i + 1), .int d, .int st, .int (c + 1)]) := by
      rw [← e3]
      exact upd_same
    have k3 : Kp r H H2 := by
      rw [← e3]
      exact k1.trans Kp.at
    refine ⟨_, rfl, _, _, rfl, rfl, ⟨by decide, by decide, by decide⟩, _, _, rfl, rfl, _, rfl, ?_⟩
    refine ite2 (fun _ => ?_) (fun _ => ?_)
    · refine ⟨_, rfl, _, rfl, r, _, 2, 2, rfl, rfl, g3, rfl, ?_⟩
      exact ⟨_, i + 1, _, st, c + 1, rfl, upd_same, by omega, k3.trans Kp.at⟩
    · refine ⟨_, rfl, _, _, _, _, rfl, rfl, SqL.of g3, rfl, _, _, rfl, rfl, .inr (by decide), ?_⟩
      refine ⟨_, rfl, .inl ⟨_, rfl, _, _, rfl, rfl, (show (2147483629 : Int) ≠ 0 by decide), _, _, rfl, rfl, .inr (by decide), _, _, rfl, rfl, _, _, rfl, rfl, .inl ⟨_, rfl, _, _, rfl, rfl, (show (2147483647 : Int) ≠ 0 by decide), ?_⟩⟩⟩
      refine ⟨_, rfl, r, _, 3, 3, rfl, rfl, g3, rfl, ?_⟩
      exact ⟨_, i + 1, d, _, c + 1, rfl, upd_same, by omega, k3.trans Kp.at⟩
  · rintro σ' H' ⟨y2, i, d, st, c, rfl, g1, h3, k1⟩
    refine ⟨_, rfl, _, _, _, _, rfl, rfl, SqL.of g1, rfl, _, _, rfl, rfl, _, rfl, ?_⟩
    refine ite2 (fun _ => ?_) (fun _ => ?_)
    · refine ⟨_, rfl, _, _, _, _, rfl, rfl, SqL.of g1, rfl, .inl ⟨_, rfl, _, rfl, _, _, rfl, rfl, by omega, ?_⟩⟩
      refine ⟨_, rfl, _, _, _, _, rfl, rfl, SqL.of g1, rfl, _, rfl, _, _, rfl, rfl, ⟨hm, hm2⟩, _, rfl, r, _, 2, 2, rfl, rfl, g1, rfl, ?_⟩
      refine ⟨_, rfl, q _ _ (Int.fmod_nonneg_of_pos _ hm) (Int.fmod_lt_of_pos _ hm) ?_ (k1.trans Kp.at)⟩
      exact ⟨ns, i, _, st, c, upd_same, (k1.trans Kp.at) _ _ h4 h2, h3, h4⟩
    · refine ⟨_, rfl, _, _, _, _, rfl, rfl, SqL.of g1, rfl, ?_⟩
      refine ⟨_, rfl, _, _, rfl, rfl, .inr (by decide), _, rfl, _, _, rfl, rfl, ⟨by decide, by decide⟩, _, _, rfl, rfl, .inr (by decide), _, _, rfl, rfl, _, rfl, _, _, _, _, rfl, rfl, SqL.of g1, rfl, _, _, rfl, rfl, .inr (by decide), _, _, rfl, rfl, _, _, rfl, rfl, .inl ⟨_, rfl, _, _, rfl, rfl, (show (2147483647 : Int) ≠ 0 by decide), ?_⟩⟩
      refine ⟨_, rfl, r, _, 3, 3, rfl, rfl, g1, rfl, ?_⟩
      refine ⟨_, rfl, _, _, _, _, rfl, rfl, SqL.of upd_same, rfl, _, _, rfl, rfl, ⟨by decide, by decide⟩, _, rfl, _, _, _, _, rfl, rfl, SqL.of upd_same, rfl, .inl ⟨_, rfl, _, _, rfl, rfl, (show (7919 : Int) ≠ 0 by decide), _, _, rfl, rfl, .inr (by decide), _, _, rfl, rfl, .inl ⟨_, rfl, _, rfl, _, _, rfl, rfl, by omega, ?_⟩⟩⟩
      refine q _ _ (Int.fmod_nonneg_of_pos _ hm) (Int.fmod_lt_of_pos _ hm) ?_ (k1.trans Kp.at)
      exact ⟨ns, i, _, _, c, upd_same, (k1.trans Kp.at) _ _ h4 h2, h3, h4⟩
theorem ok_draw (D : Df K mg "_law_draw" s__law_draw ["_law_rng", "_law_many"]) (bi : Bi mg) : Cal P w K mg base 1 "_law_draw" ["_law_rng", "_law_many"] spDraw := (ok_drawW D bi).imp fun vs H Q E h => by
  obtain ⟨r, l, m, e, hm, hm2, h⟩ := h
  exact ⟨r, l, m, e, hm, Nat.lt_of_lt_of_le (PySem.Flt.log2_lt_of (k := 30) (by decide) (by omega)) (by decide), h⟩
/-! ### _law_pick -/
def spPick : Sp := fun vs H Q _ => ∃ r l t xs, vs = [.ref r, .ref t] ∧ Rng H r l ∧ H t = some (.lst xs) ∧ t ≠ r ∧ 0 < xs.length ∧ xs.length ≤ 1000 ∧ ∀ (j : Nat) x H', xs[j]? = some x → Rng H' r l → Kp r H H' → Q x H'
theorem sc__law_pick : FnScope ["_law_rng", "_law_things"] ["_law_rng", "_law_things"] (defScope s__law_pick) := ⟨rfl, rfl, rfl, by decide +kernel, rfl, by decide +kernel, by decide +kernel⟩
theorem ok_pick (D : Df K mg "_law_pick" s__law_pick ["_law_rng", "_law_things"]) (bi : Bi mg) (c_law_draw : Cal P w K mg base 1 "_law_draw" ["_law_rng", "_law_many"] spDraw) : Cal P w K mg base 2 "_law_pick" ["_law_rng", "_law_things"] spPick := by
  refine D.ok sc__law_pick (fun vs H Q E h => ?_) (fun f cdv A outer s H vs Q E hr h => ?_)
  · obtain ⟨r, l, t, xs, rfl, _⟩ := h
    rfl
  obtain ⟨r, l, t, xs, rfl, g, ht, hne, h0, h1, q⟩ := h
  refine ⟨_, (pss_one (ps_ret (pe_ix ix_list (pv 1) (pe_own c_law_draw hr (by omega) (by rfl) (pa_cons (pv 0) (pa_cons (pe_callB call_len_seq (by rfl) bi.len PySem.boot_len (pa_cons (pv 1) pa_nil)) pa_nil))) (fun _ _ => rfl)))), ?_⟩
  refine ⟨_, rfl, _, rfl, _, rfl, t, xs, rfl, .inl (SqL.of ht), r, l, _, rfl, by omega, by omega, g, fun v H1 hv0 hv1 g1 k1 => ?_⟩
  have hv : v.toNat < xs.length := by omega
  exact ⟨t, xs, v, xs[v.toNat], rfl, rfl, SqL.of (k1 _ _ hne ht), at_of (j := v.toNat) (by omega) (List.getElem?_eq_getElem hv), q v.toNat _ H1 (List.getElem?_eq_getElem hv) g1 k1⟩
/-! ### _law_great -/
def spGreat : Sp := fun vs H Q _ => ∃ r l, vs = [.ref r] ∧ Rng H r l ∧ ∀ (v : Int) H', 2 ≤ v → v ≤ 1000000000000000000000000000000 → Rng H' r l → Kp r H H' → Q (.int v) H'
theorem sc__law_great : FnScope ["_law_rng"] ["_law_rng"] (defScope s__law_great) := ⟨rfl, rfl, rfl, by decide +kernel, rfl, by decide +kernel, by decide +kernel⟩
theorem ok_great (D : Df K mg "_law_great" s__law_great ["_law_rng"]) (bi : Bi mg) (c_law_draw : Cal P w K mg base 1 "_law_draw" ["_law_rng", "_law_many"] spDraw) (c_law_pick : Cal P w K mg base 2 "_law_pick" ["_law_rng", "_law_things"] spPick) : Cal P w K mg base 3 "_law_great" ["_law_rng"] spGreat := by
  refine D.ok sc__law_great (fun vs H Q E h => ?_) (fun f cdv A outer s H vs Q E hr h => ?_)
  · obtain ⟨r, l, rfl, _⟩ := h
    rfl
  obtain ⟨r, l, rfl, g, q⟩ := h
  refine ⟨_, (pss_one (ps_ret (pe_own c_law_pick hr (by omega) (by rfl) (pa_cons (pv 0) (pa_cons (pe_lst (pa_cons (pe_op op_pow pe_int pe_int) (pa_cons (pe_op op_sub (pe_op op_sub (pe_op op_pow pe_int pe_int) pe_int) (pe_own c_law_draw hr (by omega) (by rfl) (pa_cons (pv 0) (pa_cons (pe_op op_pow pe_int pe_int) pa_nil)))) (pa_cons (pe_op op_add (pe_op op_pow pe_int pe_int) (pe_own c_law_draw hr (by omega) (by rfl) (pa_cons (pv 0) (pa_cons (pe_op op_pow pe_int pe_int) pa_nil)))) pa_nil)))) pa_nil))))), ?_⟩
  refine ⟨_, rfl, ?_⟩
  refine ⟨_, _, rfl, rfl, ⟨by decide, by decide, by decide⟩, _, _, rfl, rfl, ⟨by decide, by decide, by decide⟩, _, _, rfl, rfl, _, rfl, _, _, rfl, rfl, ⟨by decide, by decide, by decide⟩, ?_⟩
  refine ⟨r, l, _, rfl, by decide, by decide, g, fun v1 H1 a1 b1 g1 k1 => ?_⟩
  have b1' : v1 < 1000000000 := b1
  refine ⟨_, _, rfl, rfl, _, _, rfl, rfl, ⟨by decide, by decide, by decide⟩, _, rfl, _, _, rfl, rfl, ⟨by decide, by decide, by decide⟩, ?_⟩
  refine ⟨r, l, _, rfl, by decide, by decide, g1, fun v2 H2 a2 b2 g2 k2 => ?_⟩
  have b2' : v2 < 1000000000 := b2
  refine ⟨_, _, rfl, rfl, (by show 3 ≤ sizeLine; decide), fun p hp => ?_⟩
  obtain ⟨z, hz⟩ := g2.lst
  refine ⟨r, l, p, _, rfl, g2.new hp, upd_same, (ne_of_none hz hp).symm, Nat.succ_pos _, (by show 3 ≤ 1000; decide), fun j x H3 e g3 k3 => ?_⟩
  have kk : Kp r H H3 := (k1.trans k2).trans ((Kp.new hp).trans k3)
  match j, e with
  | 0, e => cases e; exact q _ H3 (by decide) (by decide) g3 kk
  | 1, e => cases e; exact q _ H3 (by show 2 ≤ (1000000000000000000000000000000 : Int) - 1 - v1; omega) (by show (1000000000000000000000000000000 : Int) - 1 - v1 ≤ _; omega) g3 kk
  | 2, e => cases e; exact q _ H3 (by show 2 ≤ (1000000000000000000 : Int) + v2; omega) (by show (1000000000000000000 : Int) + v2 ≤ _; omega) g3 kk
/-! ### _law_same of equal data -/
def spSame (K : PySem.W.Frag) : Nat → Sp
  | 0 => fun _ _ _ _ => False
  | n + 1 => fun vs H Q _ => ∃ x y d, vs = [x, y] ∧ Dp K H x d ∧ Dp K H y d ∧ Sm n d ∧ ∀ H', Same H H' → Q (.bl true) H'
theorem sc__law_same : FnScope ["_law_found", "_law_due", "_law_a", "_law_b"] ["_law_found", "_law_due"] (defScope s__law_same) := ⟨rfl, rfl, rfl, by decide +kernel, rfl, by decide +kernel, by decide +kernel⟩
theorem ok_same1 {n : Nat} (D : Df K mg "_law_same" s__law_same ["_law_found", "_law_due"]) (bi : Bi mg) (c_law_same : Cal P w K mg base n "_law_same" ["_law_found", "_law_due"] (spSame K n)) :
    Cal P w K mg base (n + 1) "_law_same" ["_law_found", "_law_due"] (spSame K (n + 1)) := by
  refine D.ok sc__law_same (fun vs H Q E h => ?_) (fun f cdv A outer s H vs Q E hr h => ?_)
  · obtain ⟨x, y, d, rfl, _⟩ := h
    rfl
  obtain ⟨x, y, d, rfl, hx, hy, hs, q⟩ := h
  refine ⟨_, (pss_cons (ps_if (PW.pt (pw_or (pt_val (pe_callB call_isi (by rfl) bi.isinstance (by decide +kernel) (pa_cons (pv 1) (pa_cons (pe_bltn (v := .ty "list") (u := .type "list") (by rfl) bi.list (by decide +kernel) rfl) pa_nil)))) (pw_or1 (pt_val (pe_callB call_isi (by rfl) bi.isinstance (by decide +kernel) (pa_cons (pv 1) (pa_cons (pe_bltn (v := .ty "tuple") (u := .type "tuple") (by rfl) bi.tuple (by decide +kernel) rfl) pa_nil))))))) (pss_cons (ps_if (PW.pt (pw_or (pt_cmpR op_ne (pe_callB call_isi (by rfl) bi.isinstance (by decide +kernel) (pa_cons (pv 0) (pa_cons (pe_bltn (v := .ty "list") (u := .type "list") (by rfl) bi.list (by decide +kernel) rfl) pa_nil))) (pe_callB call_isi (by rfl) bi.isinstance (by decide +kernel) (pa_cons (pv 1) (pa_cons (pe_bltn (v := .ty "list") (u := .type "list") (by rfl) bi.list (by decide +kernel) rfl) pa_nil))) (nomark _)) (pw_or1 (pt_cmpR op_ne (pe_callB call_isi (by rfl) bi.isinstance (by decide +kernel) (pa_cons (pv 0) (pa_cons (pe_bltn (v := .ty "tuple") (u := .type "tuple") (by rfl) bi.tuple (by decide +kernel) rfl) pa_nil))) (pe_callB call_isi (by rfl) bi.isinstance (by decide +kernel) (pa_cons (pv 1) (pa_cons (pe_bltn (v := .ty "tuple") (u := .type "tuple") (by rfl) bi.tuple (by decide +kernel) rfl) pa_nil))) (nomark _))))) (pss_one (ps_ret pe_bl)) pss_nil)
      (pss_one (ps_ret (pe_and (pe_cmpR op_eq (pe_callB call_len_seq (by rfl) bi.len PySem.boot_len (pa_cons (pv 0) pa_nil)) (pe_callB call_len_seq (by rfl) bi.len PySem.boot_len (pa_cons (pv 1) pa_nil)) (nomark _)) (pe_one (pe_callB (cr_all rfl) (by rfl) bi.all (by decide +kernel) (pa_cons (pe_lc (own := [("_law_a", 2), ("_law_b", 3)]) (g := gTup K 2 (gCons (gName 2) (gCons (gName 3) gNil))) (tt := tYes) rfl sc__law_same.nd (RZ.pi_zipA (by rfl) bi.zip (pa_cons (pv 0) (pa_cons (pv 1) pa_nil))) (blkOk_by (N := ["_law_found", "_law_due", "_law_a", "_law_b"]) (sc := defScope s__law_same) (by decide +kernel)) (fun _ _ _ _ _ => (pg_tup rfl (pgs_cons (pg_name (i := 2) sc__law_same.nd rfl (.inl rfl)) (pgs_cons (pg_name (i := 3) sc__law_same.nd rfl (.inl rfl)) pgs_nil)))) (fun _ _ _ _ _ => pts_nil) (fun _ _ _ _ _ => (pe_own c_law_same hr (by omega) (by rfl) (pa_cons (pv 2) (pa_cons (pv 3) pa_nil))))) pa_nil))))))) pss_nil)
      (pss_cons (ps_if (PW.pt (pw_or (pt_cmpR op_isN (pv 1) pe_non (nomark _)) (pw_or1 (pt_cmpR op_isN (pv 0) pe_non (nomark _))))) (pss_one (ps_ret (pe_and (pe_cmpR op_isN (pv 1) pe_non (nomark _)) (pe_one (pe_cmpR op_isN (pv 0) pe_non (nomark _)))))) pss_nil)
      (pss_cons (ps_if (PW.pt (pw_or (pt_cmpR op_ne (pe_callB call_isi (by rfl) bi.isinstance (by decide +kernel) (pa_cons (pv 1) (pa_cons (pe_bltn (v := .ty "bool") (u := .type "bool") (by rfl) bi.bool (by decide +kernel) rfl) pa_nil))) (pe_callB call_isi (by rfl) bi.isinstance (by decide +kernel) (pa_cons (pv 0) (pa_cons (pe_bltn (v := .ty "bool") (u := .type "bool") (by rfl) bi.bool (by decide +kernel) rfl) pa_nil))) (nomark _)) (pw_or1 (pt_cmpR op_ne (pe_callB call_isi (by rfl) bi.isinstance (by decide +kernel) (pa_cons (pv 1) (pa_cons (pe_bltn (v := .ty "int") (u := .type "int") (by rfl) bi.int (by decide +kernel) rfl) pa_nil))) (pe_callB call_isi (by rfl) bi.isinstance (by decide +kernel) (pa_cons (pv 0) (pa_cons (pe_bltn (v := .ty "int") (u := .type "int") (by rfl) bi.int (by decide +kernel) rfl) pa_nil))) (nomark _))))) (pss_one (ps_ret pe_bl)) pss_nil)
      (pss_one (ps_ret (pe_and (pe_cmpR op_eq (pe_callB call_isi (by rfl) bi.isinstance (by decide +kernel) (pa_cons (pv 1) (pa_cons (pe_bltn (v := .ty "str") (u := .type "str") (by rfl) bi.str (by decide +kernel) rfl) pa_nil))) (pe_callB call_isi (by rfl) bi.isinstance (by decide +kernel) (pa_cons (pv 0) (pa_cons (pe_bltn (v := .ty "str") (u := .type "str") (by rfl) bi.str (by decide +kernel) rfl) pa_nil))) (nomark _)) (pe_one (pe_cmpR op_eq (pv 0) (pv 1) (nomark _))))))))), ?_⟩
  have q0 := q H (fun _ _ e => e)
  cases d with
  | none =>
    cases hx
    cases hy
    refine ⟨_, rfl, _, _, _, _, false, rfl, .ty _, .base .non, kit_ty (by decide +kernel), _, rfl, ?_⟩
    refine ⟨_, rfl, _, _, _, _, false, rfl, .ty _, .base .non, kit_ty (by decide +kernel), _, rfl, ?_⟩
    refine ⟨_, rfl, rfl, _, rfl, ?_⟩
    refine ⟨_, rfl, rfl, _, rfl, ?_⟩
    exact ⟨_, rfl, rfl, q0⟩
  | bool b =>
    cases hx
    cases hy
    refine ⟨_, rfl, _, _, _, _, false, rfl, .ty _, .base (.bl b), kit_ty (by decide +kernel), _, rfl, ?_⟩
    refine ⟨_, rfl, _, _, _, _, false, rfl, .ty _, .base (.bl b), kit_ty (by decide +kernel), _, rfl, ?_⟩
    refine ⟨_, rfl, rfl, _, rfl, ?_⟩
    refine ⟨_, rfl, rfl, _, rfl, ?_⟩
    refine ⟨_, rfl, _, _, _, _, true, rfl, .ty _, .base (.bl b), kit_ty (by decide +kernel), _, rfl, _, _, _, _, true, rfl, .ty _, .base (.bl b), kit_ty (by decide +kernel), rfl, _, rfl, ?_⟩
    refine ⟨_, rfl, _, _, _, _, true, rfl, .ty _, .base (.bl b), kit_ty (by decide +kernel), _, rfl, _, _, _, _, true, rfl, .ty _, .base (.bl b), kit_ty (by decide +kernel), rfl, _, rfl, ?_⟩
    refine ⟨_, rfl, _, _, _, _, false, rfl, .ty _, .base (.bl b), kit_ty (by decide +kernel), _, rfl, _, _, _, _, false, rfl, .ty _, .base (.bl b), kit_ty (by decide +kernel), rfl, _, rfl, ?_⟩
    refine ⟨_, rfl, _, rfl, rfl, ?_⟩
    rw [decide_eq_true rfl]
    exact q0
  | int i =>
    cases hx
    cases hy
    refine ⟨_, rfl, _, _, _, _, false, rfl, .ty _, .base (.int i), kit_ty (by decide +kernel), _, rfl, ?_⟩
    refine ⟨_, rfl, _, _, _, _, false, rfl, .ty _, .base (.int i), kit_ty (by decide +kernel), _, rfl, ?_⟩
    refine ⟨_, rfl, rfl, _, rfl, ?_⟩
    refine ⟨_, rfl, rfl, _, rfl, ?_⟩
    refine ⟨_, rfl, _, _, _, _, false, rfl, .ty _, .base (.int i), kit_ty (by decide +kernel), _, rfl, _, _, _, _, false, rfl, .ty _, .base (.int i), kit_ty (by decide +kernel), rfl, _, rfl, ?_⟩
    refine ⟨_, rfl, _, _, _, _, true, rfl, .ty _, .base (.int i), kit_ty (by decide +kernel), _, rfl, _, _, _, _, true, rfl, .ty _, .base (.int i), kit_ty (by decide +kernel), rfl, _, rfl, ?_⟩
    refine ⟨_, rfl, _, _, _, _, false, rfl, .ty _, .base (.int i), kit_ty (by decide +kernel), _, rfl, _, _, _, _, false, rfl, .ty _, .base (.int i), kit_ty (by decide +kernel), rfl, _, rfl, ?_⟩
    refine ⟨_, rfl, _, rfl, rfl, ?_⟩
    rw [decide_eq_true rfl]
    exact q0
  | str z =>
    cases hx
    cases hy
    refine ⟨_, rfl, _, _, _, _, false, rfl, .ty _, .base (.str z), kit_ty (by decide +kernel), _, rfl, ?_⟩
    refine ⟨_, rfl, _, _, _, _, false, rfl, .ty _, .base (.str z), kit_ty (by decide +kernel), _, rfl, ?_⟩
    refine ⟨_, rfl, rfl, _, rfl, ?_⟩
    refine ⟨_, rfl, rfl, _, rfl, ?_⟩
    refine ⟨_, rfl, _, _, _, _, false, rfl, .ty _, .base (.str z), kit_ty (by decide +kernel), _, rfl, _, _, _, _, false, rfl, .ty _, .base (.str z), kit_ty (by decide +kernel), rfl, _, rfl, ?_⟩
    refine ⟨_, rfl, _, _, _, _, false, rfl, .ty _, .base (.str z), kit_ty (by decide +kernel), _, rfl, _, _, _, _, false, rfl, .ty _, .base (.str z), kit_ty (by decide +kernel), rfl, _, rfl, ?_⟩
    refine ⟨_, rfl, _, _, _, _, true, rfl, .ty _, .base (.str z), kit_ty (by decide +kernel), _, rfl, _, _, _, _, true, rfl, .ty _, .base (.str z), kit_ty (by decide +kernel), rfl, _, rfl, ?_⟩
    refine ⟨_, rfl, _, rfl, rfl, ?_⟩
    rw [decide_eq_true rfl]
    exact q0
  | list ds =>
    cases hx with | lst sx ax => ?_
    cases hy with | lst sy ay => ?_
    rename_i a xs b ys
    have lx := DpAll.length ax
    have ly := DpAll.length ay
    cases n with
    | zero => exact hs.elim
    | succ m =>
    unfold Sm at hs
    refine ⟨_, rfl, _, _, _, _, true, rfl, .ty _, SqL.ty sy, kit_ty (by decide +kernel), _, rfl, ?_⟩
    
    refine ⟨_, rfl, _, _, _, _, true, rfl, .ty _, SqL.ty sx, kit_ty (by decide +kernel), _, rfl, _, _, _, _, true, rfl, .ty _, SqL.ty sy, kit_ty (by decide +kernel), rfl, _, rfl, ?_⟩
    refine ⟨_, rfl, _, _, _, _, false, rfl, .ty _, SqL.ty sx, kit_ty (by decide +kernel), _, rfl, _, _, _, _, false, rfl, .ty _, SqL.ty sy, kit_ty (by decide +kernel), rfl, _, rfl, ?_⟩
    refine ⟨_, rfl, _, _, rfl, .inl sx, _, rfl, _, _, rfl, .inl sy, rfl, _, rfl, ite2 (fun _ => ?_) (fun ne => absurd (by rw [lx, ly]; exact decide_eq_true rfl) ne)⟩
    refine ⟨_, rfl, _, rfl, a, b, xs, ys, rfl, .inl ⟨sx, sy, fun Dd hD => ?_⟩⟩
    refine lcz (n := min xs.length ys.length) (walk_zip rfl) (by decide) (fun i H2 => H2 Dd = some (.lst ((List.replicate i true).map V.bl)) ∧ Same H H2) ?_ ?_ ?_ ?_
    · exact ⟨upd_same, same_new hD⟩
    · rintro i H2 _ ⟨_, s2⟩
      exact ⟨s2.seq sx, s2.seq sy⟩
    · rintro i x y T H2 hi e1 e2 ⟨hA, s2⟩ hT
      obtain ⟨d1, g1, h1⟩ := DpAll.get ax e1
      obtain ⟨d2, g2, h2⟩ := DpAll.get ay e2
      have e := Option.some.inj (g1.symm.trans g2)
      subst e
      have s3 : Same H (upd H2 T (.tup [x, y])) := s2.trans (same_new hT)
      refine ⟨_, rfl, _, rfl, _, _, d1, rfl, Dp.same s3 _ h1, Dp.same s3 _ h2, hs.2 d1 (List.mem_of_getElem? g1), fun H4 s4 => ?_⟩
      have hA4 := s4 _ _ (same_new hT _ _ hA)
      refine ⟨_, hA4, ?_, ?_, ?_⟩
      · rw [List.length_map, List.length_replicate]
        exact Nat.lt_of_le_of_lt (show i ≤ 1000 by omega) (by decide)
      · rw [upd_same, rep_snoc]
      · intro b o hb
        rw [upd_ne (ne_of_none hb hD)]
        exact s4 _ _ (s3 _ _ hb)
    · rintro H2 ⟨hA, s2⟩
      refine ⟨Dd, _, rfl, SqL.of hA, ?_⟩
      rw [all_true]
      exact q H2 s2
  | tuple ds =>
    cases hx with | tup sx ax => ?_
    cases hy with | tup sy ay => ?_
    rename_i a xs b ys
    have lx := DpAll.length ax
    have ly := DpAll.length ay
    cases n with
    | zero => exact hs.elim
    | succ m =>
    unfold Sm at hs
    refine ⟨_, rfl, _, _, _, _, false, rfl, .ty _, SqT.ty sy, kit_ty (by decide +kernel), _, rfl, ?_⟩
    refine ⟨_, rfl, _, _, _, _, true, rfl, .ty _, SqT.ty sy, kit_ty (by decide +kernel), _, rfl, ?_⟩
    refine ⟨_, rfl, _, _, _, _, false, rfl, .ty _, SqT.ty sx, kit_ty (by decide +kernel), _, rfl, _, _, _, _, false, rfl, .ty _, SqT.ty sy, kit_ty (by decide +kernel), rfl, _, rfl, ?_⟩
    refine ⟨_, rfl, _, _, _, _, true, rfl, .ty _, SqT.ty sx, kit_ty (by decide +kernel), _, rfl, _, _, _, _, true, rfl, .ty _, SqT.ty sy, kit_ty (by decide +kernel), rfl, _, rfl, ?_⟩
    refine ⟨_, rfl, _, _, rfl, .inr sx, _, rfl, _, _, rfl, .inr sy, rfl, _, rfl, ite2 (fun _ => ?_) (fun ne => absurd (by rw [lx, ly]; exact decide_eq_true rfl) ne)⟩
    refine ⟨_, rfl, _, rfl, a, b, xs, ys, rfl, .inr ⟨sx, sy, fun Dd hD => ?_⟩⟩
    refine lcz (n := min xs.length ys.length) (walk_zipT rfl) (by decide) (fun i H2 => H2 Dd = some (.lst ((List.replicate i true).map V.bl)) ∧ Same H H2) ?_ ?_ ?_ ?_
    · exact ⟨upd_same, same_new hD⟩
    · rintro i H2 _ ⟨_, s2⟩
      exact ⟨(tp_same s2).sq sx, (tp_same s2).sq sy⟩
    · rintro i x y T H2 hi e1 e2 ⟨hA, s2⟩ hT
      obtain ⟨d1, g1, h1⟩ := DpAll.get ax e1
      obtain ⟨d2, g2, h2⟩ := DpAll.get ay e2
      have e := Option.some.inj (g1.symm.trans g2)
      subst e
      have s3 : Same H (upd H2 T (.tup [x, y])) := s2.trans (same_new hT)
      refine ⟨_, rfl, _, rfl, _, _, d1, rfl, Dp.same s3 _ h1, Dp.same s3 _ h2, hs.2 d1 (List.mem_of_getElem? g1), fun H4 s4 => ?_⟩
      have hA4 := s4 _ _ (same_new hT _ _ hA)
      refine ⟨_, hA4, ?_, ?_, ?_⟩
      · rw [List.length_map, List.length_replicate]
        exact Nat.lt_of_le_of_lt (show i ≤ 1000 by omega) (by decide)
      · rw [upd_same, rep_snoc]
      · intro b o hb
        rw [upd_ne (ne_of_none hb hD)]
        exact s4 _ _ (s3 _ _ hb)
    · rintro H2 ⟨hA, s2⟩
      refine ⟨Dd, _, rfl, SqL.of hA, ?_⟩
      rw [all_true]
      exact q H2 s2
  | dict ds => cases hx
theorem ok_same (D : Df K mg "_law_same" s__law_same ["_law_found", "_law_due"]) (bi : Bi mg) : ∀ n : Nat, Cal P w K mg base n "_law_same" ["_law_found", "_law_due"] (spSame K n)
  | 0 => D.no fun vs H Q E h => h.elim
  | n + 1 => ok_same1 D bi (ok_same D bi n)
/-! ### _law_tree -/
def spTree (K : PySem.W.Frag) (d : Nat) : Sp := fun vs H Q _ => ∃ r l k a b e, vs = [.ref r, .ref k, .int e] ∧ e = (d : Int) ∧ 1 ≤ d ∧ Rng H r l ∧ H k = some (.lst [.int a, .int b]) ∧ k ≠ r ∧ k ≠ l ∧
  ∀ v t a' b' H', WV K H' v t → t.Ok abc → t.dep ≤ d → Rng H' r l → H' k = some (.lst [.int a', .int b']) → Kp2 r k H H' → Q v H'
theorem sc__law_tree : FnScope ["_law_rng", "_law_kit", "_law_deep", "_law_way", "_law_k"] ["_law_rng", "_law_kit", "_law_deep"] (defScope s__law_tree) := ⟨rfl, rfl, rfl, by decide +kernel, rfl, by decide +kernel, by decide +kernel⟩
theorem ok_tree1 {n : Nat} (D : Df K mg "_law_tree" s__law_tree ["_law_rng", "_law_kit", "_law_deep"]) (bi : Bi mg) (c_law_draw : Cal P w K mg base 1 "_law_draw" ["_law_rng", "_law_many"] spDraw) (c_law_pick : Cal P w K mg base 2 "_law_pick" ["_law_rng", "_law_things"] spPick)
    (c_law_tree : Cal P w K mg base (n + 2) "_law_tree" ["_law_rng", "_law_kit", "_law_deep"] (spTree K n)) : Cal P w K mg base (n + 3) "_law_tree" ["_law_rng", "_law_kit", "_law_deep"] (spTree K (n + 1)) := by
  refine D.ok sc__law_tree (fun vs H Q E h => ?_) (fun f cdv A outer s H vs Q E hr h => ?_)
  · obtain ⟨r, l, k, a, b, e, rfl, _⟩ := h
    rfl
  obtain ⟨r, l, k, a, b, e, rfl, he, hd, g, hk, kr, kl, q⟩ := h
  refine ⟨_, (pss_cons (ps_if (pt_cmpR op_lt (pe_ix ix_list (pv 1) pe_int (fun _ _ => rfl)) pe_int (nomark _)) (pss_one (ps_ret (pe_tup (pa_cons pe_str pa_nil)))) pss_nil)
      (C8.pss_cut (ps_set (i := 3) sc__law_tree.nd rfl (.inl rfl) (pe_ifExp (pt_cmpR op_gt (pv 2) pe_int (nomark _)) (pe_own c_law_draw hr (by omega) (by rfl) (pa_cons (pv 0) (pa_cons pe_int pa_nil))) (pe_own c_law_draw hr (by omega) (by rfl) (pa_cons (pv 0) (pa_cons pe_int pa_nil)))))
      (pss_cons (ps_if (pt_cmpR op_lt (pv 3) pe_int (nomark _)) (pss_cons (ps_asg (pe_op op_sub (pe_ix ix_list (pv 1) pe_int (fun _ _ => rfl)) pe_int) (pg_sub (pv 1) pe_int set_list))
      (pss_one (ps_ret (pe_tup (pa_cons pe_str (pa_cons (pe_own c_law_pick hr (by omega) (by rfl) (pa_cons (pv 0) (pa_cons (pe_lst (pa_cons pe_str (pa_cons pe_str (pa_cons pe_str pa_nil)))) pa_nil))) pa_nil)))))) pss_nil)
      (pss_cons (ps_if (pt_cmpR op_eq (pv 3) pe_int (nomark _)) (pss_one (ps_ret (pe_tup (pa_cons pe_str pa_nil)))) pss_nil)
      (pss_cons (ps_if (pt_cmpR op_lt (pv 3) pe_int (nomark _)) (pss_one (ps_ret (pe_tup (pa_cons pe_str (pa_cons (pe_callTy call_tuple_of (by rfl) bi.tuple (by decide +kernel) (pa_cons (pe_lc (own := [("_law_k", 4)]) (g := gName 4) (tt := tYes) rfl sc__law_tree.nd (pi_range1 (by rfl) bi.range (pa_cons (pe_op op_add pe_int (pe_own c_law_draw hr (by omega) (by rfl) (pa_cons (pv 0) (pa_cons pe_int pa_nil)))) pa_nil)) (blkOk_by (N := ["_law_rng", "_law_kit", "_law_deep", "_law_way", "_law_k"]) (sc := defScope s__law_tree) (by decide +kernel)) (fun _ _ _ _ _ => (pg_name (i := 4) sc__law_tree.nd rfl (.inl rfl))) (fun _ _ _ _ _ => pts_nil) (fun _ _ _ _ _ => (pe_own c_law_tree hr (by omega) (by rfl) (pa_cons (pv 0) (pa_cons (pv 1) (pa_cons (pe_op op_sub (pv 2) pe_int) pa_nil)))))) pa_nil)) pa_nil))))) pss_nil)
      (pss_cons (ps_if (pt_cmpR op_eq (pv 3) pe_int (nomark _)) (pss_one (ps_ret (pe_tup (pa_cons pe_str (pa_cons (pe_own c_law_tree hr (by omega) (by rfl) (pa_cons (pv 0) (pa_cons (pv 1) (pa_cons (pe_op op_sub (pv 2) pe_int) pa_nil)))) (pa_cons (pe_own c_law_draw hr (by omega) (by rfl) (pa_cons (pv 0) (pa_cons pe_int pa_nil))) pa_nil)))))) pss_nil)
      (pss_cons (ps_if (pt_cmpR op_lt (pe_ix ix_list (pv 1) pe_int (fun _ _ => rfl)) pe_int (nomark _)) (pss_one (ps_ret (pe_own c_law_tree hr (by omega) (by rfl) (pa_cons (pv 0) (pa_cons (pv 1) (pa_cons (pe_op op_sub (pv 2) pe_int) pa_nil)))))) pss_nil)
      (pss_cons (ps_asg (pe_op op_sub (pe_ix ix_list (pv 1) pe_int (fun _ _ => rfl)) pe_int) (pg_sub (pv 1) pe_int set_list))
      (pss_one (ps_ret (pe_tup (pa_cons (pe_ix ix_list (pe_lst (pa_cons pe_str (pa_cons pe_str pa_nil))) (pe_op op_sub (pv 3) pe_int) (fun _ _ => rfl)) (pa_cons (pe_own c_law_tree hr (by omega) (by rfl) (pa_cons (pv 0) (pa_cons (pv 1) (pa_cons (pe_op op_sub (pv 2) pe_int) pa_nil)))) pa_nil))))))))))))), ?_⟩
  -- an empty kit
  refine ⟨_, rfl, _, _, _, _, rfl, rfl, SqL.of hk, rfl, _, _, rfl, rfl, _, rfl, ite2 (fun _ => ?_) (fun _ => ?_)⟩
  · refine ⟨(by show 1 ≤ sizeLine; decide), fun p hp => ?_⟩
    exact q _ .emp a b _ (wv_emp (SqT.of upd_same)) (by unfold W.Ok; trivial) (by unfold W.dep; omega) (g.new hp) (by rw [upd_ne (ne_of_none hk hp)]; exact hk) ((Kp.new hp).two)
  -- the way
  refine ⟨fun σ' H1 => ∃ way : Int, σ' = [some (.ref r), some (.ref k), some (.int e), some (.int way), none] ∧ 0 ≤ way ∧ (way < 3 ∨ (way < 9 ∧ 1 ≤ n)) ∧ Rng H1 r l ∧ Kp r H H1, ?_, ?_⟩
  · refine ⟨_, rfl, _, _, rfl, rfl, _, rfl, ite2 (fun hc => ?_) (fun _ => ?_)⟩
    · have hc' : e > 1 := of_decide_eq_true hc
      refine ⟨_, rfl, r, l, _, rfl, by decide, by decide, g, fun v H1 hv0 hv1 g1 k1 => ?_⟩
      exact ⟨v, rfl, hv0, .inr ⟨hv1, by omega⟩, g1, k1⟩
    · refine ⟨_, rfl, r, l, _, rfl, by decide, by decide, g, fun v H1 hv0 hv1 g1 k1 => ?_⟩
      exact ⟨v, rfl, hv0, .inl hv1, g1, k1⟩
  rintro σ' H1 ⟨way, rfl, w0, w1, g1, k1⟩
  have hk1 : H1 k = some (.lst [.int a, .int b]) := k1 _ _ kr hk
  obtain ⟨z, hz⟩ := g1.lst
  obtain ⟨zl, hzl⟩ := g1.some_l
  refine ⟨_, rfl, _, _, rfl, rfl, _, rfl, ite2 (fun _ => ?_) (fun hc => ?_)⟩
  · -- a letter
    refine ⟨_, rfl, _, _, _, _, rfl, rfl, SqL.of hk1, rfl, _, _, rfl, rfl, _, rfl, k, _, 0, 0, rfl, rfl, hk1, rfl, ?_⟩
    have k2 : Kp2 r k H1 (upd H1 k (.lst [.int (a - 1), .int b])) := Kp2.at
    refine ⟨_, rfl, (by show 3 ≤ sizeLine; decide), fun p hp => ?_⟩
    have hp1 : H1 p = none := by
      rw [← hp]
      exact (upd_ne (fun e => by rw [e, upd_same] at hp; cases hp)).symm
    have g2 : Rng (upd H1 k (.lst [.int (a - 1), .int b])) r l := g1.of (fun o h => by rw [upd_ne kr.symm]; exact h) (fun o h => by rw [upd_ne kl.symm]; exact h)
    have g3 := g2.new (o := .lst [.str "a", .str "b", .str "c"]) hp
    refine ⟨r, l, p, _, rfl, g3, upd_same, (ne_of_none hz hp1).symm, by decide, by decide, fun j x H4 ex g4 k4 => ?_⟩
    have hk4 : H4 k = some (.lst [.int (a - 1), .int b]) := k4 _ _ kr (by rw [upd_ne (fun e => by rw [← e, upd_same] at hp; cases hp), upd_same]; rfl)
    have kk : Kp2 r k H H4 := k1.two.trans (k2.trans ((Kp.new hp).two.trans k4.two))
    have hx : ∃ c, x = .str c ∧ c ∈ abc := by
      match j, ex with
      | 0, e => cases e; exact ⟨_, rfl, by decide⟩
      | 1, e => cases e; exact ⟨_, rfl, by decide⟩
      | 2, e => cases e; exact ⟨_, rfl, by decide⟩
    obtain ⟨c, rfl, hcm⟩ := hx
    refine ⟨(by show 2 ≤ sizeLine; decide), fun p2 hp2 => ?_⟩
    exact q _ (.ltr c) (a - 1) b _ (wv_ltr (SqT.of upd_same)) (by unfold W.Ok; exact hcm) (by unfold W.dep; omega) (g4.new hp2) (by rw [upd_ne (ne_of_none hk4 hp2)]; exact hk4) (kk.trans (Kp.new hp2).two)
  have hc' : ¬ way < 3 := of_decide_eq_false (Bool.eq_false_iff.mpr hc)
  have hn : 1 ≤ n := by omega
  have en : e - 1 = (n : Int) := by omega
  refine ⟨_, rfl, rfl, _, rfl, ite2 (fun _ => ?_) (fun q3 => ?_)⟩
  · refine ⟨(by show 1 ≤ sizeLine; decide), fun p hp => ?_⟩
    exact q _ .emp a b _ (wv_emp (SqT.of upd_same)) (by unfold W.Ok; trivial) (by unfold W.dep; omega) (g1.new hp) (by rw [upd_ne (ne_of_none hk1 hp)]; exact hk1) (k1.trans (Kp.new hp)).two
  refine ⟨_, rfl, _, _, rfl, rfl, _, rfl, ite2 (fun _ => ?_) (fun q6 => ?_)⟩
  · -- a join
    refine ⟨_, rfl, r, l, _, rfl, by decide, by decide, g1, fun v H2 v0 v1 g2 k2 => ?_⟩
    have hk2 : H2 k = some (.lst [.int a, .int b]) := k2 _ _ kr hk1
    have v1' : v < 2 := v1
    refine ⟨_, _, rfl, rfl, _, rfl, by omega, by omega, fun Dd hD => ?_⟩
    obtain ⟨z2, hz2⟩ := g2.lst
    obtain ⟨zl2, hzl2⟩ := g2.some_l
    have Dr : Dd ≠ r := (ne_of_none hz2 hD).symm
    have Dk : Dd ≠ k := (ne_of_none hk2 hD).symm
    have Dl : Dd ≠ l := (ne_of_none hzl2 hD).symm
    have kH2 : Kp r H H2 := k1.trans k2
    refine lcr (lo := 0) (n := (2 + v).toNat) (fun i H3 => ∃ ts acc a' b', H3 Dd = some (.lst acc) ∧ WVs K H3 acc ts ∧ ts.length = i ∧ (∀ t ∈ ts, t.Ok abc ∧ t.dep ≤ n) ∧ Rng H3 r l ∧ H3 k = some (.lst [.int a', .int b']) ∧ Kp2 r k H2 H3) ?_ ?_ ?_
    · exact ⟨[], [], a, b, upd_same, wvs_nil, rfl, fun t h => (List.not_mem_nil h).elim, g2.new hD, by rw [upd_ne Dk.symm]; exact hk2, (Kp.new hD).two⟩
    · rintro i H3 hi ⟨ts, acc, a', b', hA, hW, hlen, hall, g3, hk3, k3⟩
      refine ⟨_, rfl, _, rfl, _, rfl, _, _, rfl, rfl, ?_⟩
      refine ⟨r, l, k, a', b', _, rfl, en, hn, g3, hk3, kr, kl, fun y t a2 b2 H4 hy ho hdp g4 hk4 k4 => ?_⟩
      have hA4 : H4 Dd = some (.lst acc) := k4 _ _ Dr Dk hA
      obtain ⟨z3, hz3⟩ := g3.lst
      have tp : Tp H3 H4 := k4.tp hz3 hk3
      have al := hW.length
      refine ⟨acc, hA4, Nat.lt_of_le_of_lt (show acc.length ≤ 1000 by omega) (by decide), ts ++ [t], acc ++ [y], a2, b2, upd_same, ?_, by rw [List.length_append, hlen]; rfl, ?_, ?_, ?_, ?_⟩
      · exact WVs.tp (tp_set hA4) _ (WVs.app hy (WVs.tp tp _ hW))
      · intro t' ht'
        rcases List.mem_append.mp ht' with h | h
        · exact hall t' h
        · rw [List.mem_singleton.mp h]
          exact ⟨ho, hdp⟩
      · exact g4.of (fun o h => by rw [upd_ne Dr.symm]; exact h) (fun o h => by rw [upd_ne Dl.symm]; exact h)
      · rw [upd_ne Dk.symm]
        exact hk4
      · intro b o n1 n2 hb
        have nb : b ≠ Dd := ne_of_none hb hD
        rw [upd_ne nb]
        exact k4 b o n1 n2 (k3 b o n1 n2 hb)
    · rintro H3 ⟨ts, acc, a', b', hA, hW, hlen, hall, g3, hk3, k3⟩
      refine ⟨Dd, acc, rfl, .inl ⟨SqL.of hA, fun p hp => ?_⟩⟩
      refine ⟨(by show 2 ≤ sizeLine; decide), fun p2 hp2 => ?_⟩
      have t1 : Tp H3 (upd H3 p (.tup acc)) := tp_new hp
      have t2 := tp_new (o := .tup [.str "join", .ref p]) hp2
      refine q _ (.join ts) a' b' _ (wv_join (SqT.of upd_same) (t2.sq (SqT.of upd_same)) (WVs.tp (t1.trans t2) _ hW)) ?_ ?_ ((g3.new hp).new hp2) ?_ ?_
      · unfold W.Ok
        exact ⟨by omega, W.oks_of fun t ht => (hall t ht).1⟩
      · unfold W.dep
        have := W.deps_le (n := n) fun t ht => (hall t ht).2
        omega
      · have e1 : (upd H3 p (.tup acc)) k = some (.lst [.int a', .int b']) := by
          rw [upd_ne (ne_of_none hk3 hp)]
          exact hk3
        rw [upd_ne (ne_of_none e1 hp2)]
        exact e1
      · exact kH2.two.trans (k3.trans ((Kp.new hp).trans (Kp.new hp2)).two)
  refine ⟨_, rfl, rfl, _, rfl, ite2 (fun _ => ?_) (fun q7 => ?_)⟩
  · -- copies
    refine ⟨_, rfl, _, rfl, _, rfl, _, _, rfl, rfl, ?_⟩
    refine ⟨r, l, k, a, b, _, rfl, en, hn, g1, hk1, kr, kl, fun y t a2 b2 H4 hy ho hdp g4 hk4 k4 => ?_⟩
    refine ⟨_, rfl, r, l, _, rfl, by decide, by decide, g4, fun v H5 v0 v1 g5 k5 => ?_⟩
    have v1' : v < 4 := v1
    refine ⟨(by show 3 ≤ sizeLine; decide), fun p hp => ?_⟩
    obtain ⟨z4, hz4⟩ := g4.lst
    have hk5 : H5 k = some (.lst [.int a2, .int b2]) := k5 _ _ kr hk4
    refine q _ (.times t v) a2 b2 _ (wv_times (SqT.of upd_same) (WV.tp ((k5.tp hz4).trans (tp_new hp)) _ hy)) ?_ ?_ (g5.new hp) (by rw [upd_ne (ne_of_none hk5 hp)]; exact hk5) ?_
    · unfold W.Ok
      exact ⟨v0, by omega, ho⟩
    · unfold W.dep
      omega
    · exact k1.two.trans (k4.trans (k5.trans (Kp.new hp)).two)
  refine ⟨_, rfl, _, _, _, _, rfl, rfl, SqL.of hk1, rfl, _, _, rfl, rfl, _, rfl, ite2 (fun _ => ?_) (fun _ => ?_)⟩
  · refine ⟨_, rfl, _, rfl, _, rfl, _, _, rfl, rfl, ?_⟩
    refine ⟨r, l, k, a, b, _, rfl, en, hn, g1, hk1, kr, kl, fun y t a2 b2 H4 hy ho hdp g4 hk4 k4 => ?_⟩
    exact q _ t a2 b2 _ hy ho (by omega) g4 hk4 (k1.two.trans k4)
  -- endless copies
  refine ⟨_, rfl, _, _, _, _, rfl, rfl, SqL.of hk1, rfl, _, _, rfl, rfl, _, rfl, k, _, 1, 1, rfl, rfl, hk1, rfl, ?_⟩
  have k2 : Kp2 r k H1 (upd H1 k (.lst [.int a, .int (b - 1)])) := Kp2.at
  have g2 : Rng (upd H1 k (.lst [.int a, .int (b - 1)])) r l := g1.of (fun o h => by rw [upd_ne kr.symm]; exact h) (fun o h => by rw [upd_ne kl.symm]; exact h)
  refine ⟨(by show 2 ≤ sizeLine; decide), fun p hp => ?_⟩
  have hkp : (upd (upd H1 k (.lst [.int a, .int (b - 1)])) p (.lst [.str "right", .str "left"])) k = some (.lst [.int a, .int (b - 1)]) := by
    rw [upd_ne (ne_of_none upd_same hp), upd_same]
  have n3 : way ≠ 3 := fun e => q3 (by rw [e]; exact decide_eq_true rfl)
  have n6 : ¬ way < 6 := of_decide_eq_false (Bool.eq_false_iff.mpr q6)
  have n7 : way ≠ 6 := fun e => q7 (by rw [e]; exact decide_eq_true rfl)
  have h9 : way = 7 ∨ way = 8 := by omega
  have g3 := g2.new (o := .lst [.str "right", .str "left"]) hp
  have hH : Kp2 r k H (upd (upd H1 k (.lst [.int a, .int (b - 1)])) p (.lst [.str "right", .str "left"])) := k1.two.trans (k2.trans (Kp.new hp).two)
  rcases h9 with h9 | h9
  · have e0 : way - 7 = 0 := by omega
    refine ⟨_, rfl, _, _, rfl, rfl, _, _, _, _, rfl, rfl, SqL.of upd_same, at_of (j := 0) e0 rfl, ?_⟩
    refine ⟨_, rfl, _, rfl, _, rfl, _, _, rfl, rfl, ?_⟩
    refine ⟨r, l, k, a, b - 1, _, rfl, en, hn, g3, hkp, kr, kl, fun y t a2 b2 H4 hy ho hdp g4 hk4 k4 => ?_⟩
    refine ⟨(by show 2 ≤ sizeLine; decide), fun p2 hp2 => ?_⟩
    exact q _ (.right t) a2 b2 _ (wv_right (SqT.of upd_same) (WV.tp (tp_new hp2) _ hy)) (by unfold W.Ok; exact ho) (by unfold W.dep; omega) (g4.new hp2) (by rw [upd_ne (ne_of_none hk4 hp2)]; exact hk4) (hH.trans (k4.trans (Kp.new hp2).two))
  · have e0 : way - 7 = 1 := by omega
    refine ⟨_, rfl, _, _, rfl, rfl, _, _, _, _, rfl, rfl, SqL.of upd_same, at_of (j := 1) e0 rfl, ?_⟩
    refine ⟨_, rfl, _, rfl, _, rfl, _, _, rfl, rfl, ?_⟩
    refine ⟨r, l, k, a, b - 1, _, rfl, en, hn, g3, hkp, kr, kl, fun y t a2 b2 H4 hy ho hdp g4 hk4 k4 => ?_⟩
    refine ⟨(by show 2 ≤ sizeLine; decide), fun p2 hp2 => ?_⟩
    exact q _ (.left t) a2 b2 _ (wv_left (SqT.of upd_same) (WV.tp (tp_new hp2) _ hy)) (by unfold W.Ok; exact ho) (by unfold W.dep; omega) (g4.new hp2) (by rw [upd_ne (ne_of_none hk4 hp2)]; exact hk4) (hH.trans (k4.trans (Kp.new hp2).two))
theorem ok_tree (D : Df K mg "_law_tree" s__law_tree ["_law_rng", "_law_kit", "_law_deep"]) (bi : Bi mg) (c_law_draw : Cal P w K mg base 1 "_law_draw" ["_law_rng", "_law_many"] spDraw) (c_law_pick : Cal P w K mg base 2 "_law_pick" ["_law_rng", "_law_things"] spPick) :
    ∀ n : Nat, Cal P w K mg base (n + 2) "_law_tree" ["_law_rng", "_law_kit", "_law_deep"] (spTree K n)
  | 0 => D.no fun vs H Q E h => by
    obtain ⟨r, l, k, a, b, e, _, _, h1, _⟩ := h
    omega
  | n + 1 => ok_tree1 D bi c_law_draw c_law_pick (ok_tree D bi c_law_draw c_law_pick n)
/-! ### _law_word, _law_wide -/
def spWord (K : PySem.W.Frag) (n : Nat) : Sp := fun vs H Q _ => ∃ r l, vs = [.ref r] ∧ Rng H r l ∧ ∀ v t H', WV K H' v t → t.Ok abc → t.dep ≤ n → Rng H' r l → Kp r H H' → Q v H'
theorem sc__law_word : FnScope ["_law_rng", "_law_first"] ["_law_rng"] (defScope s__law_word) := ⟨rfl, rfl, rfl, by decide +kernel, rfl, by decide +kernel, by decide +kernel⟩
theorem ok_word (D : Df K mg "_law_word" s__law_word ["_law_rng"]) (bi : Bi mg) (c_law_draw : Cal P w K mg base 1 "_law_draw" ["_law_rng", "_law_many"] spDraw) (c_law_tree : Cal P w K mg base 5 "_law_tree" ["_law_rng", "_law_kit", "_law_deep"] (spTree K 3)) :
    Cal P w K mg base 6 "_law_word" ["_law_rng"] (spWord K 4) := by
  refine D.ok sc__law_word (fun vs H Q E h => ?_) (fun f cdv A outer s H vs Q E hr h => ?_)
  · obtain ⟨r, l, rfl, _⟩ := h
    rfl
  obtain ⟨r, l, rfl, g, q⟩ := h
  refine ⟨_, (pss_cons (ps_set (i := 1) sc__law_word.nd rfl (.inl rfl) (pe_own c_law_tree hr (by omega) (by rfl) (pa_cons (pv 0) (pa_cons (pe_lst (pa_cons pe_int (pa_cons pe_int pa_nil))) (pa_cons pe_int pa_nil)))))
      (pss_cons (ps_if (pt_cmpR op_eq (pe_own c_law_draw hr (by omega) (by rfl) (pa_cons (pv 0) (pa_cons pe_int pa_nil))) pe_int (nomark _)) (pss_one (ps_ret (pv 1))) pss_nil)
      (pss_one (ps_ret (pe_tup (pa_cons pe_str (pa_cons (pe_tup (pa_cons (pv 1) (pa_cons (pe_own c_law_tree hr (by omega) (by rfl) (pa_cons (pv 0) (pa_cons (pe_lst (pa_cons pe_int (pa_cons pe_int pa_nil))) (pa_cons pe_int pa_nil)))) pa_nil))) pa_nil))))))), ?_⟩
  refine ⟨_, rfl, (by show 2 ≤ sizeLine; decide), fun k hk => ?_⟩
  obtain ⟨z, hz⟩ := g.lst
  obtain ⟨zl, hzl⟩ := g.some_l
  refine ⟨r, l, k, 3, 1, _, rfl, rfl, by decide, g.new hk, upd_same, (ne_of_none hz hk).symm, (ne_of_none hzl hk).symm, fun v1 t1 a1 b1 H1 hv1 ho1 hd1 g1 hk1 k1 => ?_⟩
  have k1' : Kp r H H1 := Kp2.fresh hk k1
  refine ⟨_, rfl, r, l, _, rfl, by decide, by decide, g1, fun v2 H2 a2 b2 g2 k2 => ?_⟩
  obtain ⟨z1, hz1⟩ := g1.lst
  have hv2 := WV.tp (k2.tp hz1) _ hv1
  refine ⟨rfl, _, rfl, ite2 (fun _ => ?_) (fun _ => ?_)⟩
  · exact ⟨_, rfl, q _ _ _ hv2 ho1 (by omega) g2 (k1'.trans k2)⟩
  refine ⟨_, rfl, _, rfl, (by show 2 ≤ sizeLine; decide), fun k3 hk3 => ?_⟩
  obtain ⟨z2, hz2⟩ := g2.lst
  obtain ⟨zl2, hzl2⟩ := g2.some_l
  refine ⟨r, l, k3, 3, 1, _, rfl, rfl, by decide, g2.new hk3, upd_same, (ne_of_none hz2 hk3).symm, (ne_of_none hzl2 hk3).symm, fun v3 t3 a3 b3 H3 hv3 ho3 hd3 g3 hk3' k3' => ?_⟩
  have k4 : Kp r H2 H3 := Kp2.fresh hk3 k3'
  refine ⟨(by show 2 ≤ sizeLine; decide), fun p hp => ⟨(by show 2 ≤ sizeLine; decide), fun p2 hp2 => ?_⟩⟩
  have tt : Tp H3 (upd (upd H3 p (.tup [v1, v3])) p2 (.tup [.str "join", .ref p])) := (tp_new hp).trans (tp_new hp2)
  have hvA := WV.tp (k4.tp hz2) _ hv2
  refine q _ (.join [t1, t3]) _ (wv_join (SqT.of upd_same) ((tp_new hp2).sq (SqT.of upd_same)) (wvs_cons (WV.tp tt _ hvA) (wvs_cons (WV.tp tt _ hv3) wvs_nil))) ?_ ?_ ((g3.new hp).new hp2) ((k1'.trans k2).trans (k4.trans ((Kp.new hp).trans (Kp.new hp2))))
  · unfold W.Ok
    refine ⟨by show 2 ≤ 3; decide, W.oks_of fun t h => ?_⟩
    simp only [List.mem_cons, List.not_mem_nil, or_false] at h
    rcases h with rfl | rfl <;> assumption
  · rw [W.dep]
    have := W.deps_le (ws := [t1, t3]) (n := 3) fun t h => by
      simp only [List.mem_cons, List.not_mem_nil, or_false] at h
      rcases h with rfl | rfl <;> assumption
    omega
/-! ### _law_parts -/
def spParts (K : PySem.W.Frag) : Sp := fun vs H Q _ => ∃ v t, vs = [v] ∧ WV K H v t ∧ t.Ok abcABC ∧ ∀ p xs H', WVs K H' xs t.parts → H' p = some (.lst xs) → H p = none → Same H H' → Q (.ref p) H'
theorem sc__law_parts : FnScope ["_law_tree_here"] ["_law_tree_here"] (defScope s__law_parts) := ⟨rfl, rfl, rfl, by decide +kernel, rfl, by decide +kernel, by decide +kernel⟩
theorem ok_parts (D : Df K mg "_law_parts" s__law_parts ["_law_tree_here"]) (bi : Bi mg) : Cal P w K mg base 1 "_law_parts" ["_law_tree_here"] (spParts K) := by
  refine D.ok sc__law_parts (fun vs H Q E h => ?_) (fun f cdv A outer s H vs Q E hr h => ?_)
  · obtain ⟨v, t, rfl, _⟩ := h
    rfl
  obtain ⟨v, t, rfl, hv, ho, q⟩ := h
  refine ⟨_, (pss_cons (ps_if (pt_cmpR op_eq (pe_ix ix_tup (pv 0) pe_int (fun _ _ => rfl)) pe_str (nomark _)) (pss_one (ps_ret (pe_callTy call_list_of (by rfl) bi.list (by decide +kernel) (pa_cons (pe_ix ix_tup (pv 0) pe_int (fun _ _ => rfl)) pa_nil)))) pss_nil)
      (pss_one (ps_ret (pe_ifExp (PW.pt (pw_or (pt_cmpR op_eq (pe_ix ix_tup (pv 0) pe_int (fun _ _ => rfl)) pe_str (nomark _)) (pw_or (pt_cmpR op_eq (pe_ix ix_tup (pv 0) pe_int (fun _ _ => rfl)) pe_str (nomark _)) (pw_or1 (pt_cmpR op_eq (pe_ix ix_tup (pv 0) pe_int (fun _ _ => rfl)) pe_str (nomark _)))))) (pe_lst (pa_cons (pe_ix ix_tup (pv 0) pe_int (fun _ _ => rfl)) pa_nil)) (pe_lst pa_nil))))), ?_⟩
  have at_ := hv.at
  cases at_ with
  | emp e s =>
    cases e
    refine ⟨_, rfl, _, _, _, _, rfl, rfl, s, rfl, rfl, eq_no (by decide +kernel) ?_⟩
    refine ⟨_, rfl, _, _, _, _, rfl, rfl, s, rfl, rfl, eq_no (by decide +kernel) ?_⟩
    refine ⟨_, rfl, _, _, _, _, rfl, rfl, s, rfl, rfl, eq_no (by decide +kernel) ?_⟩
    refine ⟨_, rfl, _, _, _, _, rfl, rfl, s, rfl, rfl, eq_no (by decide +kernel) ?_⟩
    refine ⟨Nat.zero_le _, fun p hp => ?_⟩
    exact q p [] _ wvs_nil upd_same hp (same_new hp)
  | nam e s =>
    unfold W.Ok at ho
    exact ho.elim
  | @ltr a c e s =>
    cases e
    refine ⟨_, rfl, _, _, _, _, rfl, rfl, s, rfl, rfl, eq_no (by decide +kernel) ?_⟩
    refine ⟨_, rfl, _, _, _, _, rfl, rfl, s, rfl, rfl, eq_no (by decide +kernel) ?_⟩
    refine ⟨_, rfl, _, _, _, _, rfl, rfl, s, rfl, rfl, eq_no (by decide +kernel) ?_⟩
    refine ⟨_, rfl, _, _, _, _, rfl, rfl, s, rfl, rfl, eq_no (by decide +kernel) ?_⟩
    refine ⟨Nat.zero_le _, fun p hp => ?_⟩
    exact q p [] _ wvs_nil upd_same hp (same_new hp)
  | @join a b xs ws e s s2 hw =>
    cases e
    refine ⟨_, rfl, _, _, _, _, rfl, rfl, s, rfl, rfl, eq_yes rfl ?_⟩
    refine ⟨_, rfl, _, _, _, _, rfl, rfl, s, rfl, b, xs, rfl, .inr s2, fun p hp => ?_⟩
    exact q p xs _ (WVs.tp (tp_new hp) _ hw) upd_same hp (same_new hp)
  | @times a x t n' e s hx =>
    cases e
    refine ⟨_, rfl, _, _, _, _, rfl, rfl, s, rfl, rfl, eq_no (by decide +kernel) ?_⟩
    refine ⟨_, rfl, _, _, _, _, rfl, rfl, s, rfl, rfl, eq_yes rfl ?_⟩
    refine ⟨_, rfl, _, _, _, _, rfl, rfl, s, rfl, (by show 1 ≤ sizeLine; decide), fun p hp => ?_⟩
    exact q p [x] _ (wvs_cons (WV.tp (tp_new hp) _ hx) wvs_nil) upd_same hp (same_new hp)
  | @right a x t e s hx =>
    cases e
    refine ⟨_, rfl, _, _, _, _, rfl, rfl, s, rfl, rfl, eq_no (by decide +kernel) ?_⟩
    refine ⟨_, rfl, _, _, _, _, rfl, rfl, s, rfl, rfl, eq_no (by decide +kernel) ?_⟩
    refine ⟨_, rfl, _, _, _, _, rfl, rfl, s, rfl, rfl, eq_yes rfl ?_⟩
    refine ⟨_, rfl, _, _, _, _, rfl, rfl, s, rfl, (by show 1 ≤ sizeLine; decide), fun p hp => ?_⟩
    exact q p [x] _ (wvs_cons (WV.tp (tp_new hp) _ hx) wvs_nil) upd_same hp (same_new hp)
  | @left a x t e s hx =>
    cases e
    refine ⟨_, rfl, _, _, _, _, rfl, rfl, s, rfl, rfl, eq_no (by decide +kernel) ?_⟩
    refine ⟨_, rfl, _, _, _, _, rfl, rfl, s, rfl, rfl, eq_no (by decide +kernel) ?_⟩
    refine ⟨_, rfl, _, _, _, _, rfl, rfl, s, rfl, rfl, eq_no (by decide +kernel) ?_⟩
    refine ⟨_, rfl, _, _, _, _, rfl, rfl, s, rfl, rfl, eq_yes rfl ?_⟩
    refine ⟨_, rfl, _, _, _, _, rfl, rfl, s, rfl, (by show 1 ≤ sizeLine; decide), fun p hp => ?_⟩
    exact q p [x] _ (wvs_cons (WV.tp (tp_new hp) _ hx) wvs_nil) upd_same hp (same_new hp)
/-! ### _law_count -/
def spLCnt (K : PySem.W.Frag) (n : Nat) : Sp := fun vs H Q _ => ∃ v t u L, vs = [v, .ref u] ∧ WV K H v t ∧ t.Ok abcABC ∧ t.dep ≤ n ∧ n ≤ 100 ∧ SqL K H u (L.map V.str) ∧ ∀ H', Same H H' → Q (.int (toL (t.cnt L))) H'
theorem sc__law_count : FnScope ["_law_tree_here", "_law_letters", "_law_counts", "_law_part"] ["_law_tree_here", "_law_letters"] (defScope s__law_count) := ⟨rfl, rfl, rfl, by decide +kernel, rfl, by decide +kernel, by decide +kernel⟩
theorem ok_lcnt1 {n : Nat} (D : Df K mg "_law_count" s__law_count ["_law_tree_here", "_law_letters"]) (bi : Bi mg) (c_law_parts : Cal P w K mg base 1 "_law_parts" ["_law_tree_here"] (spParts K)) (c_law_count : Cal P w K mg base (n + 1) "_law_count" ["_law_tree_here", "_law_letters"] (spLCnt K n)) :
    Cal P w K mg base (n + 2) "_law_count" ["_law_tree_here", "_law_letters"] (spLCnt K (n + 1)) := by
  refine D.ok sc__law_count (fun vs H Q E h => ?_) (fun f cdv A outer s H vs Q E hr h => ?_)
  · obtain ⟨v, t, u, L, rfl, _⟩ := h
    rfl
  obtain ⟨v, t, u, L, rfl, hv, ho, hd, hn, hu, q⟩ := h
  refine ⟨_, (C8.pss_cut (ps_if (pt_cmpR op_eq (pe_ix ix_tup (pv 0) pe_int (fun _ _ => rfl)) pe_str (nomark _)) (pss_one (ps_ret (pe_callTy call_int1 (by rfl) bi.int (by decide +kernel) (pa_cons (pe_cmpR op_in_seq (pe_ix ix_tup (pv 0) pe_int (fun _ _ => rfl)) (pv 1) (by rfl)) pa_nil)))) pss_nil)
      (C8.pss_cut (ps_if (PW.pt (pw_and (pt_cmpR op_eq (pe_ix ix_tup (pv 0) pe_int (fun _ _ => rfl)) pe_str (nomark _)) (pw_and1 (pt_cmpR op_eq (pe_ix ix_tup (pv 0) pe_int (fun _ _ => rfl)) pe_int (nomark _))))) (pss_one (ps_ret pe_int)) pss_nil)
      (pss_cons (ps_setLc (i := 2) (own := [("_law_part", 3)]) (g := gName 3) (tt := tYes) rfl sc__law_count.nd rfl rfl (sw_true rfl rfl rfl (by decide +kernel)) (pi_list (pe_own c_law_parts hr (by omega) (by rfl) (pa_cons (pv 0) pa_nil))) (blkOk_by (N := ["_law_tree_here", "_law_letters", "_law_counts", "_law_part"]) (sc := defScope s__law_count) (by decide +kernel)) (fun _ _ _ _ _ => (pg_name (i := 3) sc__law_count.nd rfl (.inl rfl))) (fun _ _ _ _ _ => pts_nil) (fun _ _ _ _ _ => (pe_own c_law_count hr (by omega) (by rfl) (pa_cons (pv 3) (pa_cons (pv 1) pa_nil)))))
      (pss_cons (ps_if (pt_cmpR op_in_seq (pe_un un_neg pe_int) (pv 2) (by rfl)) (pss_one (ps_ret (pe_un un_neg pe_int))) pss_nil)
      (pss_cons (ps_if (PW.pt (pw_or (pt_cmpR op_eq (pe_ix ix_tup (pv 0) pe_int (fun _ _ => rfl)) pe_str (nomark _)) (pw_or1 (pt_cmpR op_eq (pe_ix ix_tup (pv 0) pe_int (fun _ _ => rfl)) pe_str (nomark _))))) (pss_one (ps_ret (pe_ifExp (pt_cmpR (op_eqD hr.units) (pv 2) (pe_lst (pa_cons pe_int pa_nil)) (nomark _)) pe_int (pe_un un_neg pe_int)))) pss_nil)
      (pss_one (ps_ret (pe_ifExp (pt_cmpR op_eq (pe_ix ix_tup (pv 0) pe_int (fun _ _ => rfl)) pe_str (nomark _)) (pe_op op_mulW (pe_ix ix_list (pv 2) pe_int (fun _ _ => rfl)) (pe_ix ix_tup (pv 0) pe_int (fun _ _ => rfl))) (pe_callB (cr_sum rfl) (by rfl) bi.sum (by decide +kernel) (pa_cons (pv 2) pa_nil)))))))))), ?_⟩
  have q0 := q H (Same.refl H)
  -- a letter
  refine ⟨fun σ' H' => σ' = [some v, some (.ref u), none, none] ∧ H' = H ∧ ∀ c, t ≠ .ltr c, ?_, ?_⟩
  · have at_ := hv.at
    cases at_ with
    | emp e s =>
      cases e
      exact ⟨_, rfl, _, _, _, _, rfl, rfl, s, rfl, rfl, eq_no (by decide +kernel) ⟨rfl, rfl, fun c e => by cases e⟩⟩
    | nam e s =>
      unfold W.Ok at ho
      exact ho.elim
    | @ltr a c e s =>
      cases e
      refine ⟨_, rfl, _, _, _, _, rfl, rfl, s, rfl, rfl, eq_yes rfl ?_⟩
      refine ⟨_, rfl, _, _, _, _, rfl, rfl, s, rfl, _, rfl, u, _, rfl, .inl hu, rfl, flat_strs L, .inr ⟨_, rfl, ?_⟩⟩
      rw [cnt_ltr] at q0
      rw [inV_str]
      by_cases hc : c ∈ L
      · rw [if_pos hc] at q0
        rw [decide_eq_true hc]
        exact q0
      · rw [if_neg hc] at q0
        rw [decide_eq_false hc]
        exact q0
    | join e s s2 hw =>
      cases e
      exact ⟨_, rfl, _, _, _, _, rfl, rfl, s, rfl, rfl, eq_no (by decide +kernel) ⟨rfl, rfl, fun c e => by cases e⟩⟩
    | times e s hx =>
      cases e
      exact ⟨_, rfl, _, _, _, _, rfl, rfl, s, rfl, rfl, eq_no (by decide +kernel) ⟨rfl, rfl, fun c e => by cases e⟩⟩
    | right e s hx =>
      cases e
      exact ⟨_, rfl, _, _, _, _, rfl, rfl, s, rfl, rfl, eq_no (by decide +kernel) ⟨rfl, rfl, fun c e => by cases e⟩⟩
    | left e s hx =>
      cases e
      exact ⟨_, rfl, _, _, _, _, rfl, rfl, s, rfl, rfl, eq_no (by decide +kernel) ⟨rfl, rfl, fun c e => by cases e⟩⟩
  rintro σ' H' ⟨rfl, rfl, hl⟩
  -- no copies
  refine ⟨fun σ' H2 => σ' = [some v, some (.ref u), none, none] ∧ H2 = H' ∧ ∀ x n, t = .times x n → n ≠ 0, ?_, ?_⟩
  · have at_ := hv.at
    cases at_ with
    | emp e s =>
      cases e
      exact ⟨_, rfl, _, _, _, _, rfl, rfl, s, rfl, rfl, eq_no (by decide +kernel) ⟨rfl, rfl, fun x n e => by cases e⟩⟩
    | nam e s =>
      unfold W.Ok at ho
      exact ho.elim
    | @ltr a c e s => exact absurd rfl (hl c)
    | join e s s2 hw =>
      cases e
      exact ⟨_, rfl, _, _, _, _, rfl, rfl, s, rfl, rfl, eq_no (by decide +kernel) ⟨rfl, rfl, fun x n e => by cases e⟩⟩
    | @times a x t n' e s hx =>
      cases e
      refine ⟨_, rfl, _, _, _, _, rfl, rfl, s, rfl, rfl, eq_yes rfl ?_⟩
      refine ⟨_, rfl, _, _, _, _, rfl, rfl, s, rfl, rfl, _, rfl, ite2 (fun hc => ?_) (fun hc => ?_)⟩
      · have hc' : V.int n' = V.int 0 := of_decide_eq_true hc
        cases hc'
        rw [cnt_times, if_neg (by decide)] at q0
        exact q0
      · refine ⟨rfl, rfl, fun x n e z => ?_⟩
        cases e
        exact hc (by rw [z]; exact decide_eq_true rfl)
    | right e s hx =>
      cases e
      exact ⟨_, rfl, _, _, _, _, rfl, rfl, s, rfl, rfl, eq_no (by decide +kernel) ⟨rfl, rfl, fun x n e => by cases e⟩⟩
    | left e s hx =>
      cases e
      exact ⟨_, rfl, _, _, _, _, rfl, rfl, s, rfl, rfl, eq_no (by decide +kernel) ⟨rfl, rfl, fun x n e => by cases e⟩⟩
  rintro σ' H2 ⟨rfl, rfl, ht⟩
  -- the counts of the parts
  refine ⟨_, rfl, v, t, rfl, hv, ho, fun p xs H1 hw hp hpn k1 => ⟨p, rfl, ⟨xs, SqL.of hp⟩, fun Dd hD => ?_⟩⟩
  have hlen := hw.length
  have h3 := W.parts_len ho
  refine lcl (xs := xs) (fun i H3 => H3 Dd = some (.lst (((t.parts.take i).map fun x => toL (x.cnt L)).map V.int)) ∧ Same H1 H3) ?_ ?_ ?_ ?_
  · exact ⟨upd_same, same_new hD⟩
  · rintro i H3 _ ⟨_, k3⟩
    exact SqL.of (k3 _ _ hp)
  · rintro i x H3 hx ⟨hA, k3⟩
    obtain ⟨t1, e1, h1⟩ := hw.get hx
    have m1 := W.parts_mem ho (List.mem_of_getElem? e1)
    refine ⟨_, rfl, _, rfl, _, t1, u, L, rfl, WV.tp (tp_same k3) _ h1, m1.1, by omega, by omega, (k1.trans k3).seq hu, fun H4 k4 => ?_⟩
    refine ⟨_, k4 _ _ hA, ?_, ?_, ?_⟩
    · rw [List.length_map, List.length_map, List.length_take]
      exact Nat.lt_of_le_of_lt (show _ ≤ 1000 by omega) (by decide)
    · rw [upd_same, List.take_add_one, e1]
      show _ = some (HO.lst (((t.parts.take i ++ [t1]).map fun x => toL (x.cnt L)).map V.int))
      rw [List.map_append, List.map_append]
      rfl
    · intro b' o hb
      rw [upd_ne (ne_of_none hb hD)]
      exact k4 _ _ (k3 _ _ hb)
  · rintro H3 ⟨hA, k3⟩
    rw [hlen, List.take_length] at hA
    have hA' : H3 Dd = some (.lst ((t.cs L).map V.int)) := hA
    have kk := k1.trans k3
    have q3 := q H3 kk
    refine ⟨_, rfl, _, rfl, Dd, _, rfl, .inl (SqL.of hA'), rfl, flat_ints _, ?_⟩
    rw [if_neg (by decide), inV_int]
    by_cases hm : (-1 : Int) ∈ t.cs L
    · rw [decide_eq_true hm]
      rw [cs_neg ho hl ht hm] at q3
      exact ⟨true, rfl, _, rfl, q3⟩
    · rw [decide_eq_false hm]
      refine ⟨false, rfl, ?_⟩
      have at_ := (WV.tp (tp_same kk) _ hv).at
      cases at_ with
      | emp e s =>
        cases e
        refine ⟨_, rfl, _, _, _, _, rfl, rfl, s, rfl, rfl, eq_no (by decide +kernel) ?_⟩
        refine ⟨_, rfl, _, _, _, _, rfl, rfl, s, rfl, rfl, eq_no (by decide +kernel) ?_⟩
        refine ⟨_, rfl, _, _, _, _, rfl, rfl, s, rfl, rfl, eq_no (by decide +kernel) ?_⟩
        rw [cnt_emp] at q3
        exact ⟨_, rfl, Dd, _, rfl, SqL.of hA', q3⟩
      | nam e s =>
        unfold W.Ok at ho
        exact ho.elim
      | @ltr a c e s => exact absurd rfl (hl c)
      | join e s s2 hw =>
        cases e
        refine ⟨_, rfl, _, _, _, _, rfl, rfl, s, rfl, rfl, eq_no (by decide +kernel) ?_⟩
        refine ⟨_, rfl, _, _, _, _, rfl, rfl, s, rfl, rfl, eq_no (by decide +kernel) ?_⟩
        refine ⟨_, rfl, _, _, _, _, rfl, rfl, s, rfl, rfl, eq_no (by decide +kernel) ?_⟩
        rw [cs_join ho hm] at q3
        exact ⟨_, rfl, Dd, _, rfl, SqL.of hA', q3⟩
      | @times a x t n' e s hx =>
        cases e
        refine ⟨_, rfl, _, _, _, _, rfl, rfl, s, rfl, rfl, eq_no (by decide +kernel) ?_⟩
        refine ⟨_, rfl, _, _, _, _, rfl, rfl, s, rfl, rfl, eq_no (by decide +kernel) ?_⟩
        refine ⟨_, rfl, _, _, _, _, rfl, rfl, s, rfl, rfl, eq_yes rfl ?_⟩
        have hn' : n'.natAbs < 2 ^ 100 := by
          unfold W.Ok at ho
          have : n'.natAbs ≤ 1000000000000000000000000000000 := by omega
          exact Nat.lt_of_le_of_lt this (by decide)
        rw [cs_times ho (ht t n' rfl) hm] at q3
        unfold W.Ok at ho
        rw [W.dep] at hd
        refine ⟨_, rfl, _, _, _, _, rfl, rfl, SqL.of hA', rfl, _, rfl, _, _, _, _, rfl, rfl, s, rfl, _, _, rfl, rfl, wide_mul (toL_abs ho.2.2) hn' (by have := t.dep_pos; omega) (by decide) (by omega), ?_⟩
        exact q3
      | @right a x t e s hx =>
        cases e
        unfold W.Ok at ho
        refine ⟨_, rfl, _, _, _, _, rfl, rfl, s, rfl, rfl, eq_yes rfl ?_⟩
        refine ⟨_, rfl, (by show 1 ≤ sizeLine; decide), fun p2 hp2 => ?_⟩
        have hA2 : (upd H3 p2 (.lst [.int 0])) Dd = some (.lst [.int (toL (t.cnt L))]) := by
          rw [upd_ne (ne_of_none hA' hp2)]
          exact hA'
        refine ⟨.list [.int (toL (t.cnt L))], .list [.int 0], .lst (SqL.of hA2) (.cons (.int _) .nil), .lst (SqL.of upd_same) (.cons (.int _) .nil), int_shaped, int_shaped, ?_⟩
        rw [int_eqv]
        have q4 := q _ (kk.trans (same_new (o := .lst [.int 0]) hp2))
        rw [cnt_right, cs_end ho] at q4
        by_cases hz : toL (t.cnt L) = 0
        · rw [if_pos hz] at q4
          rw [decide_eq_true hz]
          exact ⟨true, rfl, q4⟩
        · rw [if_neg hz] at q4
          rw [decide_eq_false hz]
          exact ⟨false, rfl, _, rfl, q4⟩
      | @left a x t e s hx =>
        cases e
        unfold W.Ok at ho
        refine ⟨_, rfl, _, _, _, _, rfl, rfl, s, rfl, rfl, eq_no (by decide +kernel) ?_⟩
        refine ⟨_, rfl, _, _, _, _, rfl, rfl, s, rfl, rfl, eq_yes rfl ?_⟩
        refine ⟨_, rfl, (by show 1 ≤ sizeLine; decide), fun p2 hp2 => ?_⟩
        have hA2 : (upd H3 p2 (.lst [.int 0])) Dd = some (.lst [.int (toL (t.cnt L))]) := by
          rw [upd_ne (ne_of_none hA' hp2)]
          exact hA'
        refine ⟨.list [.int (toL (t.cnt L))], .list [.int 0], .lst (SqL.of hA2) (.cons (.int _) .nil), .lst (SqL.of upd_same) (.cons (.int _) .nil), int_shaped, int_shaped, ?_⟩
        rw [int_eqv]
        have q4 := q _ (kk.trans (same_new (o := .lst [.int 0]) hp2))
        rw [cnt_left, cs_end ho] at q4
        by_cases hz : toL (t.cnt L) = 0
        · rw [if_pos hz] at q4
          rw [decide_eq_true hz]
          exact ⟨true, rfl, q4⟩
        · rw [if_neg hz] at q4
          rw [decide_eq_false hz]
          exact ⟨false, rfl, _, rfl, q4⟩
theorem ok_lcnt (D : Df K mg "_law_count" s__law_count ["_law_tree_here", "_law_letters"]) (bi : Bi mg) (c_law_parts : Cal P w K mg base 1 "_law_parts" ["_law_tree_here"] (spParts K)) : ∀ n : Nat, Cal P w K mg base (n + 1) "_law_count" ["_law_tree_here", "_law_letters"] (spLCnt K n)
  | 0 => D.no fun vs H Q E h => by
    obtain ⟨v, t, u, L, _, _, _, h, _⟩ := h
    have := t.dep_pos
    omega
  | n + 1 => ok_lcnt1 D bi c_law_parts (ok_lcnt D bi c_law_parts n)
/-! ### _law_places -/
def spPlaces (K : PySem.W.Frag) : Sp := fun vs H Q _ => ∃ v t, vs = [v] ∧ WV K H v t ∧ t.Ok abcABC ∧ t.dep ≤ 12 ∧ ∀ H', Same H H' → Q (.int (toL (t.cnt abcABC))) H'
theorem sc__law_places : FnScope ["_law_tree_here"] ["_law_tree_here"] (defScope s__law_places) := ⟨rfl, rfl, rfl, by decide +kernel, rfl, by decide +kernel, by decide +kernel⟩
theorem ok_places (D : Df K mg "_law_places" s__law_places ["_law_tree_here"]) (c_law_count : Cal P w K mg base 13 "_law_count" ["_law_tree_here", "_law_letters"] (spLCnt K 12)) : Cal P w K mg base 14 "_law_places" ["_law_tree_here"] (spPlaces K) := by
  refine D.ok sc__law_places (fun vs H Q E h => ?_) (fun f cdv A outer s H vs Q E hr h => ?_)
  · obtain ⟨v, t, rfl, _⟩ := h
    rfl
  obtain ⟨v, t, rfl, hv, ho, hd, q⟩ := h
  refine ⟨_, (pss_one (ps_ret (pe_own c_law_count hr (by omega) (by rfl) (pa_cons (pv 0) (pa_cons (pe_lst (pa_cons pe_str (pa_cons pe_str (pa_cons pe_str (pa_cons pe_str (pa_cons pe_str (pa_cons pe_str pa_nil))))))) pa_nil))))), ?_⟩
  refine ⟨_, rfl, (by show 6 ≤ sizeLine; decide), fun p hp => ?_⟩
  exact ⟨v, t, p, abcABC, rfl, WV.tp (tp_new hp) _ hv, ho, hd, by decide, SqL.of upd_same, fun H' k => q H' ((same_new hp).trans k)⟩
theorem sc__law_wide : FnScope ["_law_rng", "_law_tree_here"] ["_law_rng"] (defScope s__law_wide) := ⟨rfl, rfl, rfl, by decide +kernel, rfl, by decide +kernel, by decide +kernel⟩
theorem ok_wide (D : Df K mg "_law_wide" s__law_wide ["_law_rng"]) (bi : Bi mg) (c_law_draw : Cal P w K mg base 1 "_law_draw" ["_law_rng", "_law_many"] spDraw) (c_law_great : Cal P w K mg base 3 "_law_great" ["_law_rng"] spGreat) (c_law_word : Cal P w K mg base 6 "_law_word" ["_law_rng"] (spWord K 4)) :
    Cal P w K mg base 7 "_law_wide" ["_law_rng"] (spWord K 6) := by
  refine D.ok sc__law_wide (fun vs H Q E h => ?_) (fun f cdv A outer s H vs Q E hr h => ?_)
  · obtain ⟨r, l, rfl, _⟩ := h
    rfl
  obtain ⟨r, l, rfl, g, q⟩ := h
  refine ⟨_, (pss_cons (ps_set (i := 1) sc__law_wide.nd rfl (.inl rfl) (pe_own c_law_word hr (by omega) (by rfl) (pa_cons (pv 0) pa_nil)))
      (C8.pss_cut (ps_if (pt_cmpR op_eq (pe_own c_law_draw hr (by omega) (by rfl) (pa_cons (pv 0) (pa_cons pe_int pa_nil))) pe_int (nomark _)) (pss_one (ps_set (i := 1) sc__law_wide.nd rfl (.inl rfl) (pe_tup (pa_cons pe_str (pa_cons (pv 1) (pa_cons (pe_own c_law_great hr (by omega) (by rfl) (pa_cons (pv 0) pa_nil)) pa_nil)))))) pss_nil)
      (pss_one (ps_ret (pe_ifExp (pt_cmpR op_eq (pe_own c_law_draw hr (by omega) (by rfl) (pa_cons (pv 0) (pa_cons pe_int pa_nil))) pe_int (nomark _)) (pe_tup (pa_cons pe_str (pa_cons (pe_tup (pa_cons (pv 1) (pa_cons (pe_tup (pa_cons pe_str (pa_cons (pe_tup (pa_cons pe_str (pa_cons pe_str pa_nil))) (pa_cons (pe_own c_law_great hr (by omega) (by rfl) (pa_cons (pv 0) pa_nil)) pa_nil)))) pa_nil))) pa_nil))) (pv 1)))))), ?_⟩
  refine ⟨_, rfl, r, l, rfl, g, fun v1 t1 H1 hv1 ho1 hd1 g1 k1 => ?_⟩
  refine ⟨fun σ' H' => ∃ v t, σ' = [some (.ref r), some v] ∧ WV K H' v t ∧ t.Ok abc ∧ t.dep ≤ 5 ∧ Rng H' r l ∧ Kp r H H', ?_, ?_⟩
  · refine ⟨_, rfl, r, l, _, rfl, by decide, by decide, g1, fun v2 H2 a2 b2 g2 k2 => ?_⟩
    obtain ⟨z1, hz1⟩ := g1.lst
    have hv2 := WV.tp (k2.tp hz1) _ hv1
    refine ⟨rfl, _, rfl, ite2 (fun _ => ?_) (fun _ => ?_)⟩
    · refine ⟨_, rfl, _, rfl, r, l, rfl, g2, fun m H3 m1 m2 g3 k3 => ?_⟩
      refine ⟨(by show 3 ≤ sizeLine; decide), fun p hp => ?_⟩
      obtain ⟨z2, hz2⟩ := g2.lst
      exact ⟨_, .times t1 m, rfl, wv_times (SqT.of upd_same) (WV.tp ((k3.tp hz2).trans (tp_new hp)) _ hv2), by unfold W.Ok; exact ⟨by omega, m2, ho1⟩, by rw [W.dep]; omega, g3.new hp, (k1.trans k2).trans (k3.trans (Kp.new hp))⟩
    · exact ⟨_, t1, rfl, hv2, ho1, by omega, g2, k1.trans k2⟩
  rintro σ' H2 ⟨v, t, rfl, hv, ho, hd, g2, k2⟩
  refine ⟨_, rfl, r, l, _, rfl, by decide, by decide, g2, fun v3 H3 a3 b3 g3 k3 => ?_⟩
  obtain ⟨z2, hz2⟩ := g2.lst
  have hv3 := WV.tp (k3.tp hz2) _ hv
  refine ⟨rfl, _, rfl, ite2 (fun _ => ?_) (fun _ => ?_)⟩
  · refine ⟨_, rfl, (by show 2 ≤ sizeLine; decide), fun p1 hp1 => ?_⟩
    refine ⟨_, rfl, r, l, rfl, g3.new hp1, fun m H4 m1 m2 g4 k4 => ?_⟩
    refine ⟨(by show 3 ≤ sizeLine; decide), fun p2 hp2 => ⟨(by show 2 ≤ sizeLine; decide), fun p3 hp3 => ⟨(by show 2 ≤ sizeLine; decide), fun p4 hp4 => ?_⟩⟩⟩
    obtain ⟨z3, hz3⟩ := (g3.new (o := .tup [.str "letter", .str "b"]) hp1).lst
    have tA := k4.tp hz3
    have t2 := tp_new (o := .tup [.str "times", .ref p1, .int m]) hp2
    have t3 := tp_new (o := .tup [v, .ref p2]) hp3
    have t4 := tp_new (o := .tup [.str "join", .ref p3]) hp4
    have hb : WV K H4 (.ref p1) (.ltr "b") := wv_ltr (tA.sq (SqT.of upd_same))
    refine q _ (.join [t, .times (.ltr "b") m]) _ (wv_join (SqT.of upd_same) (t4.sq (SqT.of upd_same)) (wvs_cons (WV.tp ((tp_new hp1).trans (tA.trans (t2.trans (t3.trans t4)))) _ hv3) (wvs_cons (wv_times ((t3.trans t4).sq (SqT.of upd_same)) (WV.tp (t2.trans (t3.trans t4)) _ hb)) wvs_nil))) ?_ ?_ (((g4.new hp2).new hp3).new hp4) ((k2.trans k3).trans ((Kp.new hp1).trans (k4.trans ((Kp.new hp2).trans ((Kp.new hp3).trans (Kp.new hp4))))))
    · unfold W.Ok
      refine ⟨by show 2 ≤ 3; decide, W.oks_of fun x h => ?_⟩
      simp only [List.mem_cons, List.not_mem_nil, or_false] at h
      rcases h with rfl | rfl
      · exact ho
      · unfold W.Ok
        exact ⟨by omega, m2, by unfold W.Ok; decide⟩
    · rw [W.dep]
      have := W.deps_le (ws := [t, .times (.ltr "b") m]) (n := 5) fun x h => by
        simp only [List.mem_cons, List.not_mem_nil, or_false] at h
        rcases h with rfl | rfl
        · exact hd
        · rw [W.dep, W.dep]
          decide
      omega
  · exact ⟨_, rfl, q _ _ _ hv3 ho (by omega) g3 (k2.trans k3)⟩
/-! ### the base class of the errors -/
theorem sc_ScatterError_init : FnScope ["self", "message"] ["self", "message"] (defScope s_ScatterError_init) := ⟨rfl, rfl, rfl, by decide +kernel, rfl, by decide +kernel, by decide +kernel⟩
theorem ok_base {B : Addr} (D : Bas K mg "ScatterError" B "ScatterError.__init__" s_ScatterError_init "something that was passed is not valid") : BasOk P w K mg base "ScatterError" B := by
  obtain ⟨f, fd, F, h1, h2⟩ := D.ex
  refine ⟨⟨f, fd, ?_, h1, h2, F.kp⟩, D.at_, D.rd, D.sg⟩
  refine F.ok sc_ScatterError_init (fun vs H Q E h => ?_) (fun cdv A outer s H vs Q E hr h => ?_)
  · obtain ⟨a, C, n, m, rfl, _⟩ := h
    rfl
  obtain ⟨a, C, n, m, rfl, ha, hc, hx, h3, h4, q⟩ := h
  refine ⟨_, pss_cons (ps_ost (pv 0) (pe_nameof (pv 0))) (pss_one (ps_ost (pv 0) (pv 1))), ?_⟩
  refine ⟨_, rfl, a, C, n, rfl, ha, hc, ?_⟩
  refine ⟨_, rfl, a, C, rfl, hx, h3, .inl ⟨ha, fun dx hd hne => ?_⟩⟩
  refine ⟨_, rfl, _, rfl, a, C, rfl, hx, h4, .inr ⟨dx, [("code", .str n)], upd_same, ?_, (by show 1 ≤ 900; decide), ?_⟩⟩
  · rw [upd_ne hne, upd_same]
  · refine q dx _ ?_ upd_same hd hne (fun b o hb ho => ?_)
    · rw [upd_ne (Ne.symm hne), upd_same]
    · have hbd : b ≠ dx := ne_of_none ho hd
      rw [upd_ne hbd, upd_ne hb, upd_ne hbd]
      exact ho
/-! ### _law_field -/
theorem sc__law_field : FnScope ["_law_e"] ["_law_e"] (defScope s__law_field) := ⟨rfl, rfl, rfl, by decide +kernel, rfl, by decide +kernel, by decide +kernel⟩
theorem ok_field (D : Df K mg "_law_field" s__law_field ["_law_e"]) : CalW P w K mg base 1 "_law_field" ["_law_e"] (spField K) := by
  refine D.okW sc__law_field (fun p vs H Q h => ?_) (fun f cdv A outer s H vs Q p hr h => ?_)
  · obtain ⟨C, dd, fs, n, v, rfl, _⟩ := h
    rfl
  obtain ⟨C, dd, fs, n, v, rfl, hz, hf, cc, hd, hn, hv, q⟩ := h
  have hp : (p.1, p.2) ∈ (L2H.cxH C8.CX0 P w K mg base ["_law_e"] "_law_field" (defScope s__law_field) f cdv A outer s H C8.E0 p).pn := by show p ∈ [p]; simp
  refine ⟨_, (pss_cons (ps_if (PW.pt (pw_or (pt_cmpR op_eq (pe_xfP hp cc.xf (cc.no "code" (by decide)) hz hf (pv 0)) pe_str (nomark _)) (pw_or (pt_cmpR op_eq (pe_xfP hp cc.xf (cc.no "code" (by decide)) hz hf (pv 0)) pe_str (nomark _)) (pw_or1 (pt_cmpR op_eq (pe_xfP hp cc.xf (cc.no "code" (by decide)) hz hf (pv 0)) pe_str (nomark _)))))) (pss_one (ps_ret (pe_xfP hp cc.xf (cc.no "position" (by decide)) hz hf (pv 0)))) pss_nil)
      (pss_cons (ps_if (PW.pt (pw_or (pt_cmpR op_eq (pe_xfP hp cc.xf (cc.no "code" (by decide)) hz hf (pv 0)) pe_str (nomark _)) (pw_or1 (pt_cmpR op_eq (pe_xfP hp cc.xf (cc.no "code" (by decide)) hz hf (pv 0)) pe_str (nomark _))))) (pss_one (ps_ret (pe_xfP hp cc.xf (cc.no "limit" (by decide)) hz hf (pv 0)))) pss_nil)
      (pss_cons (ps_if (pt_cmpR op_eq (pe_xfP hp cc.xf (cc.no "code" (by decide)) hz hf (pv 0)) pe_str (nomark _)) (pss_one (ps_ret (pe_xfP hp cc.xf (cc.no "variables" (by decide)) hz hf (pv 0)))) pss_nil)
      (pss_cons (ps_if (pt_cmpR op_eq (pe_xfP hp cc.xf (cc.no "code" (by decide)) hz hf (pv 0)) pe_str (nomark _)) (pss_one (ps_ret (pe_xfP hp cc.xf (cc.no "number" (by decide)) hz hf (pv 0)))) pss_nil)
      (pss_one (ps_ret (pe_ifExp (PW.pt (pw_or (pt_cmpR op_eq (pe_xfP hp cc.xf (cc.no "code" (by decide)) hz hf (pv 0)) pe_str (nomark _)) (pw_or1 (pt_cmpR op_eq (pe_xfP hp cc.xf (cc.no "code" (by decide)) hz hf (pv 0)) pe_str (nomark _))))) pe_non (pe_xfP hp cc.xf (cc.no "name" (by decide)) hz hf (pv 0))))))))), ?_⟩
  cases hv with
  | text h =>
    refine ⟨_, rfl, rfl, fs, _, hd, hn, rfl, eq_yes rfl ?_⟩
    exact ⟨_, rfl, rfl, fs, _, hd, h, q⟩
  | large h =>
    refine ⟨_, rfl, rfl, fs, _, hd, hn, rfl, eq_no (by decide +kernel) ?_⟩
    refine ⟨_, rfl, rfl, fs, _, hd, hn, rfl, eq_no (by decide +kernel) ?_⟩
    refine ⟨_, rfl, rfl, fs, _, hd, hn, rfl, eq_no (by decide +kernel) ?_⟩
    refine ⟨_, rfl, rfl, fs, _, hd, hn, rfl, eq_yes rfl ?_⟩
    exact ⟨_, rfl, rfl, fs, _, hd, h, q⟩
  | addr =>
    refine ⟨_, rfl, rfl, fs, _, hd, hn, rfl, eq_no (by decide +kernel) ?_⟩
    refine ⟨_, rfl, rfl, fs, _, hd, hn, rfl, eq_no (by decide +kernel) ?_⟩
    refine ⟨_, rfl, rfl, fs, _, hd, hn, rfl, eq_no (by decide +kernel) ?_⟩
    refine ⟨_, rfl, rfl, fs, _, hd, hn, rfl, eq_no (by decide +kernel) ?_⟩
    refine ⟨_, rfl, rfl, fs, _, hd, hn, rfl, eq_no (by decide +kernel) ?_⟩
    refine ⟨_, rfl, rfl, fs, _, hd, hn, rfl, eq_no (by decide +kernel) ?_⟩
    refine ⟨_, rfl, rfl, fs, _, hd, hn, rfl, eq_no (by decide +kernel) ?_⟩
    refine ⟨_, rfl, rfl, fs, _, hd, hn, rfl, eq_yes rfl ?_⟩
    exact q
/-! ### _law_try -/
theorem try_gives {X : Cx} {g BS BM : Addr} {cdg : Value} {q : Str} (hr : Room 3 X.A) (cf : CalW X.prog X.w X.K X.mg X.base 1 "_law_field" ["_law_e"] (spField X.K))
    (mS : X.mg "ScatterError" = some (.ref BS)) (mM : X.mg "Missing" = some (.ref BM)) :
    LamX.GivesTo X ["_law_ask", "_law_e"] "_law_try" (defScope s__law_try) g cdg (defBody s__law_try) "_law_ask" q (TTry X.K BS) := by
  intro f c' s H Q tl act hc h
  obtain ⟨fw, fdw, F, mF, kF, bF⟩ := cf.ex
  have suite : ∀ (b : Addr) (ob : Obj) (k : Value) (dd : Option Addr) (pl : List (Addr × Obj)) (j : Nat) (p1 p2 p3 p4 p5 p6 p7 : Pos),
      Zc k dd ob → (∃ w, ob.data = .fields w) →
      PSs ((cxOf C8.CX0 X.prog X.w X.K X.mg X.base ["_law_ask", "_law_e"] "_law_try" (defScope s__law_try) g cdg X.A X.stack s H C8.E0).nox.suite b ((b, ob) :: pl))
        [.Return (some (.Tuple [.Attribute (.Name "_law_e" p1) "code" p2, .Call (.Name "_law_field" p3) [.Name "_law_e" p4] [] p5] j p6)) p7] (tsTry X.K b k dd) := by
    intro b ob k dd pl j p1 p2 p3 p4 p5 p6 p7 hz hf
    have r0 : Room 1 (X.A.deeper (envOfC "_law_try" (defScope s__law_try) s.heap.objs.size g cdg)) := (hr.mono (by decide : 2 ≤ 3)).deeper _
    have r1 : L2H.RoomH 1 ((cxOf C8.CX0 X.prog X.w X.K X.mg X.base ["_law_ask", "_law_e"] "_law_try" (defScope s__law_try) g cdg X.A X.stack s H C8.E0).nox.suite b ((b, ob) :: pl)).A :=
      ⟨r0.dp, r0.un⟩
    have hp : (b, ob) ∈ ((cxOf C8.CX0 X.prog X.w X.K X.mg X.base ["_law_ask", "_law_e"] "_law_try" (defScope s__law_try) g cdg X.A X.stack s H C8.E0).nox.suite b ((b, ob) :: pl)).pn := List.mem_cons_self
    have term := pss_one (ps_ret (pos := p7) (pe_tup (x1 := j) (pos := p6) (pa_cons (pe_xfQ (n := "code") (pos := p2) hp hz hf (pv (pos := p1) 1))
      (pa_cons (pe_callW (pos := p5) (q := p3) (sp2 := spF X.K b k dd) (fun vs H' Q' z => by
        obtain ⟨C, d2, fs, n, v, e1, e2, e3, e4⟩ := z
        subst e2
        subst e3
        exact ⟨C, d2, fs, n, v, e1, hz, hf, e4⟩) hp F r1 (by rfl) mF kF bF (pa_cons (pv (pos := p4) 1) pa_nil)) pa_nil))))
    refine ⟨fun pins s' σ H' D I z => term.run pins s' σ H' D I ?_⟩
    obtain ⟨C, d2, fs, n, v, e1, e2, ec, hσ0, hd, hn, hv, q⟩ := z
    have hσ := hσ0 (by rw [I.len]; show 1 < 2; decide)
    exact ⟨_, hσ, rfl, C, d2, fs, _, e1, e2, ec.xf, ec.no _ (by decide), hd, hn, _, hσ, C, d2, fs, n, v, rfl, e1, e2, ec, hd, hn, hv, (by show 2 ≤ sizeLine; decide), fun p hp => q p hp⟩
  have nd : (["_law_ask", "_law_e"] : List Str).Nodup := by decide +kernel
  refine ⟨_, pss_one (ps_try_asL (X := (cxOf C8.CX0 X.prog X.w X.K X.mg X.base ["_law_ask", "_law_e"] "_law_try" (defScope s__law_try) g cdg X.A X.stack s H C8.E0).nox) (nm := "_law_e") (i := 1) (Wout := fun _ _ _ _ => False)
    (ls := [(.ref BS, tsTry X.K), (.ref BM, tsTry X.K)])
    (tb := fun W D σ H0 => ∃ Ech : XK, (∀ cls d σ' H', Ech cls d H' → W cls d σ' H') ∧ σ[0]? = some (some (.ref f)) ∧ H0 c' = some (LamX.CodeO c' q) ∧
      tl Ech H0 (fun v H' => ([V.str "value", v] : List V).length ≤ sizeLine ∧ ∀ p, H' p = none → D.rt (.ref p) (upd H' p (.tup [.str "value", v]))))
    rfl rfl nd rfl (by rfl) LamX.takes0 (fun W pn xe tk _ => ?_)
    (.some ⟨by rfl, by decide +kernel, .inl mS⟩ (fun b ob k dd pl hz hf => suite b ob k dd pl _ _ _ _ _ _ _ _ hz hf)
      (.some ⟨by rfl, by decide +kernel, .inl mM⟩ (fun b ob k dd pl hz hf => suite b ob k dd pl _ _ _ _ _ _ _ _ hz hf) .none))), ?_⟩
  · refine ⟨fun pins s' σ H' D I z => ?_⟩
    obtain ⟨Ech, hW, h1, h2, h3⟩ := z
    exact (pss_one (ps_ret (pe_tup (pa_cons pe_str (pa_cons (act W pn xe Ech _ _ tk hW) pa_nil))))).run pins s' σ H' D I ⟨h1, h2, h3⟩
  · refine ⟨fun cls d H' => ∃ C dd fs n v, cls = .ref C ∧ d = some dd ∧ PySem.W.exmOne X.K cls (.ref BS) = some true ∧ ErrC X.K C ∧ H' dd = some (.xd fs) ∧ fs.lookup ("code" : Str) = some (V.str n) ∧ ErV fs n v ∧
      ∀ p, H' p = none → Q (.ref p) (upd H' p (.tup [.str n, v])), fun cls d σ' H' z => ?_, rfl, hc, h⟩
    obtain ⟨C, dd, fs, n, v, e1, e2, e3, ec, hd, hn, hv, q'⟩ := z
    refine ⟨true, e3, fun _ a ha => ⟨C, dd, fs, n, v, e1, e2, ec, fun hl => ?_, hd, hn, hv, q'⟩, fun z => nomatch z⟩
    rw [List.length_set] at hl
    exact List.getElem?_set_self hl
theorem pe_try {X : Cx} {BS BM c T : Addr} {k : Nat} {params : Arguments} {body : Expr} {scope : Scope} {t : XK → TE} {p lpos pos : Pos} (D : Df X.K X.mg "_law_try" s__law_try ["_law_ask"]) (cf : CalW X.prog X.w X.K X.mg X.base 1 "_law_field" ["_law_e"] (spField X.K))
    (mS : X.mg "ScatterError" = some (.ref BS)) (mM : X.mg "Missing" = some (.ref BM)) (TB : LamX.TabB X.base X.mg c T) (hcode : X.env.code = .ref c) (hr : Room (k + 3) X.A) (hg : Gl X "_law_try") (L : LamX.LamS X.env.scope scope) (hdef : defaultsOf params X.env = ([], []))
    (hbind : ∀ (q : Str) (cl : List (Str × Addr)) (pm cv ctv : Value), bindArgs (PySem.W.kla_fn "<lambda>" q params body scope cl pm cv ctv) ⟨[], []⟩ = pure [])
    (hbody : ∀ (A : Around) (outer : List Env) (s : Shared) (H : Hp) (E : XK) (f c' : Addr), Room (k + 1) (A.deeper (LamX.lamEnv X scope s.heap.objs.size f c')) → PE (LamX.lamCx X A outer s H E scope f c') body (t E)) :
    PE X (.Call (.Name "_law_try" p) [.Lambda params body scope lpos] [] pos) (LamX.tLam [(T, X.env.qual ++ "<lambda>")] (TTry X.K BS) t) := by
  obtain ⟨g, fd, F, m, b⟩ := D.ex
  obtain ⟨oc, od, kV, doc, pm, an, cdv, ct, osl, rfl, lk, hcd⟩ := F.ex
  exact LamX.pe_lamcall (Ng := ["_law_ask", "_law_e"]) (a := "_law_ask") hg m F.kp lk hcd b ⟨rfl, rfl, rfl, by decide +kernel, rfl, by decide +kernel, by decide +kernel⟩ rfl (.inl (by decide +kernel))
    (try_gives (hr.mono (by omega)) cf mS mM) TB hcode (List.mem_singleton.mpr rfl) (fun p hp _ => by rw [List.mem_singleton.mp hp]) (hr.mono (by omega)) L hdef hbind hbody
theorem pe_tryD {X : Cx} {BS BM c T : Addr} {y0 : Str} {k j : Nat} {z : Int} {params : Arguments} {body : Expr} {scope : Scope} {t : XK → TE} {p lpos pos dp : Pos} (D : Df X.K X.mg "_law_try" s__law_try ["_law_ask"]) (cf : CalW X.prog X.w X.K X.mg X.base 1 "_law_field" ["_law_e"] (spField X.K))
    (mS : X.mg "ScatterError" = some (.ref BS)) (mM : X.mg "Missing" = some (.ref BM)) (TB : LamX.TabB X.base X.mg c T) (hcode : X.env.code = .ref c) (hr : Room (k + 3) X.A) (hg : Gl X "_law_try") (L : LamD X.N X.env.scope scope y0)
    (hdef : params.defaults = [.Constant (.int z) j dp]) (hkw : params.kw_defaults = [])
    (hbind : ∀ (q : Str) (cl : List (Str × Addr)) (T0 : Addr) (doc pm cv ctv dv : Value), ∃ kk, bindArgs (PySem.W.kdv_fn "<lambda>" q params (.expr body) scope cl (.ref T0) doc pm cv ctv) ⟨[], []⟩ = seqItems? (.ref T0) >>= kk ∧ kk (some #[dv]) = pure [(y0, dv)])
    (hbody : ∀ (A : Around) (outer : List Env) (s : Shared) (H : Hp) (E : XK) (f c' : Addr), Room (k + 1) (A.deeper (LamX.lamEnv X scope s.heap.objs.size f c')) → PE (LamX.lamCx X A outer s H E scope f c') body (t E)) :
    PE X (.Call (.Name "_law_try" p) [.Lambda params body scope lpos] [] pos) (LamX.tLam [(T, X.env.qual ++ "<lambda>")] (TTry X.K BS) t) := by
  obtain ⟨g, fd, F, m, b⟩ := D.ex
  obtain ⟨oc, od, kV, doc, pm, an, cdv, ct, osl, rfl, lk, hcd⟩ := F.ex
  exact pe_lamcallD (Ng := ["_law_ask", "_law_e"]) (a := "_law_ask") hg m F.kp lk hcd b ⟨rfl, rfl, rfl, by decide +kernel, rfl, by decide +kernel, by decide +kernel⟩ rfl (.inl (by decide +kernel))
    (try_gives (hr.mono (by omega)) cf mS mM) TB hcode (List.mem_singleton.mpr rfl) (fun p hp _ => by rw [List.mem_singleton.mp hp]) (hr.mono (by omega)) L hdef hkw hbind hbody
/-! ### InvalidAddress -/
theorem sc_InvalidAddress_init : FnScope ["self"] ["self"] (defScope s_InvalidAddress_init) := ⟨rfl, rfl, rfl, by decide +kernel, rfl, by decide +kernel, by decide +kernel⟩
theorem ok_InvalidAddress {C f : Addr} {fd : FuncData} (F : Fun K "__init__" "InvalidAddress.__init__" s_InvalidAddress_init f fd) {B : Addr} (c : BasOk P w K mg base "ScatterError" B) (e : Er K C "InvalidAddress" "code") :
    FnOk P w K mg base CX0 2 f fd ["self"] (spErr0 K C "InvalidAddress") := by
  refine F.ok sc_InvalidAddress_init (fun vs H Q E h => ?_) (fun cdv A outer s H vs Q E hr h => ?_)
  · obtain ⟨a, rfl, _⟩ := h
    rfl
  obtain ⟨a, rfl, ha, q⟩ := h
  refine ⟨_, pss_one (ps_expr (pe_base c hr (by rfl) (pa_cons (pv 0) (pa_cons pe_str pa_nil)))), ?_⟩
  refine ⟨_, rfl, ?_⟩
  exact ⟨a, C, "InvalidAddress", _, rfl, ha, e.cls, e.oex, e.code, e.msg, fun dx H' h1 h2 h3 h4 h5 => q dx H' _ h1 h2 h3 h4 h5⟩
/-! ### _inner -/
def spInner (K : PySem.W.Frag) (C : Addr) : Sp := fun vs H Q E => ∃ v t i, vs = [v, .int i] ∧ WV K H v t ∧ t.Ok abc ∧ (∀ u x H', t.stp i = some u → WV K H' x u → Same H H' → Q x H') ∧ (t.stp i = none → Rz0 H E C "InvalidAddress")
theorem sc__inner : FnScope ["word", "number", "kind"] ["word", "number"] (defScope s__inner) := ⟨rfl, rfl, rfl, by decide +kernel, rfl, by decide +kernel, by decide +kernel⟩
theorem ok_inner {C : Addr} {tm : Tok} (D : Df K mg "_inner" s__inner ["word", "number"]) (bi : Bi mg) (mMAX : mg "MAX_COPIES" = some (.int 1000000000000000000000000000000 tm)) (eInvalidAddress : ErrOk0 P w K mg base "InvalidAddress" C "InvalidAddress") :
    CalX P w K mg base 5 "_inner" ["word", "number"] (spInner K C) := by
  refine D.okX sc__inner (fun vs H Q E h => ?_) (fun f cdv A outer s H vs Q E hr h => ?_)
  · obtain ⟨v, t, i, rfl, _⟩ := h
    rfl
  obtain ⟨v, t, i, rfl, hv, ho, q, z⟩ := h
  refine ⟨_, (pss_cons (ps_set (i := 2) sc__inner.nd rfl (.inl rfl) (pe_ix ix_tup (pv 0) pe_int (fun _ _ => rfl)))
      (pss_cons (ps_if (PW.pt (pw_and (pt_cmpR op_eq (pv 2) pe_str (nomark _)) (pw_and1 (pt_chain op_le op_lt pe_int (pv 1) (pe_callB call_len_seq (by rfl) bi.len PySem.boot_len (pa_cons (pe_ix ix_tup (pv 0) pe_int (fun _ _ => rfl)) pa_nil)))))) (pss_one (ps_ret (pe_ix ix_tup (pe_ix ix_tup (pv 0) pe_int (fun _ _ => rfl)) (pv 1) (fun _ _ => rfl)))) pss_nil)
      (pss_cons (ps_if (PW.pt (pw_and (pt_cmpR op_eq (pv 2) pe_str (nomark _)) (pw_and1 (pt_chain op_le op_lt pe_int (pv 1) (pe_ix ix_tup (pv 0) pe_int (fun _ _ => rfl)))))) (pss_one (ps_ret (pe_ix ix_tup (pv 0) pe_int (fun _ _ => rfl)))) pss_nil)
      (pss_cons (ps_if (PW.pt (pw_and (pt_cmpR op_in_seq (pv 2) (pe_tup (pa_cons pe_str (pa_cons pe_str pa_nil))) (by rfl)) (pw_and1 (pt_chain op_le op_le pe_int (pv 1) (pe_glob (v := .int 1000000000000000000000000000000) (by rfl) mMAX ⟨_, rfl⟩))))) (pss_one (ps_ret (pe_ix ix_tup (pv 0) pe_int (fun _ _ => rfl)))) pss_nil)
      (pss_one (ps_raise rfl (takes_of rfl rfl rfl rfl) (pmk_err0 eInvalidAddress (hr.mono (by omega)) (by rfl)))))))), ?_⟩
  have at_ := hv.at
  cases at_ with
  | emp e s =>
    cases e
    refine ⟨_, rfl, _, _, _, _, rfl, rfl, s, rfl, ?_⟩
    refine ⟨_, rfl, rfl, eq_no (by decide +kernel) ?_⟩
    refine ⟨_, rfl, rfl, eq_no (by decide +kernel) ?_⟩
    refine ⟨_, rfl, (by show 2 ≤ sizeLine; decide), fun p hp => ?_⟩
    refine ⟨p, _, rfl, .inr (SqT.of upd_same), rfl, rfl, in_no ["right", "left"] (by decide +kernel) ?_⟩
    exact (z rfl).same (same_new hp)
  | nam e s =>
    unfold W.Ok at ho
    exact ho.elim
  | ltr e s =>
    cases e
    refine ⟨_, rfl, _, _, _, _, rfl, rfl, s, rfl, ?_⟩
    refine ⟨_, rfl, rfl, eq_no (by decide +kernel) ?_⟩
    refine ⟨_, rfl, rfl, eq_no (by decide +kernel) ?_⟩
    refine ⟨_, rfl, (by show 2 ≤ sizeLine; decide), fun p hp => ?_⟩
    refine ⟨p, _, rfl, .inr (SqT.of upd_same), rfl, rfl, in_no ["right", "left"] (by decide +kernel) ?_⟩
    exact (z rfl).same (same_new hp)
  | @join a b xs ws e s s2 hw =>
    cases e
    have hl := hw.length
    refine ⟨_, rfl, _, _, _, _, rfl, rfl, s, rfl, ?_⟩
    refine ⟨_, rfl, rfl, eq_yes rfl ?_⟩
    refine ⟨_, rfl, _, _, rfl, rfl, _, rfl, ite2 (fun h0 => ?_) (fun h0 => ?_)⟩
    · have h0' : 0 ≤ i := of_decide_eq_true h0
      refine ⟨_, rfl, _, _, _, _, rfl, rfl, s, rfl, b, xs, rfl, .inr s2, _, _, rfl, rfl, _, rfl, ite2 (fun h1 => ?_) (fun h1 => ?_)⟩
      · have h1' : i < ((xs.length : Nat) : Int) := of_decide_eq_true h1
        have hi : i.toNat < xs.length := by omega
        obtain ⟨u, eu, hu⟩ := hw.get (List.getElem?_eq_getElem hi)
        refine ⟨_, rfl, _, _, _, _, rfl, rfl, s, rfl, _, rfl, _, _, _, _, rfl, rfl, s2, at_of (j := i.toNat) (by omega) (List.getElem?_eq_getElem hi), ?_⟩
        exact q u _ H (by rw [stpJ, if_pos ⟨h0', by omega⟩]; exact eu) hu (Same.refl H)
      · have h1' : ¬ i < ((xs.length : Nat) : Int) := of_decide_eq_false (Bool.eq_false_iff.mpr h1)
        have hz := z (by rw [stpJ, if_neg (by omega)])
        refine ⟨_, rfl, rfl, eq_no (by decide +kernel) ?_⟩
        refine ⟨_, rfl, (by show 2 ≤ sizeLine; decide), fun p hp => ?_⟩
        refine ⟨p, _, rfl, .inr (SqT.of upd_same), rfl, rfl, in_no ["right", "left"] (by decide +kernel) ?_⟩
        exact hz.same (same_new hp)
    · have h0' : ¬ 0 ≤ i := of_decide_eq_false (Bool.eq_false_iff.mpr h0)
      have hz := z (by rw [stpJ, if_neg (by omega)])
      refine ⟨_, rfl, ?_⟩
      refine ⟨_, rfl, rfl, eq_no (by decide +kernel) ?_⟩
      refine ⟨_, rfl, (by show 2 ≤ sizeLine; decide), fun p hp => ?_⟩
      refine ⟨p, _, rfl, .inr (SqT.of upd_same), rfl, rfl, in_no ["right", "left"] (by decide +kernel) ?_⟩
      exact hz.same (same_new hp)
  | @times a x t n e s hx =>
    cases e
    refine ⟨_, rfl, _, _, _, _, rfl, rfl, s, rfl, ?_⟩
    refine ⟨_, rfl, rfl, eq_no (by decide +kernel) ?_⟩
    refine ⟨_, rfl, rfl, eq_yes rfl ?_⟩
    refine ⟨_, rfl, _, _, rfl, rfl, _, rfl, ite2 (fun h0 => ?_) (fun h0 => ?_)⟩
    · have h0' : 0 ≤ i := of_decide_eq_true h0
      refine ⟨_, rfl, _, _, _, _, rfl, rfl, s, rfl, _, _, rfl, rfl, _, rfl, ite2 (fun h1 => ?_) (fun h1 => ?_)⟩
      · have h1' : i < n := of_decide_eq_true h1
        refine ⟨_, rfl, _, _, _, _, rfl, rfl, s, rfl, ?_⟩
        exact q t _ H (stp_times h0' h1') hx (Same.refl H)
      · have h1' : ¬ i < n := of_decide_eq_false (Bool.eq_false_iff.mpr h1)
        have hz := z (by rw [stpT, if_neg (by omega)])
        refine ⟨_, rfl, (by show 2 ≤ sizeLine; decide), fun p hp => ?_⟩
        refine ⟨p, _, rfl, .inr (SqT.of upd_same), rfl, rfl, in_no ["right", "left"] (by decide +kernel) ?_⟩
        exact hz.same (same_new hp)
    · have h0' : ¬ 0 ≤ i := of_decide_eq_false (Bool.eq_false_iff.mpr h0)
      have hz := z (by rw [stpT, if_neg (by omega)])
      refine ⟨_, rfl, ?_⟩
      refine ⟨_, rfl, (by show 2 ≤ sizeLine; decide), fun p hp => ?_⟩
      refine ⟨p, _, rfl, .inr (SqT.of upd_same), rfl, rfl, in_no ["right", "left"] (by decide +kernel) ?_⟩
      exact hz.same (same_new hp)
  | @right a x t e s hx =>
    cases e
    refine ⟨_, rfl, _, _, _, _, rfl, rfl, s, rfl, ?_⟩
    refine ⟨_, rfl, rfl, eq_no (by decide +kernel) ?_⟩
    refine ⟨_, rfl, rfl, eq_no (by decide +kernel) ?_⟩
    refine ⟨_, rfl, (by show 2 ≤ sizeLine; decide), fun p hp => ?_⟩
    refine ⟨p, _, rfl, .inr (SqT.of upd_same), rfl, rfl, in_yes ["right", "left"] (by decide +kernel) ?_⟩
    have k1 : Same H (upd H p (.tup [.str "right", .str "left"])) := same_new hp
    refine ⟨_, rfl, _, _, rfl, rfl, _, rfl, ite2 (fun h0 => ?_) (fun h0 => ?_)⟩
    · have h0' : 0 ≤ i := of_decide_eq_true h0
      refine ⟨_, _, rfl, rfl, _, rfl, ite2 (fun h1 => ?_) (fun h1 => ?_)⟩
      · have h1' : i ≤ 1000000000000000000000000000000 := of_decide_eq_true h1
        refine ⟨_, rfl, _, _, _, _, rfl, rfl, (tp_same k1).sq s, rfl, ?_⟩
        exact q t _ _ (stp_right h0' h1') (WV.tp (tp_same k1) _ hx) k1
      · have h1' : ¬ i ≤ 1000000000000000000000000000000 := of_decide_eq_false (Bool.eq_false_iff.mpr h1)
        exact (z (by rw [stpR]; exact if_neg (fun h => h1' h.2))).same k1
    · have h0' : ¬ 0 ≤ i := of_decide_eq_false (Bool.eq_false_iff.mpr h0)
      refine ⟨_, rfl, ?_⟩
      exact (z (by rw [stpR]; exact if_neg (fun h => h0' h.1))).same k1
  | @left a x t e s hx =>
    cases e
    refine ⟨_, rfl, _, _, _, _, rfl, rfl, s, rfl, ?_⟩
    refine ⟨_, rfl, rfl, eq_no (by decide +kernel) ?_⟩
    refine ⟨_, rfl, rfl, eq_no (by decide +kernel) ?_⟩
    refine ⟨_, rfl, (by show 2 ≤ sizeLine; decide), fun p hp => ?_⟩
    refine ⟨p, _, rfl, .inr (SqT.of upd_same), rfl, rfl, in_yes ["right", "left"] (by decide +kernel) ?_⟩
    have k1 : Same H (upd H p (.tup [.str "right", .str "left"])) := same_new hp
    refine ⟨_, rfl, _, _, rfl, rfl, _, rfl, ite2 (fun h0 => ?_) (fun h0 => ?_)⟩
    · have h0' : 0 ≤ i := of_decide_eq_true h0
      refine ⟨_, _, rfl, rfl, _, rfl, ite2 (fun h1 => ?_) (fun h1 => ?_)⟩
      · have h1' : i ≤ 1000000000000000000000000000000 := of_decide_eq_true h1
        refine ⟨_, rfl, _, _, _, _, rfl, rfl, (tp_same k1).sq s, rfl, ?_⟩
        exact q t _ _ (stp_left h0' h1') (WV.tp (tp_same k1) _ hx) k1
      · have h1' : ¬ i ≤ 1000000000000000000000000000000 := of_decide_eq_false (Bool.eq_false_iff.mpr h1)
        exact (z (by rw [stpL]; exact if_neg (fun h => h1' h.2))).same k1
    · have h0' : ¬ 0 ≤ i := of_decide_eq_false (Bool.eq_false_iff.mpr h0)
      refine ⟨_, rfl, ?_⟩
      exact (z (by rw [stpL]; exact if_neg (fun h => h0' h.1))).same k1
/-! ### _law_spot -/
/-- a drawn address, or none where there is no place -/
def spSpot (K : PySem.W.Frag) (n : Nat) : Sp := fun vs H Q _ => ∃ r l v t, vs = [.ref r, v] ∧ WV K H v t ∧ t.Ok abc ∧ t.dep ≤ n ∧ n ≤ 12 ∧ Rng H r l ∧
  (t.cnt abcABC = some 0 → t.isL = false → ∀ H', Rng H' r l → Kp r H H' → Q .non H') ∧ (∀ ns p H', Vd t ns → ns.length ≤ t.dep → SqT K H' p (ns.map V.int) → Rng H' r l → Kp r H H' → Q (.ref p) H')
theorem sc__law_spot : FnScope ["_law_rng", "_law_tree_here", "_law_full", "_law_at", "_law_most", "_law_number"] ["_law_rng", "_law_tree_here"] (defScope s__law_spot) := ⟨rfl, rfl, rfl, by decide +kernel, rfl, by decide +kernel, by decide +kernel⟩
theorem ok_spot1 {n : Nat} (D : Df K mg "_law_spot" s__law_spot ["_law_rng", "_law_tree_here"]) (bi : Bi mg) (c_law_draw : Cal P w K mg base 1 "_law_draw" ["_law_rng", "_law_many"] spDrawW) (c_law_pick : Cal P w K mg base 2 "_law_pick" ["_law_rng", "_law_things"] spPick)
    (c_law_places : Cal P w K mg base 14 "_law_places" ["_law_tree_here"] (spPlaces K)) (c_law_spot : Cal P w K mg base (n + 14) "_law_spot" ["_law_rng", "_law_tree_here"] (spSpot K n)) : Cal P w K mg base (n + 15) "_law_spot" ["_law_rng", "_law_tree_here"] (spSpot K (n + 1)) := by
  refine D.ok sc__law_spot (fun vs H Q E h => ?_) (fun f cdv A outer s H vs Q E hr h => ?_)
  · obtain ⟨r, l, v, t, rfl, _⟩ := h
    rfl
  obtain ⟨r, l, v, t, rfl, hv, ho, hd, hn, g, q0, q⟩ := h
  refine ⟨_, (C8.pss_cut (ps_if (pt_cmpR op_eq (pe_ix ix_tup (pv 1) pe_int (fun _ _ => rfl)) pe_str (nomark _)) (pss_one (ps_ret (pe_tup pa_nil))) pss_nil)
      (C8.pss_cut (ps_if (pt_cmpR op_eq (pe_own c_law_places hr (by omega) (by rfl) (pa_cons (pv 1) pa_nil)) pe_int (nomark _)) (pss_one (ps_ret pe_non)) pss_nil)
      (C8.pss_cut (ps_if (pt_cmpR op_eq (pe_ix ix_tup (pv 1) pe_int (fun _ _ => rfl)) pe_str (nomark _)) (pss_cons (ps_setLc (i := 2) (own := [("_law_at", 3)]) (g := gName 3) (tt := tTest (tOp rNe (tCall (spPlaces K) [] E0 (tCons (tOp (rIxT K) (tOp (rIxT K) (tVar 1) (tC (.int 1))) (tVar 3)) tNil)) (tC (.int 0)))) rfl sc__law_spot.nd rfl rfl (sw_true rfl rfl rfl (by decide +kernel)) (pi_range1 (by rfl) bi.range (pa_cons (pe_callB call_len_seq (by rfl) bi.len PySem.boot_len (pa_cons (pe_ix ix_tup (pv 1) pe_int (fun _ _ => rfl)) pa_nil)) pa_nil)) (blkOk_by (N := ["_law_rng", "_law_tree_here", "_law_full", "_law_at", "_law_most", "_law_number"]) (sc := defScope s__law_spot) (by decide +kernel)) (fun _ _ _ _ _ => (pg_name (i := 3) sc__law_spot.nd rfl (.inl rfl))) (fun _ _ _ _ _ => (pts_one (pt_cmpR op_ne (pe_own c_law_places hr (by omega) (by rfl) (pa_cons (pe_ix ix_tup (pe_ix ix_tup (pv 1) pe_int (fun _ _ => rfl)) (pv 3) (fun _ _ => rfl)) pa_nil)) pe_int (nomark _)))) (fun _ _ _ _ _ => (pv 3)))
      (pss_cons (ps_set (i := 3) sc__law_spot.nd rfl (.inl rfl) (pe_own c_law_pick hr (by omega) (by rfl) (pa_cons (pv 0) (pa_cons (pv 2) pa_nil))))
      (pss_one (ps_ret (pe_op op_catT (pe_tup (pa_cons (pv 3) pa_nil)) (pe_own c_law_spot hr (by omega) (by rfl) (pa_cons (pv 0) (pa_cons (pe_ix ix_tup (pe_ix ix_tup (pv 1) pe_int (fun _ _ => rfl)) (pv 3) (fun _ _ => rfl)) pa_nil)))))))) pss_nil)
      (C8.pss_cut (ps_set (i := 4) sc__law_spot.nd rfl (.inl rfl) (pe_ifExp (pt_cmpR op_eq (pe_ix ix_tup (pv 1) pe_int (fun _ _ => rfl)) pe_str (nomark _)) (pe_ix ix_tup (pv 1) pe_int (fun _ _ => rfl)) (pe_op op_add (pe_op op_pow pe_int pe_int) pe_int)))
      (pss_cons (ps_set (i := 5) sc__law_spot.nd rfl (.inl rfl) (pe_own c_law_pick hr (by omega) (by rfl) (pa_cons (pv 0) (pa_cons (pe_lst (pa_cons pe_int (pa_cons (pe_op op_sub (pv 4) pe_int) (pa_cons (pe_own c_law_draw hr (by omega) (by rfl) (pa_cons (pv 0) (pa_cons (pe_callB (call_min2 rfl) (by rfl) bi.min (by decide +kernel) (pa_cons (pv 4) (pa_cons pe_int pa_nil))) pa_nil))) (pa_cons (pe_own c_law_draw hr (by omega) (by rfl) (pa_cons (pv 0) (pa_cons (pv 4) pa_nil))) pa_nil))))) pa_nil))))
      (pss_one (ps_ret (pe_op op_catT (pe_tup (pa_cons (pv 5) pa_nil)) (pe_own c_law_spot hr (by omega) (by rfl) (pa_cons (pv 0) (pa_cons (pe_ix ix_tup (pv 1) pe_int (fun _ _ => rfl)) pa_nil))))))))))), ?_⟩
  have oA := W.Ok.mono abc_sub _ ho
  -- a letter
  refine ⟨fun σ' H' => σ' = [some (.ref r), some v, none, none, none, none] ∧ H' = H ∧ t.isL = false, ?_, ?_⟩
  · have at_ := hv.at
    cases at_ with
    | nam e s =>
      unfold W.Ok at ho
      exact ho.elim
    | @ltr a c e s =>
      cases e
      refine ⟨_, rfl, _, _, _, _, rfl, rfl, s, rfl, rfl, eq_yes rfl ?_⟩
      refine ⟨Nat.zero_le _, fun p hp => ?_⟩
      exact q [] p _ vd_nil (Nat.zero_le _) (SqT.of upd_same) (g.new hp) (Kp.new hp)
    | emp e s =>
      cases e
      exact ⟨_, rfl, _, _, _, _, rfl, rfl, s, rfl, rfl, eq_no (by decide +kernel) ⟨rfl, rfl, rfl⟩⟩
    | join e s s2 hw =>
      cases e
      exact ⟨_, rfl, _, _, _, _, rfl, rfl, s, rfl, rfl, eq_no (by decide +kernel) ⟨rfl, rfl, rfl⟩⟩
    | times e s hx =>
      cases e
      exact ⟨_, rfl, _, _, _, _, rfl, rfl, s, rfl, rfl, eq_no (by decide +kernel) ⟨rfl, rfl, rfl⟩⟩
    | right e s hx =>
      cases e
      exact ⟨_, rfl, _, _, _, _, rfl, rfl, s, rfl, rfl, eq_no (by decide +kernel) ⟨rfl, rfl, rfl⟩⟩
    | left e s hx =>
      cases e
      exact ⟨_, rfl, _, _, _, _, rfl, rfl, s, rfl, rfl, eq_no (by decide +kernel) ⟨rfl, rfl, rfl⟩⟩
  rintro σ' H' ⟨rfl, rfl, hL⟩
  -- no place
  refine ⟨fun σ' H1 => σ' = [some (.ref r), some v, none, none, none, none] ∧ Same H' H1 ∧ t.cnt abcABC ≠ some 0, ?_, ?_⟩
  · refine ⟨_, rfl, _, _, rfl, hv, oA, by omega, fun H1 k1 => ?_⟩
    refine ⟨rfl, eq0 (fun hz => ?_) (fun hz => ⟨rfl, k1, hz⟩)⟩
    exact q0 hz hL H1 (g.of (fun o h => k1 _ _ h) (fun o h => k1 _ _ h)) (fun b o _ h => k1 _ _ h)
  rintro σ' H1 ⟨rfl, k1, hz⟩
  have g1 : Rng H1 r l := g.of (fun o h => k1 _ _ h) (fun o h => k1 _ _ h)
  have K1 : Kp r H' H1 := fun b o _ h => k1 _ _ h
  have hv1 := WV.tp (tp_same k1) _ hv
  obtain ⟨zz, hzz⟩ := g1.lst
  -- a join
  refine ⟨fun σ' H2 => ∃ y2 y3, σ' = [some (.ref r), some v, y2, y3, none, none] ∧ H2 = H1 ∧ ∀ ws, t ≠ .join ws, ?_, ?_⟩
  · have at_ := hv1.at
    cases at_ with
    | nam e s =>
      unfold W.Ok at ho
      exact ho.elim
    | ltr e s => cases hL
    | emp e s => exact absurd cnt_emp hz
    | times e s hx =>
      cases e
      exact ⟨_, rfl, _, _, _, _, rfl, rfl, s, rfl, rfl, eq_no (by decide +kernel) ⟨_, _, rfl, rfl, fun ws h => by cases h⟩⟩
    | right e s hx =>
      cases e
      exact ⟨_, rfl, _, _, _, _, rfl, rfl, s, rfl, rfl, eq_no (by decide +kernel) ⟨_, _, rfl, rfl, fun ws h => by cases h⟩⟩
    | left e s hx =>
      cases e
      exact ⟨_, rfl, _, _, _, _, rfl, rfl, s, rfl, rfl, eq_no (by decide +kernel) ⟨_, _, rfl, rfl, fun ws h => by cases h⟩⟩
    | @join a b xs ws e s s2 hw =>
      cases e
      have hl := hw.length
      have ho' := ho
      unfold W.Ok at ho'
      refine ⟨_, rfl, _, _, _, _, rfl, rfl, s, rfl, rfl, eq_yes rfl ?_⟩
      refine ⟨_, rfl, _, _, _, _, rfl, rfl, s, rfl, b, xs, rfl, .inr s2, _, rfl, ?_, ?_, fun Dd hD => ?_⟩
      · omega
      · omega
      refine lcrT (lo := 0) (n := xs.length) (fun i H2 => ∃ acc : List Nat, H2 Dd = some (.lst (acc.map fun k : Nat => V.int (k : Int))) ∧ acc.length ≤ i ∧ (∀ k ∈ acc, ∃ x, ws[k]? = some x ∧ x.cnt abcABC ≠ some 0) ∧ (∀ k x, k < i → ws[k]? = some x → x.cnt abcABC ≠ some 0 → k ∈ acc) ∧ Same H1 H2) ?_ ?_ ?_
      · exact ⟨[], upd_same, Nat.le_refl _, fun k h => (List.not_mem_nil h).elim, fun k x h => by omega, same_new hD⟩
      · rintro i H2 hi ⟨acc, hA, hal, h1, h2, k2⟩
        have hgx : xs[i]? = some xs[i] := List.getElem?_eq_getElem hi
        obtain ⟨x, ex, hx⟩ := hw.get hgx
        have mx := List.mem_of_getElem? ex
        have dx := W.deps_mem mx
        rw [W.dep] at hd
        have t2 := tp_same k2
        refine ⟨_, rfl, _, _, _, _, rfl, rfl, t2.sq s, rfl, _, rfl, _, _, _, _, rfl, rfl, t2.sq s2, at_of (j := i) (by omega) hgx, _, x, rfl, WV.tp t2 _ hx, W.Ok.mono abc_sub _ (W.oks_mem mx ho'.2), by omega, fun H4 k4 => ⟨rfl, ?_⟩⟩
        have hA4 := k4 _ _ hA
        refine ne0 (fun hc => ?_) (fun hc => ?_)
        · refine ⟨_, rfl, _, hA4, ?_, acc ++ [i], ?_, ?_, ?_, ?_, ?_⟩
          · rw [List.length_map]
            exact Nat.lt_of_le_of_lt (show acc.length ≤ 1000 by omega) (by decide)
          · rw [upd_same, List.map_append]
            show some (HO.lst (_ ++ [V.int ((0 : Int) + (i : Int))])) = _
            rw [Int.zero_add]
            rfl
          · rw [List.length_append]
            show acc.length + 1 ≤ i + 1
            omega
          · intro k hk
            rcases List.mem_append.mp hk with hk | hk
            · exact h1 k hk
            · cases List.mem_singleton.mp hk
              exact ⟨x, ex, hc⟩
          · intro k y hk ey hy
            by_cases e : k = i
            · rw [e]
              exact List.mem_append_right _ (List.mem_singleton.mpr rfl)
            · exact List.mem_append_left _ (h2 k y (by omega) ey hy)
          · intro b' o hb
            rw [upd_ne (ne_of_none hb hD)]
            exact k4 _ _ (k2 _ _ hb)
        · refine ⟨acc, hA4, by omega, h1, fun k y hk ey hy => ?_, k2.trans k4⟩
          by_cases e : k = i
          · rw [e, ex] at ey
            cases ey
            exact absurd hc hy
          · exact h2 k y (by omega) ey hy
      · rintro H2 ⟨acc, hA, hal, h1, h2, k2⟩
        have hne : acc ≠ [] := fun e => by
          refine hz ?_
          rw [cnt_join]
          refine W.cnts_zero_of fun x hx => Classical.byContradiction fun hc => ?_
          obtain ⟨k, hk⟩ := List.mem_iff_getElem?.mp hx
          have hk2 := (List.getElem?_eq_some_iff.mp hk).1
          have := h2 k x (by omega) hk hc
          rw [e] at this
          exact (List.not_mem_nil this).elim
        have g2 : Rng H2 r l := g1.of (fun o h => k2 _ _ h) (fun o h => k2 _ _ h)
        have hpos : 0 < acc.length := List.length_pos_iff.mpr hne
        have Dr : Dd ≠ r := (ne_of_none hzz hD).symm
        refine ⟨_, rfl, _, rfl, r, l, Dd, _, rfl, g2, hA, Dr, by rw [List.length_map]; exact hpos, by rw [List.length_map]; omega, fun j y H3 ej g3 k3 => ?_⟩
        rw [List.getElem?_map] at ej
        obtain ⟨k, ek, rfl⟩ := Option.map_eq_some_iff.mp ej
        obtain ⟨x, ex, hc⟩ := h1 k (List.mem_of_getElem? ek)
        have mx := List.mem_of_getElem? ex
        have dx := W.deps_mem mx
        have hk2 := (List.getElem?_eq_some_iff.mp ex).1
        have hgx : xs[k]? = some xs[k] := List.getElem?_eq_getElem (by omega)
        obtain ⟨x', ex', hx⟩ := hw.get hgx
        rw [ex] at ex'
        cases ex'
        obtain ⟨z2, hz2⟩ := g2.lst
        have t3 : Tp H1 H3 := (tp_same k2).trans (k3.tp hz2)
        refine ⟨_, rfl, (by show 1 ≤ sizeLine; decide), fun p hp => ?_⟩
        have t4 : Tp H1 (upd H3 p (.tup [.int (k : Int)])) := t3.trans (tp_new hp)
        refine ⟨_, rfl, _, rfl, _, _, _, _, rfl, rfl, t4.sq s, rfl, _, rfl, _, _, _, _, rfl, rfl, t4.sq s2, at_of (j := k) (by omega) hgx, ?_⟩
        rw [W.dep] at hd
        refine ⟨r, l, _, x, rfl, WV.tp t4 _ hx, W.oks_mem mx ho'.2, by omega, by omega, g3.new hp, fun h => absurd h hc, fun ns p5 H5 hvd hln hs5 g5 k5 => ?_⟩
        obtain ⟨z3, hz3⟩ := (g3.new (o := .tup [.int (k : Int)]) hp).lst
        refine cat_one ((k5.tp hz3).sq (SqT.of upd_same)) hs5 (by omega) (fun p6 H6 hs6 k6 => ?_)
        refine q _ p6 H6 (vd_cons (stp_join ex) hvd) (by rw [W.dep, List.length_cons]; omega) hs6 (g5.of (fun o h => k6 _ _ h) (fun o h => k6 _ _ h)) ?_
        exact K1.trans (Kp.trans (fun b o _ h => k2 _ _ h) (k3.trans ((Kp.new hp).trans (k5.trans (fun b o _ h => k6 _ _ h)))))
  rintro σ' H2 ⟨y2, y3, rfl, rfl, hj⟩
  -- the number of copies
  refine ⟨fun σ' H3 => ∃ m, σ' = [some (.ref r), some v, y2, y3, some (.int m), none] ∧ H3 = H2 ∧ m = t.tot ∧ 0 < m ∧ m ≤ 1000000000000000000000000000001, ?_, ?_⟩
  · have at_ := hv1.at
    cases at_ with
    | nam e s =>
      unfold W.Ok at ho
      exact ho.elim
    | ltr e s => cases hL
    | emp e s => exact absurd cnt_emp hz
    | join e s s2 hw => exact absurd rfl (hj _)
    | @times a x t n' e s hx =>
      cases e
      unfold W.Ok at ho
      refine ⟨_, rfl, _, _, _, _, rfl, rfl, s, rfl, rfl, eq_yes rfl ?_⟩
      refine ⟨_, rfl, _, _, _, _, rfl, rfl, s, rfl, n', rfl, rfl, rfl, ?_, by omega⟩
      refine Int.lt_of_not_ge fun h => ?_
      rw [cnt_times, if_neg (by omega)] at hz
      exact hz rfl
    | right e s hx =>
      cases e
      refine ⟨_, rfl, _, _, _, _, rfl, rfl, s, rfl, rfl, eq_no (by decide +kernel) ?_⟩
      exact ⟨_, _, rfl, rfl, ⟨by decide, by decide, by decide⟩, _, _, rfl, rfl, _, rfl, rfl, rfl, by decide, by decide⟩
    | left e s hx =>
      cases e
      refine ⟨_, rfl, _, _, _, _, rfl, rfl, s, rfl, rfl, eq_no (by decide +kernel) ?_⟩
      exact ⟨_, _, rfl, rfl, ⟨by decide, by decide, by decide⟩, _, _, rfl, rfl, _, rfl, rfl, rfl, by decide, by decide⟩
  rintro σ' H3 ⟨m, rfl, rfl, hm, hm0, hmB⟩
  -- its inside
  obtain ⟨x, u, k, zs, a, ev, s, hx, ou, du, cu, hstp⟩ : ∃ x u k zs a, v = .ref a ∧ SqT K H3 a (.str k :: x :: zs) ∧ WV K H3 x u ∧ u.Ok abc ∧ u.dep + 1 ≤ t.dep ∧ u.cnt abcABC ≠ some 0 ∧ ∀ i : Int, 0 ≤ i → i < m → t.stp i = some u := by
    have at_ := hv1.at
    cases at_ with
    | nam e s =>
      unfold W.Ok at ho
      exact ho.elim
    | ltr e s => cases hL
    | emp e s => exact absurd cnt_emp hz
    | join e s s2 hw => exact absurd rfl (hj _)
    | @times a x u n' e s hx =>
      unfold W.Ok at ho
      refine ⟨x, u, _, [.int n'], a, e, s, hx, ho.2.2, Nat.le_refl _, fun h => ?_, fun i h1 h2 => stp_times h1 (by rw [hm] at h2; exact h2)⟩
      rw [cnt_times, h] at hz
      split at hz
      · exact hz (by show some ((0 : Int) * n') = some 0; rw [Int.zero_mul])
      · exact hz rfl
    | @right a x u e s hx =>
      unfold W.Ok at ho
      refine ⟨x, u, _, [], a, e, s, hx, ho, Nat.le_refl _, fun h => ?_, fun i h1 h2 => stp_right h1 (by rw [hm] at h2; have h3 : i < 1000000000000000000000000000000 + 1 := h2; show i ≤ 1000000000000000000000000000000; omega)⟩
      rw [cnt_right, if_pos h] at hz
      exact hz rfl
    | @left a x u e s hx =>
      unfold W.Ok at ho
      refine ⟨x, u, _, [], a, e, s, hx, ho, Nat.le_refl _, fun h => ?_, fun i h1 h2 => stp_left h1 (by rw [hm] at h2; have h3 : i < 1000000000000000000000000000000 + 1 := h2; show i ≤ 1000000000000000000000000000000; omega)⟩
      rw [cnt_left, if_pos h] at hz
      exact hz rfl
  subst ev
  refine ⟨_, rfl, _, rfl, _, _, rfl, rfl, _, rfl, _, rfl, m, 6, rfl, ?_⟩
  have hmin : 0 < (if (6 : Int) < m then 6 else m) ∧ (if (6 : Int) < m then 6 else m) ≤ m := by
    split
    · constructor <;> omega
    · constructor <;> omega
  refine ⟨r, l, _, rfl, hmin.1, log_big (by omega) (by omega), g1, fun v1 H4 a1 b1 g4 k4 => ?_⟩
  refine ⟨_, rfl, _, rfl, r, l, _, rfl, hm0, log_big (by omega) (by omega), g4, fun v2 H5 a2 b2 g5 k5 => ?_⟩
  refine ⟨(by show 4 ≤ sizeLine; decide), fun p hp => ?_⟩
  obtain ⟨z5, hz5⟩ := g5.lst
  refine ⟨r, l, p, _, rfl, g5.new hp, upd_same, (ne_of_none hz5 hp).symm, (by show 0 < 4; decide), (by show 4 ≤ 1000; decide), fun j y H6 ej g6 k6 => ?_⟩
  obtain ⟨i, rfl, hi0, him⟩ : ∃ i, y = V.int i ∧ 0 ≤ i ∧ i < m := by
    match j, ej with
    | 0, e => cases e; exact ⟨_, rfl, by decide, hm0⟩
    | 1, e => cases e; exact ⟨_, rfl, by omega, by omega⟩
    | 2, e => cases e; exact ⟨_, rfl, a1, by omega⟩
    | 3, e => cases e; exact ⟨_, rfl, a2, b2⟩
  have kk : Kp r H3 H6 := k4.trans (k5.trans ((Kp.new hp).trans k6))
  have t6 : Tp H3 H6 := kk.tp hzz
  refine ⟨_, rfl, (by show 1 ≤ sizeLine; decide), fun p2 hp2 => ?_⟩
  have t7 : Tp H3 (upd H6 p2 (.tup [.int i])) := t6.trans (tp_new hp2)
  refine ⟨_, rfl, _, rfl, _, _, _, _, rfl, rfl, t7.sq s, at_of (j := 1) (by omega) rfl, ?_⟩
  refine ⟨r, l, _, u, rfl, WV.tp t7 _ hx, ou, by omega, by omega, g6.new hp2, fun h => absurd h cu, fun ns p5 H8 hvd hln hs5 g8 k8 => ?_⟩
  obtain ⟨z7, hz7⟩ := (g6.new (o := .tup [.int i]) hp2).lst
  refine cat_one ((k8.tp hz7).sq (SqT.of upd_same)) hs5 (by omega) (fun p9 H9 hs9 k9 => ?_)
  refine q _ p9 H9 (vd_cons (hstp i hi0 him) hvd) (by rw [List.length_cons]; omega) hs9 (g8.of (fun o h => k9 _ _ h) (fun o h => k9 _ _ h)) ?_
  exact K1.trans (kk.trans ((Kp.new hp2).trans (k8.trans (fun b o _ h => k9 _ _ h))))
theorem ok_spot (D : Df K mg "_law_spot" s__law_spot ["_law_rng", "_law_tree_here"]) (bi : Bi mg) (c_law_draw : Cal P w K mg base 1 "_law_draw" ["_law_rng", "_law_many"] spDrawW) (c_law_pick : Cal P w K mg base 2 "_law_pick" ["_law_rng", "_law_things"] spPick)
    (c_law_places : Cal P w K mg base 14 "_law_places" ["_law_tree_here"] (spPlaces K)) : ∀ n : Nat, Cal P w K mg base (n + 14) "_law_spot" ["_law_rng", "_law_tree_here"] (spSpot K n)
  | 0 => D.no fun vs H Q E h => by
    obtain ⟨r, l, v, t, _, _, _, h, _⟩ := h
    have := t.dep_pos
    omega
  | n + 1 => ok_spot1 D bi c_law_draw c_law_pick c_law_places (ok_spot D bi c_law_draw c_law_pick c_law_places n)
/-! ### _law_bad_spot -/
def spBad (K : PySem.W.Frag) : Sp := fun vs H Q _ => ∃ r l v t a ns, vs = [.ref r, v, .ref a] ∧ WV K H v t ∧ t.Ok abc ∧ SqT K H a (ns.map V.int) ∧ ns.length ≤ 100 ∧ Vd t ns ∧ Rng H r l ∧
  (∀ ms p H', Bad t ms → ms.length ≤ 102 → SqT K H' p (ms.map V.int) → Rng H' r l → Kp r H H' → Q (.ref p) H')
theorem sc__law_bad_spot : FnScope ["_law_rng", "_law_tree_here", "_law_spot_here", "_law_at", "_law_here", "_law_number", "_law_total"] ["_law_rng", "_law_tree_here", "_law_spot_here"] (defScope s__law_bad_spot) := ⟨rfl, rfl, rfl, by decide +kernel, rfl, by decide +kernel, by decide +kernel⟩
theorem ok_bad_spot (D : Df K mg "_law_bad_spot" s__law_bad_spot ["_law_rng", "_law_tree_here", "_law_spot_here"]) (bi : Bi mg) (c_law_draw : Cal P w K mg base 1 "_law_draw" ["_law_rng", "_law_many"] spDraw) (c_law_pick : Cal P w K mg base 2 "_law_pick" ["_law_rng", "_law_things"] spPick) :
    Cal P w K mg base 3 "_law_bad_spot" ["_law_rng", "_law_tree_here", "_law_spot_here"] (spBad K) := by
  refine D.ok sc__law_bad_spot (fun vs H Q E h => ?_) (fun f cdv A outer s H vs Q E hr h => ?_)
  · obtain ⟨r, l, v, t, a, ns, rfl, _⟩ := h
    rfl
  obtain ⟨r, l, v, t, a, ns, rfl, hv, ho, ha, hn, hvd, g, q⟩ := h
  refine ⟨_, (pss_cons (ps_set (i := 3) sc__law_bad_spot.nd rfl (.inl rfl) (pe_own c_law_draw hr (by omega) (by rfl) (pa_cons (pv 0) (pa_cons (pe_op op_add (pe_callB call_len_seq (by rfl) bi.len PySem.boot_len (pa_cons (pv 2) pa_nil)) pe_int) pa_nil))))
      (pss_cons (ps_set (i := 4) sc__law_bad_spot.nd rfl (.inl rfl) (pv 1))
      (pss_cons (ps_for PassesOwn.never rfl (pi_tup (pe_slice sl_tupA (pv 2) po_none (po_some (pv 3)))) (pg_name (i := 5) sc__law_bad_spot.nd rfl (.inl rfl)) (pss_one (ps_set (i := 4) sc__law_bad_spot.nd rfl (.inl rfl) (pe_ifExp (pt_cmpR op_eq (pe_ix ix_tup (pv 4) pe_int (fun _ _ => rfl)) pe_str (nomark _)) (pe_ix ix_tup (pe_ix ix_tup (pv 4) pe_int (fun _ _ => rfl)) (pv 5) (fun _ _ => rfl)) (pe_ix ix_tup (pv 4) pe_int (fun _ _ => rfl))))))
      (C8.pss_cut (ps_set (i := 6) sc__law_bad_spot.nd rfl (.inl rfl) (pe_ifExp (pt_cmpR op_eq (pe_ix ix_tup (pv 4) pe_int (fun _ _ => rfl)) pe_str (nomark _)) (pe_callB call_len_seq (by rfl) bi.len PySem.boot_len (pa_cons (pe_ix ix_tup (pv 4) pe_int (fun _ _ => rfl)) pa_nil)) (pe_ifExp (pt_cmpR op_eq (pe_ix ix_tup (pv 4) pe_int (fun _ _ => rfl)) pe_str (nomark _)) (pe_ix ix_tup (pv 4) pe_int (fun _ _ => rfl)) (pe_op op_add (pe_op op_pow pe_int pe_int) pe_int))))
      (pss_cons (ps_if (pt_cmpR op_eq (pe_ix ix_tup (pv 4) pe_int (fun _ _ => rfl)) pe_str (nomark _)) (pss_one (ps_ret (pe_op op_catA (pv 2) (pe_tup (pa_cons (pe_own c_law_draw hr (by omega) (by rfl) (pa_cons (pv 0) (pa_cons pe_int pa_nil))) pa_nil))))) pss_nil)
      (pss_one (ps_ret (pe_own c_law_pick hr (by omega) (by rfl) (pa_cons (pv 0) (pa_cons (pe_lst (pa_cons (pe_slice sl_tupA (pv 2) po_none (po_some (pv 3))) (pa_cons (pe_op op_catA (pe_op op_catA (pe_slice sl_tupA (pv 2) po_none (po_some (pv 3))) (pe_tup (pa_cons (pv 6) pa_nil))) (pe_slice sl_tupA (pv 2) (po_some (pe_op op_add (pv 3) pe_int)) po_none)) (pa_cons (pe_op op_catA (pe_op op_catA (pe_slice sl_tupA (pv 2) po_none (po_some (pv 3))) (pe_tup (pa_cons (pe_un un_neg pe_int) pa_nil))) (pe_slice sl_tupA (pv 2) (po_some (pe_op op_add (pv 3) pe_int)) po_none)) (pa_cons (pe_op op_catA (pv 2) (pe_tup (pa_cons pe_int pa_nil))) pa_nil))))) pa_nil)))))))))), ?_⟩
  obtain ⟨z0, hz0⟩ := g.lst
  refine ⟨_, rfl, _, rfl, a, _, rfl, .inr ha, _, _, rfl, rfl, r, l, _, rfl, ?_, ?_, g, fun v1 H1 a1 b1 g1 k1 => ?_⟩
  · rw [List.length_map]
    omega
  · rw [List.length_map]
    omega
  rw [List.length_map] at b1
  obtain ⟨k, rfl⟩ := Int.eq_ofNat_of_zero_le a1
  have t1 : Tp H H1 := k1.tp hz0
  refine ⟨_, rfl, _, rfl, _, rfl, _, rfl, sl_pre rfl (t1.sq ha) (fun b H2 hb k2 => ?_)⟩
  have t2 : Tp H H2 := t1.trans (tp_same k2)
  have g2 := g1.same k2
  refine ⟨b, rfl, ⟨_, hb⟩, for_tup (xs := (ns.take k).map V.int) (fun i σ' H' => ∃ x u y5, σ' = [some (.ref r), some v, some (.ref a), some (.int k), some x, y5, none] ∧ H' = H2 ∧ WV K H2 x u ∧ t.go ((ns.take k).take i) = some u) ?_ ?_ ?_ ?_⟩
  · exact ⟨v, t, none, rfl, rfl, WV.tp t2 _ hv, go_nil _⟩
  · rintro i σ' H' _ ⟨x, u, y5, rfl, rfl, hx, hu⟩
    exact hb
  · rintro i y σ' H' hy ⟨x, u, y5, rfl, rfl, hx, hu⟩
    rw [List.getElem?_map] at hy
    obtain ⟨j, e, rfl⟩ := Option.map_eq_some_iff.mp hy
    have et : (ns.take k).take (i + 1) = (ns.take k).take i ++ [j] := by rw [List.take_add_one, e]; rfl
    have hd : t.go ((ns.take k).take (i + 1)) = u.go [j] := by rw [et, go_app_some hu]
    obtain ⟨u2, es⟩ : ∃ u2, t.go ((ns.take k).take (i + 1)) = some u2 := by
      rw [List.take_take]
      exact vd_take hvd _
    have es2 : u.stp j = some u2 := by
      rw [hd] at es
      cases e2 : u.stp j with
      | none => rw [go_none e2] at es; cases es
      | some z => rw [go_cons e2, go_nil] at es; exact es
    exact walk_step (i := 4) (j := 5) hx es2 rfl rfl (fun y hy => ⟨y, u2, _, rfl, rfl, hy, es⟩)
  · rintro σ' H' ⟨x, u, y5, rfl, rfl, hx, hu⟩
    rw [List.length_map, List.take_length] at hu
    refine ⟨fun σ' H3 => σ' = [some (.ref r), some v, some (.ref a), some (.int k), some x, y5, some (.int u.tot)] ∧ H3 = H', ?_, ?_⟩
    · have at_ := hx.at
      cases at_ with
      | nam e s =>
        have := (go_ok _ ho hu).1
        unfold W.Ok at this
        exact this.elim
      | ltr e s =>
        cases e
        refine ⟨_, rfl, _, _, _, _, rfl, rfl, s, rfl, rfl, eq_no (by decide +kernel) ?_⟩
        refine ⟨_, rfl, _, _, _, _, rfl, rfl, s, rfl, rfl, eq_no (by decide +kernel) ?_⟩
        exact ⟨_, _, rfl, rfl, ⟨by decide, by decide, by decide⟩, _, _, rfl, rfl, rfl, rfl⟩
      | emp e s =>
        cases e
        refine ⟨_, rfl, _, _, _, _, rfl, rfl, s, rfl, rfl, eq_no (by decide +kernel) ?_⟩
        refine ⟨_, rfl, _, _, _, _, rfl, rfl, s, rfl, rfl, eq_no (by decide +kernel) ?_⟩
        exact ⟨_, _, rfl, rfl, ⟨by decide, by decide, by decide⟩, _, _, rfl, rfl, rfl, rfl⟩
      | @join a' b' xs ws e s s2 hw =>
        cases e
        refine ⟨_, rfl, _, _, _, _, rfl, rfl, s, rfl, rfl, eq_yes rfl ?_⟩
        refine ⟨_, rfl, _, _, _, _, rfl, rfl, s, rfl, b', xs, rfl, .inr s2, ?_, rfl⟩
        rw [hw.length]
        rfl
      | times e s hx =>
        cases e
        refine ⟨_, rfl, _, _, _, _, rfl, rfl, s, rfl, rfl, eq_no (by decide +kernel) ?_⟩
        refine ⟨_, rfl, _, _, _, _, rfl, rfl, s, rfl, rfl, eq_yes rfl ?_⟩
        exact ⟨_, rfl, _, _, _, _, rfl, rfl, s, rfl, rfl, rfl⟩
      | right e s hx =>
        cases e
        refine ⟨_, rfl, _, _, _, _, rfl, rfl, s, rfl, rfl, eq_no (by decide +kernel) ?_⟩
        refine ⟨_, rfl, _, _, _, _, rfl, rfl, s, rfl, rfl, eq_no (by decide +kernel) ?_⟩
        exact ⟨_, _, rfl, rfl, ⟨by decide, by decide, by decide⟩, _, _, rfl, rfl, rfl, rfl⟩
      | left e s hx =>
        cases e
        refine ⟨_, rfl, _, _, _, _, rfl, rfl, s, rfl, rfl, eq_no (by decide +kernel) ?_⟩
        refine ⟨_, rfl, _, _, _, _, rfl, rfl, s, rfl, rfl, eq_no (by decide +kernel) ?_⟩
        exact ⟨_, _, rfl, rfl, ⟨by decide, by decide, by decide⟩, _, _, rfl, rfl, rfl, rfl⟩
    rintro σ' H3 ⟨rfl, rfl⟩
    have kk : Kp r H H3 := k1.trans (kp_same k2)
    obtain ⟨xa, zs, ex, es⟩ : ∃ xa zs, x = .ref xa ∧ SqT K H3 xa (.str u.kind :: zs) := by
      have at_ := hx.at
      cases at_ with
      | nam e s => exact ⟨_, _, e, s⟩
      | ltr e s => exact ⟨_, _, e, s⟩
      | emp e s => exact ⟨_, _, e, s⟩
      | join e s s2 hw => exact ⟨_, _, e, s⟩
      | times e s hx => exact ⟨_, _, e, s⟩
      | right e s hx => exact ⟨_, _, e, s⟩
      | left e s hx => exact ⟨_, _, e, s⟩
    subst ex
    by_cases hL : u.isL = true
    · -- a letter: one number more
      have hkk : u.kind = "letter" := by
        cases u with
        | ltr c => rfl
        | _ => cases hL
      refine ⟨_, rfl, _, _, _, _, rfl, rfl, es, at_of (j := 0) (by omega) rfl, rfl, eq_yes hkk ?_⟩
      refine ⟨_, rfl, _, rfl, r, l, _, rfl, by decide, by decide, g2, fun v2 H4 a2 b2 g4 k4 => ?_⟩
      obtain ⟨z2, hz2⟩ := g2.lst
      refine ⟨(by show 1 ≤ sizeLine; decide), fun p hp => ?_⟩
      have t4 : Tp H3 (upd H4 p (.tup [.int v2])) := (k4.tp hz2).trans (tp_new hp)
      refine cat_any ((t2.trans t4).sq ha) (one_int (SqT.of upd_same)) (by omega) (by show 1 ≤ 1000; decide) (fun p5 H5 hs5 k5 => ?_)
      exact q _ p5 H5 (bad_more hvd) (by rw [List.length_append]; show ns.length + 1 ≤ 102; omega) hs5 ((g4.new hp).same k5) (kk.trans (k4.trans ((Kp.new hp).trans (kp_same k5))))
    · have hL' : u.isL = false := Bool.eq_false_iff.mpr hL
      have hkn : u.kind ≠ "letter" := by
        cases u with
        | ltr c => exact absurd rfl hL
        | nam c => show Str.ofString "name" ≠ Str.ofString "letter"; decide +kernel
        | emp => show Str.ofString "empty" ≠ Str.ofString "letter"; decide +kernel
        | join c => show Str.ofString "join" ≠ Str.ofString "letter"; decide +kernel
        | times c n => show Str.ofString "times" ≠ Str.ofString "letter"; decide +kernel
        | right c => show Str.ofString "right" ≠ Str.ofString "letter"; decide +kernel
        | left c => show Str.ofString "left" ≠ Str.ofString "letter"; decide +kernel
      have hk : k < ns.length := by
        refine Nat.lt_of_not_le fun h => ?_
        rw [List.take_of_length_le h] at hu
        obtain ⟨c, e⟩ := hvd
        rw [hu] at e
        cases e
        cases hL'
      refine ⟨_, rfl, _, _, _, _, rfl, rfl, es, at_of (j := 0) (by omega) rfl, rfl, eq_no hkn ?_⟩
      have ha3 := t2.sq ha
      have l1 : (ns.take k).length ≤ 1000 := by rw [List.length_take]; omega
      have l2 : (ns.drop (k + 1)).length ≤ 1000 := by rw [List.length_drop]; omega
      have l3 : ∀ i : Int, (ns.take k ++ [i]).length ≤ 1000 := fun i => by rw [List.length_append, List.length_take]; show min k ns.length + 1 ≤ 1000; omega
      have l4 : ∀ i : Int, (ns.take k ++ [i] ++ ns.drop (k + 1)).length ≤ 102 := fun i => by
        rw [List.length_append, List.length_append, List.length_take, List.length_drop]
        show min k ns.length + 1 + (ns.length - (k + 1)) ≤ 102
        omega
      -- too short
      refine ⟨_, rfl, _, rfl, _, rfl, _, rfl, sl_pre rfl ha3 (fun b4 H4 hb4 S4 => ?_)⟩
      -- the number behind the last
      refine ⟨_, rfl, _, rfl, _, rfl, sl_pre rfl ((tp_same S4).sq ha3) (fun b5 H5 hb5 k5 => ?_)⟩
      have S5 := S4.trans k5
      refine ⟨_, rfl, (by show 1 ≤ sizeLine; decide), fun p6 hp6 => ?_⟩
      refine cat_any ((tp_new hp6).sq hb5) (one_int (SqT.of upd_same)) l1 (by show 1 ≤ 1000; decide) (fun p7 H7 hs7 k7 => ?_)
      have S7 := (S5.trans (same_new hp6)).trans k7
      refine ⟨_, rfl, _, rfl, _, _, rfl, rfl, _, rfl, sl_suf (i := (k : Int) + 1) (k := k + 1) (by omega) ((tp_same S7).sq ha3) (fun b8 H8 hb8 k8 => ?_)⟩
      have S8 := S7.trans k8
      refine cat_any ((tp_same k8).sq hs7) hb8 (l3 _) l2 (fun p9 H9 hs9 k9 => ?_)
      have S9 := S8.trans k9
      -- the number before the first
      refine ⟨_, rfl, _, rfl, _, rfl, sl_pre rfl ((tp_same S9).sq ha3) (fun b10 H10 hb10 k10 => ?_)⟩
      have S10 := S9.trans k10
      refine ⟨_, rfl, (by show 1 ≤ sizeLine; decide), fun p11 hp11 => ?_⟩
      refine cat_any ((tp_new hp11).sq hb10) (one_int (SqT.of upd_same)) l1 (by show 1 ≤ 1000; decide) (fun p12 H12 hs12 k12 => ?_)
      have S12 := (S10.trans (same_new hp11)).trans k12
      refine ⟨_, rfl, _, rfl, _, _, rfl, rfl, _, rfl, sl_suf (i := (k : Int) + 1) (k := k + 1) (by omega) ((tp_same S12).sq ha3) (fun b13 H13 hb13 k13 => ?_)⟩
      have S13 := S12.trans k13
      refine cat_any ((tp_same k13).sq hs12) hb13 (l3 _) l2 (fun p14 H14 hs14 k14 => ?_)
      have S14 := S13.trans k14
      -- too long
      refine ⟨_, rfl, (by show 1 ≤ sizeLine; decide), fun p15 hp15 => ?_⟩
      have S15 := S14.trans (same_new (o := .tup [.int 0]) hp15)
      refine cat_any ((tp_same S15).sq ha3) (one_int (SqT.of upd_same)) (by omega) (by show 1 ≤ 1000; decide) (fun p16 H16 hs16 k16 => ?_)
      have S16 := S15.trans k16
      refine ⟨(by show 4 ≤ sizeLine; decide), fun p hp => ?_⟩
      have g16 := (g2.same S16).new (o := .lst [.ref b4, .ref p9, .ref p14, .ref p16]) hp
      obtain ⟨z3, hz3⟩ := g2.lst
      have hne : p ≠ r := (ne_of_none (S16 _ _ hz3) hp).symm
      refine ⟨r, l, p, _, rfl, g16, upd_same, hne, (by show 0 < 4; decide), (by show 4 ≤ 1000; decide), fun j y H17 ej g17 k17 => ?_⟩
      have kf : Kp r H H17 := kk.trans ((kp_same S16).trans ((Kp.new hp).trans k17))
      have tf : ∀ {Hx : Hp}, Same Hx H16 → Tp Hx H17 := fun S => (tp_same S).trans ((tp_new hp).trans (k17.tp (g16.lst).choose_spec))
      have s9 : Same H9 H16 := k10.trans ((same_new hp11).trans (k12.trans (k13.trans (k14.trans ((same_new hp15).trans k16)))))
      match j, ej with
      | 0, e =>
        cases e
        exact q _ b4 H17 (bad_of hu hL') (by rw [List.length_take]; omega) ((tf (k5.trans ((same_new hp6).trans (k7.trans (k8.trans (k9.trans s9)))))).sq hb4) g17 kf
      | 1, e =>
        cases e
        exact q (ns.take k ++ [u.tot] ++ ns.drop (k + 1)) p9 H17 (by rw [List.append_assoc]; exact bad_at hu stp_tot) (l4 _) ((tf s9).sq hs9) g17 kf
      | 2, e =>
        cases e
        exact q (ns.take k ++ [-1] ++ ns.drop (k + 1)) p14 H17 (by rw [List.append_assoc]; exact bad_at hu (stp_neg (by decide))) (l4 _) ((tf ((same_new hp15).trans k16)).sq hs14) g17 kf
      | 3, e =>
        cases e
        exact q (ns ++ [0]) p16 H17 (bad_more hvd) (by rw [List.length_append]; show ns.length + 1 ≤ 102; omega) ((tf (Same.refl _)).sq hs16) g17 kf

end
end SW

set_option Elab.async false
set_option linter.all false
set_option maxRecDepth 100000
set_option maxHeartbeats 4000000
namespace SW
open PySem PySem.Spec PyProof.Rows L2
section
variable {P : Program} {w : World} {K : PySem.W.Frag} {mg : Str → Option Value} {base : Heap}
/-! ### _nodes_on_the_way, all nodes told -/
/-- the nodes on the way -/
def Nds (K : PySem.W.Frag) (H : Hp) (t : W) (ns : List Int) (xs : List V) : Prop := ∀ (i : Nat) x, xs[i]? = some x → ∃ u, t.go (ns.take i) = some u ∧ WV K H x u
def spNodesL (K : PySem.W.Frag) (C : Addr) : Sp := fun vs H Q E => ∃ v t a ns, vs = [v, .ref a] ∧ WV K H v t ∧ t.Ok abc ∧ SqT K H a (ns.map V.int) ∧ ns.length ≤ 1000 ∧
  (∀ c p xs H', t.go ns = some (.ltr c) → H' p = some (.lst xs) → xs.length = ns.length + 1 → Nds K H' t ns xs → Same H H' → Q (.ref p) H') ∧ (Bad t ns → Rz0 H E C "InvalidAddress")
theorem sc__nodes_on_the_way : FnScope ["word", "address", "nodes", "number"] ["word", "address"] (defScope s__nodes_on_the_way) := ⟨rfl, rfl, rfl, by decide +kernel, rfl, by decide +kernel, by decide +kernel⟩
theorem ok_nodesL {C : Addr} (D : Df K mg "_nodes_on_the_way" s__nodes_on_the_way ["word", "address"]) (bi : Bi mg) (eInvalidAddress : ErrOk0 P w K mg base "InvalidAddress" C "InvalidAddress") (c_inner : CalX P w K mg base 5 "_inner" ["word", "number"] (spInner K C)) :
    CalX P w K mg base 6 "_nodes_on_the_way" ["word", "address"] (spNodesL K C) := by
  refine D.okX sc__nodes_on_the_way (fun vs H Q E h => ?_) (fun f cdv A outer s H vs Q E hr h => ?_)
  · obtain ⟨v, t, a, ns, rfl, _⟩ := h
    rfl
  obtain ⟨v, t, a, ns, rfl, hv, ho, ha, hn, q, z⟩ := h
  refine ⟨_, (pss_cons (ps_set (i := 2) sc__nodes_on_the_way.nd rfl (.inl rfl) (pe_lst (pa_cons (pv 0) pa_nil)))
      (pss_cons (ps_for (passes_of rfl) rfl (pi_tup (pv 1)) (pg_name (i := 3) sc__nodes_on_the_way.nd rfl (.inl rfl)) (pss_one (ps_expr (pe_bm PySem.F.plainAttrs_list PySem.F.slot_list_append PySem.F.type_list_append mt_append (pv 2) (pa_cons (pe_ownX c_inner hr (by omega) passX (by rfl) (pa_cons (pe_ix ix_list (pv 2) (pe_un un_neg pe_int) (fun _ _ => rfl)) (pa_cons (pv 3) pa_nil))) pa_nil)))))
      (pss_cons (ps_if (pt_cmpR op_ne (pe_ix ix_tup (pe_ix ix_list (pv 2) (pe_un un_neg pe_int) (fun _ _ => rfl)) pe_int (fun _ _ => rfl)) pe_str (nomark _)) (pss_one (ps_raise rfl (takes_of rfl rfl rfl rfl) (pmk_err0 eInvalidAddress (hr.mono (by omega)) (by rfl)))) pss_nil)
      (pss_one (ps_ret (pv 2)))))), ?_⟩
  refine ⟨_, rfl, (by show 1 ≤ sizeLine; decide), fun p hp => ?_⟩
  have k0 : Same H (upd H p (.lst [v])) := same_new hp
  refine ⟨_, rfl, a, rfl, ⟨_, (tp_same k0).sq ha⟩, for_tup (xs := ns.map V.int) (fun i σ' H' => ∃ xs x u y3, σ' = [some v, some (.ref a), some (.ref p), y3] ∧ H' p = some (.lst (xs ++ [x])) ∧ xs.length = i ∧ WV K H' x u ∧ t.go (ns.take i) = some u ∧ Same H H' ∧ Nds K H' t ns (xs ++ [x])) ?_ ?_ ?_ ?_⟩
  · refine ⟨[], v, t, none, rfl, upd_same, rfl, WV.tp (tp_same k0) _ hv, go_nil _, k0, fun i x h => ?_⟩
    cases i with
    | zero =>
      cases h
      exact ⟨t, go_nil _, WV.tp (tp_same k0) _ hv⟩
    | succ i => cases h
  · rintro i σ' H' _ ⟨xs, x, u, y3, rfl, hl, hlen, hx, hg, k, hall⟩
    exact (tp_same k).sq ha
  · rintro i y σ' H' hy ⟨xs, x, u, y3, rfl, hl, hlen, hx, hg, k, hall⟩
    rw [List.getElem?_map] at hy
    cases e : ns[i]? with
    | none => rw [e] at hy; cases hy
    | some j =>
      rw [e] at hy
      cases hy
      have hi : i < ns.length := (List.getElem?_eq_some_iff.mp e).1
      have et : ns.take (i + 1) = ns.take i ++ [j] := by rw [List.take_add_one, e]; rfl
      have ou := (go_ok _ ho hg).1
      refine ⟨_, rfl, .inl ⟨rfl, _, SqL.of hl⟩, _, rfl, _, rfl, _, _, _, _, rfl, rfl, SqL.of hl, atI_last, _, rfl, ?_⟩
      refine ⟨x, u, j, rfl, hx, ou, fun u2 x2 H2 es hx2 k2 => ?_, fun es => ?_⟩
      · have hl2 := k2 _ _ hl
        refine ⟨p, _, x2, rfl, rfl, hl2, ?_, xs ++ [x], x2, u2, _, rfl, upd_same, ?_, ?_, ?_, ?_, ?_⟩
        · rw [List.length_append, hlen]
          exact Nat.lt_of_le_of_lt (show _ ≤ 2000 by show i + 1 ≤ 2000; omega) (by decide)
        · rw [List.length_append, hlen]; rfl
        · exact WV.tp (tp_set hl2) _ hx2
        · rw [et, go_app_some hg, go_cons es, go_nil]
        · intro b o hb
          by_cases hbp : b = p
          · rw [hbp, hp] at hb; cases hb
          · rw [upd_ne hbp]
            exact k2 _ _ (k _ _ hb)
        · intro i' x' h'
          have tset := tp_set (o := .lst ((xs ++ [x]) ++ [x2])) hl2
          by_cases hi' : i' < (xs ++ [x]).length
          · rw [List.getElem?_append_left hi'] at h'
            obtain ⟨u', e1, e2⟩ := hall i' x' h'
            exact ⟨u', e1, WV.tp ((tp_same k2).trans tset) _ e2⟩
          · rw [List.getElem?_append_right (by omega)] at h'
            have hz : i' - (xs ++ [x]).length = 0 := by
              have h1 := (List.getElem?_eq_some_iff.mp h').1
              rw [List.length_singleton] at h1
              omega
            rw [hz] at h'
            cases h'
            have e : i' = i + 1 := by
              rw [List.length_append, hlen] at hz hi'
              have hz' : i' - (i + 1) = 0 := hz
              have hi'' : ¬ i' < i + 1 := hi'
              omega
            subst e
            exact ⟨u2, by rw [et, go_app_some hg, go_cons es, go_nil], WV.tp tset _ hx2⟩
      · have hz := z (bad_of_none (by
          rw [← List.take_append_drop i ns, go_app_some hg, List.drop_eq_getElem_cons hi]
          have : ns[i] = j := (List.getElem?_eq_some_iff.mp e).2
          rw [this]
          exact go_none es))
        exact hz.same k
  · rintro σ' H' ⟨xs, x, u, y3, rfl, hl, hlen, hx, hg, k, hall⟩
    rw [List.length_map, List.take_length] at hg
    have at_ := hx.at
    have hb : u.isL = false → Rz0 H' E C "InvalidAddress" := fun n => (z (bad_of hg n)).same k
    cases at_ with
    | ltr e s =>
      cases e
      refine ⟨_, rfl, _, rfl, _, _, _, _, rfl, rfl, SqL.of hl, atI_last, _, _, _, _, rfl, rfl, s, rfl, rfl, ne_no rfl ?_⟩
      exact ⟨_, rfl, q _ p (xs ++ [.ref _]) H' hg hl (by rw [List.length_append, hlen, List.length_map]; rfl) hall k⟩
    | nam e s =>
      cases e
      exact ⟨_, rfl, _, rfl, _, _, _, _, rfl, rfl, SqL.of hl, atI_last, _, _, _, _, rfl, rfl, s, rfl, rfl, ne_yes (by decide +kernel) (hb rfl)⟩
    | emp e s =>
      cases e
      exact ⟨_, rfl, _, rfl, _, _, _, _, rfl, rfl, SqL.of hl, atI_last, _, _, _, _, rfl, rfl, s, rfl, rfl, ne_yes (by decide +kernel) (hb rfl)⟩
    | join e s s2 hw =>
      cases e
      exact ⟨_, rfl, _, rfl, _, _, _, _, rfl, rfl, SqL.of hl, atI_last, _, _, _, _, rfl, rfl, s, rfl, rfl, ne_yes (by decide +kernel) (hb rfl)⟩
    | times e s hx =>
      cases e
      exact ⟨_, rfl, _, rfl, _, _, _, _, rfl, rfl, SqL.of hl, atI_last, _, _, _, _, rfl, rfl, s, rfl, rfl, ne_yes (by decide +kernel) (hb rfl)⟩
    | right e s hx =>
      cases e
      exact ⟨_, rfl, _, rfl, _, _, _, _, rfl, rfl, SqL.of hl, atI_last, _, _, _, _, rfl, rfl, s, rfl, rfl, ne_yes (by decide +kernel) (hb rfl)⟩
    | left e s hx =>
      cases e
      exact ⟨_, rfl, _, rfl, _, _, _, _, rfl, rfl, SqL.of hl, atI_last, _, _, _, _, rfl, rfl, s, rfl, rfl, ne_yes (by decide +kernel) (hb rfl)⟩
/-! ### compare -/
def W.isLeft : W → Bool
  | .left _ => true
  | _ => false
/-- the order of two addresses: by the first number that differs -/
def cmpA : W → List Int → List Int → Int
  | t, i :: r, j :: s => if i = j then (match t.stp i with
    | some u => cmpA u r s
    | none => 0) else if t.isLeft then (if j < i then -1 else 1) else (if i < j then -1 else 1)
  | _, _, _ => 0
/-- it begins at the n-th numbers -/
theorem cmp_drop {t u : W} {a b : List Int} : ∀ {n : Nat}, a.take n = b.take n → t.go (a.take n) = some u → cmpA t a b = cmpA u (a.drop n) (b.drop n) := by
  intro n
  induction n generalizing t a b with
  | zero =>
    intro _ h
    rw [List.take_zero, go_nil] at h
    cases h
    rfl
  | succ n ih =>
    intro e h
    cases a with
    | nil =>
      cases b with
      | nil =>
        rw [List.take_nil, go_nil] at h
        cases h
        rfl
      | cons j s => cases e
    | cons i r =>
      cases b with
      | nil => cases e
      | cons j s =>
        rw [List.take_succ_cons, List.take_succ_cons] at e
        injection e with e1 e2
        subst e1
        rw [List.take_succ_cons] at h
        cases es : t.stp i with
        | none => rw [go_none es] at h; cases h
        | some v =>
          rw [go_cons es] at h
          rw [cmpA, if_pos rfl, es, List.drop_succ_cons, List.drop_succ_cons]
          exact ih e2 h
theorem cmp_end {t : W} {b : List Int} : cmpA t [] b = 0 := by
  cases b <;> rfl
theorem cmp_end2 {t : W} {a : List Int} : cmpA t a [] = 0 := by
  cases a <;> rfl
def spCmp (K : PySem.W.Frag) (C : Addr) : Sp := fun vs H Q E => ∃ v t a ns b ms, vs = [v, .ref a, .ref b] ∧ WV K H v t ∧ t.Ok abc ∧ SqT K H a (ns.map V.int) ∧ SqT K H b (ms.map V.int) ∧ ns.length ≤ 1000 ∧ ms.length ≤ 1000 ∧
  (Vd t ns → Vd t ms → ∀ H', Same H H' → Q (.int (cmpA t ns ms)) H') ∧ (Bad t ns ∨ Vd t ns ∧ Bad t ms → Rz0 H E C "InvalidAddress") ∧ (Vd t ns ∨ Bad t ns) ∧ (Vd t ms ∨ Bad t ms)
theorem sc_compare : FnScope ["word", "one", "other", "nodes", "node", "number", "against", "is_before"] ["word", "one", "other"] (defScope s_compare) := ⟨rfl, rfl, rfl, by decide +kernel, rfl, by decide +kernel, by decide +kernel⟩
theorem ok_compare {C : Addr} (D : Df K mg "compare" s_compare ["word", "one", "other"]) (bi : Bi mg) (c_nodes_on_the_way : CalX P w K mg base 6 "_nodes_on_the_way" ["word", "address"] (spNodesL K C)) : CalX P w K mg base 7 "compare" ["word", "one", "other"] (spCmp K C) := by
  refine D.okX sc_compare (fun vs H Q E h => ?_) (fun f cdv A outer s H vs Q E hr h => ?_)
  · obtain ⟨v, t, a, ns, b, ms, rfl, _⟩ := h
    rfl
  obtain ⟨v, t, a, ns, b, ms, rfl, hv, ho, ha, hb, hn, hm, q, z, d1, d2⟩ := h
  refine ⟨_, (pss_cons (ps_set (i := 3) sc_compare.nd rfl (.inl rfl) (pe_ownX c_nodes_on_the_way hr (by omega) passX (by rfl) (pa_cons (pv 0) (pa_cons (pv 1) pa_nil))))
      (pss_cons (ps_expr (pe_ownX c_nodes_on_the_way hr (by omega) passX (by rfl) (pa_cons (pv 0) (pa_cons (pv 2) pa_nil))))
      (pss_cons (ps_for (passes_of rfl) rfl (pi_zip3 (by rfl) bi.zip (pa_cons (pv 3) (pa_cons (pv 1) (pa_cons (pv 2) pa_nil)))) (pg_tup rfl (pgs_cons (pg_name (i := 4) sc_compare.nd rfl (.inl rfl)) (pgs_cons (pg_name (i := 5) sc_compare.nd rfl (.inl rfl)) (pgs_cons (pg_name (i := 6) sc_compare.nd rfl (.inl rfl)) pgs_nil)))) (pss_one (ps_if (pt_cmpR op_ne (pv 5) (pv 6) (nomark _)) (C8.pss_cut (ps_set (i := 7) sc_compare.nd rfl (.inl rfl) (pe_ifExp (pt_cmpR op_eq (pe_ix ix_tup (pv 4) pe_int (fun _ _ => rfl)) pe_str (nomark _)) (pe_cmpR op_gt (pv 5) (pv 6) (nomark _)) (pe_cmpR op_lt (pv 5) (pv 6) (nomark _))))
      (pss_one (ps_ret (pe_ifExp (pt_val (pv 7)) (pe_un un_neg pe_int) pe_int)))) pss_nil)))
      (pss_one (ps_ret pe_int))))), ?_⟩
  refine ⟨_, rfl, _, rfl, v, t, a, ns, rfl, hv, ho, ha, hn, fun c p xs H1 hg hp hlen hall k1 => ?_, fun hbad => z (.inl hbad)⟩
  have v1 : Vd t ns := ⟨c, hg⟩
  have t1 := tp_same k1
  refine ⟨_, rfl, _, rfl, v, t, b, ms, rfl, WV.tp t1 _ hv, ho, t1.sq hb, hm, fun c2 p2 xs2 H2 hg2 hp2 hlen2 hall2 k2 => ?_, fun hbad => (z (.inr ⟨v1, hbad⟩)).same k1⟩
  have v2 : Vd t ms := ⟨c2, hg2⟩
  have S2 := k1.trans k2
  have hall3 : Nds K H2 t ns xs := fun i x hx => by
    obtain ⟨u, e1, e2⟩ := hall i x hx
    exact ⟨u, e1, WV.tp (tp_same k2) _ e2⟩
  have hl1 : (ns.map V.int).length = ns.length := List.length_map _
  have hl2 : (ms.map V.int).length = ms.length := List.length_map _
  refine ⟨_, rfl, _, rfl, _, rfl, p, a, b, xs, ns.map V.int, ms.map V.int, rfl, SqL.of (k2 _ _ hp), (tp_same S2).sq ha, (tp_same S2).sq hb,
    for_zip3 (n := min (min xs.length (ns.map V.int).length) (ms.map V.int).length) rfl (fun i σ' H' => ∃ y4 y5 y6, σ' = [some v, some (.ref a), some (.ref b), some (.ref p), y4, y5, y6, none] ∧ ns.take i = ms.take i ∧ Same H2 H') ?_ ?_ ?_ ?_⟩
  · exact ⟨none, none, none, rfl, by rw [List.take_zero, List.take_zero], Same.refl H2⟩
  · rintro i σ' H' ⟨y4, y5, y6, rfl, e, S3⟩
    exact ⟨SqL.of (S3 _ _ (k2 _ _ hp)), (tp_same (S2.trans S3)).sq ha, (tp_same (S2.trans S3)).sq hb⟩
  · rintro i x y y' T σ' H' hx hy hy' ⟨y4, y5, y6, rfl, e, S3⟩ hT
    rw [List.getElem?_map] at hy hy'
    obtain ⟨i1, e1, rfl⟩ := Option.map_eq_some_iff.mp hy
    obtain ⟨j1, e2, rfl⟩ := Option.map_eq_some_iff.mp hy'
    have S4 : Same H2 (upd H' T (.tup [x, .int i1, .int j1])) := S3.trans (same_new hT)
    obtain ⟨u, eu, hu⟩ := hall3 i x hx
    have hu4 := WV.tp (tp_same S4) _ hu
    have n1 := (List.getElem?_eq_some_iff.mp e1).1
    have n2 := (List.getElem?_eq_some_iff.mp e2).1
    have dr1 : ns.drop i = i1 :: ns.drop (i + 1) := by rw [List.drop_eq_getElem_cons n1, (List.getElem?_eq_some_iff.mp e1).2]
    have dr2 : ms.drop i = j1 :: ms.drop (i + 1) := by rw [List.drop_eq_getElem_cons n2, (List.getElem?_eq_some_iff.mp e2).2]
    have hcmp := cmp_drop e eu
    rw [dr1, dr2, cmpA] at hcmp
    refine ⟨T, [x, .int i1, .int j1], rfl, SqT.of upd_same, rfl, _, _, rfl, _, _, rfl, _, _, rfl, rfl, ?_⟩
    refine ⟨_, rfl, _, rfl, rfl, _, rfl, ite2 (fun hc => ?_) (fun hc => ?_)⟩
    · have hne : i1 ≠ j1 := fun h => by
        rw [h, decide_eq_true rfl] at hc
        cases hc
      rw [if_neg hne] at hcmp
      refine ⟨fun σ' H5 => σ' = [some v, some (.ref a), some (.ref b), some (.ref p), some x, some (.int i1), some (.int j1), some (.bl (if u.isLeft then decide (j1 < i1) else decide (i1 < j1)))] ∧ H5 = upd H' T (.tup [x, .int i1, .int j1]), ?_, ?_⟩
      · have at_ := hu4.at
        cases at_ with
        | nam e s => cases e; exact ⟨_, rfl, _, _, _, _, rfl, rfl, s, rfl, rfl, eq_no (by decide +kernel) ⟨_, rfl, _, rfl, _, _, rfl, rfl, rfl, rfl⟩⟩
        | ltr e s => cases e; exact ⟨_, rfl, _, _, _, _, rfl, rfl, s, rfl, rfl, eq_no (by decide +kernel) ⟨_, rfl, _, rfl, _, _, rfl, rfl, rfl, rfl⟩⟩
        | emp e s => cases e; exact ⟨_, rfl, _, _, _, _, rfl, rfl, s, rfl, rfl, eq_no (by decide +kernel) ⟨_, rfl, _, rfl, _, _, rfl, rfl, rfl, rfl⟩⟩
        | join e s s2 hw => cases e; exact ⟨_, rfl, _, _, _, _, rfl, rfl, s, rfl, rfl, eq_no (by decide +kernel) ⟨_, rfl, _, rfl, _, _, rfl, rfl, rfl, rfl⟩⟩
        | times e s hx => cases e; exact ⟨_, rfl, _, _, _, _, rfl, rfl, s, rfl, rfl, eq_no (by decide +kernel) ⟨_, rfl, _, rfl, _, _, rfl, rfl, rfl, rfl⟩⟩
        | right e s hx => cases e; exact ⟨_, rfl, _, _, _, _, rfl, rfl, s, rfl, rfl, eq_no (by decide +kernel) ⟨_, rfl, _, rfl, _, _, rfl, rfl, rfl, rfl⟩⟩
        | left e s hx => cases e; exact ⟨_, rfl, _, _, _, _, rfl, rfl, s, rfl, rfl, eq_yes rfl ⟨_, rfl, _, rfl, _, _, rfl, rfl, rfl, rfl⟩⟩
      rintro σ' H5 ⟨rfl, rfl⟩
      have hq := q v1 v2 _ (S2.trans S4)
      rw [hcmp] at hq
      refine ⟨_, rfl, _, rfl, ?_⟩
      by_cases hL : u.isLeft = true
      · rw [if_pos hL] at hq ⊢
        refine ite2 (fun hd => ?_) (fun hd => ?_)
        · rw [if_pos (of_decide_eq_true hd)] at hq
          exact ⟨_, rfl, hq⟩
        · rw [if_neg (of_decide_eq_false (Bool.eq_false_iff.mpr hd))] at hq
          exact hq
      · rw [if_neg hL] at hq ⊢
        refine ite2 (fun hd => ?_) (fun hd => ?_)
        · rw [if_pos (of_decide_eq_true hd)] at hq
          exact ⟨_, rfl, hq⟩
        · rw [if_neg (of_decide_eq_false (Bool.eq_false_iff.mpr hd))] at hq
          exact hq
    · have hij : i1 = j1 := by
        refine Classical.byContradiction fun h => hc ?_
        have : decide (V.int i1 = V.int j1) = false := decide_eq_false fun e => h (V.int.inj e)
        rw [this]
        rfl
      refine ⟨_, _, _, rfl, ?_, S4⟩
      rw [List.take_add_one, List.take_add_one, e1, e2, e, hij]
  · rintro σ' H' ⟨y4, y5, y6, rfl, e, S3⟩
    have hq := q v1 v2 _ (S2.trans S3)
    obtain ⟨u, eu⟩ := vd_take v1 (min (min xs.length (ns.map V.int).length) (ms.map V.int).length)
    rw [cmp_drop e eu] at hq
    by_cases hc2 : ns.length ≤ ms.length
    · rw [List.drop_eq_nil_of_le (as := ns) (by omega), cmp_end] at hq
      exact hq
    · rw [List.drop_eq_nil_of_le (as := ms) (by omega), cmp_end2] at hq
      exact hq

end
end SW

set_option Elab.async false
set_option linter.all false
set_option maxRecDepth 100000
set_option maxHeartbeats 4000000
namespace SW
open PySem PySem.Spec PyProof.Rows L2
section
variable {P : Program} {w : World} {K : PySem.W.Frag} {mg : Str → Option Value} {base : Heap}
/-! ### _law_ahead -/
def spAhead (K : PySem.W.Frag) : Sp := fun vs H Q _ => ∃ v t a ns b ms, vs = [v, .ref a, .ref b] ∧ WV K H v t ∧ t.Ok abc ∧ SqT K H a (ns.map V.int) ∧ SqT K H b (ms.map V.int) ∧ Vd t ns ∧ Vd t ms ∧ ∀ H', Same H H' → Q (.bl (decide (cmpA t ns ms = -1))) H'
theorem sc__law_ahead : FnScope ["_law_tree_here", "_law_my_one", "_law_my_other", "_law_here", "_law_first", "_law_second"] ["_law_tree_here", "_law_my_one", "_law_my_other"] (defScope s__law_ahead) := ⟨rfl, rfl, rfl, by decide +kernel, rfl, by decide +kernel, by decide +kernel⟩
theorem ok_ahead (D : Df K mg "_law_ahead" s__law_ahead ["_law_tree_here", "_law_my_one", "_law_my_other"]) (bi : Bi mg) : Cal P w K mg base 1 "_law_ahead" ["_law_tree_here", "_law_my_one", "_law_my_other"] (spAhead K) := by
  refine D.ok sc__law_ahead (fun vs H Q E h => ?_) (fun f cdv A outer s H vs Q E hr h => ?_)
  · obtain ⟨v, t, a, ns, b, ms, rfl, _⟩ := h
    rfl
  obtain ⟨v, t, a, ns, b, ms, rfl, hv, ho, ha, hb, v1, v2, q⟩ := h
  refine ⟨_, (pss_cons (ps_set (i := 3) sc__law_ahead.nd rfl (.inl rfl) (pv 0))
      (pss_cons (ps_for PassesOwn.never rfl (RZ.pi_zipA (by rfl) bi.zip (pa_cons (pv 1) (pa_cons (pv 2) pa_nil))) (pg_tup rfl (pgs_cons (pg_name (i := 4) sc__law_ahead.nd rfl (.inl rfl)) (pgs_cons (pg_name (i := 5) sc__law_ahead.nd rfl (.inl rfl)) pgs_nil))) (pss_cons (ps_if (pt_cmpR op_ne (pv 4) (pv 5) (nomark _)) (pss_one (ps_ret (pe_cmpR op_eq (pe_cmpR op_lt (pv 4) (pv 5) (nomark _)) (pe_cmpR op_ne (pe_ix ix_tup (pv 3) pe_int (fun _ _ => rfl)) pe_str (nomark _)) (nomark _)))) pss_nil)
      (pss_one (ps_set (i := 3) sc__law_ahead.nd rfl (.inl rfl) (pe_ifExp (pt_cmpR op_eq (pe_ix ix_tup (pv 3) pe_int (fun _ _ => rfl)) pe_str (nomark _)) (pe_ix ix_tup (pe_ix ix_tup (pv 3) pe_int (fun _ _ => rfl)) (pv 4) (fun _ _ => rfl)) (pe_ix ix_tup (pv 3) pe_int (fun _ _ => rfl)))))))
      (pss_one (ps_ret pe_bl)))), ?_⟩
  have hl1 : (ns.map V.int).length = ns.length := List.length_map _
  have hl2 : (ms.map V.int).length = ms.length := List.length_map _
  refine ⟨_, rfl, _, rfl, _, rfl, a, b, ns.map V.int, ms.map V.int, rfl, .inr ⟨ha, hb, for_zipTm (n := min (ns.map V.int).length (ms.map V.int).length) rfl (fun i σ' H' => ∃ x u y4 y5, σ' = [some v, some (.ref a), some (.ref b), some x, y4, y5] ∧ ns.take i = ms.take i ∧ t.go (ns.take i) = some u ∧ WV K H' x u ∧ Same H H') ?_ ?_ ?_ ?_⟩⟩
  · exact ⟨v, t, none, none, rfl, by rw [List.take_zero, List.take_zero], go_nil _, hv, Same.refl H⟩
  · rintro i σ' H' ⟨x, u, y4, y5, rfl, e, eu, hx, S1⟩
    exact ⟨(tp_same S1).sq ha, (tp_same S1).sq hb⟩
  · rintro i y y' T σ' H' hy hy' ⟨x, u, y4, y5, rfl, e, eu, hx, S1⟩ hT
    rw [List.getElem?_map] at hy hy'
    obtain ⟨i1, e1, rfl⟩ := Option.map_eq_some_iff.mp hy
    obtain ⟨j1, e2, rfl⟩ := Option.map_eq_some_iff.mp hy'
    have S2 : Same H (upd H' T (.tup [.int i1, .int j1])) := S1.trans (same_new hT)
    have hx2 := WV.tp (tp_new (o := .tup [.int i1, .int j1]) hT) _ hx
    have n1 := (List.getElem?_eq_some_iff.mp e1).1
    have n2 := (List.getElem?_eq_some_iff.mp e2).1
    have dr1 : ns.drop i = i1 :: ns.drop (i + 1) := by rw [List.drop_eq_getElem_cons n1, (List.getElem?_eq_some_iff.mp e1).2]
    have dr2 : ms.drop i = j1 :: ms.drop (i + 1) := by rw [List.drop_eq_getElem_cons n2, (List.getElem?_eq_some_iff.mp e2).2]
    have hcmp := cmp_drop e eu
    rw [dr1, dr2, cmpA] at hcmp
    refine ⟨T, [.int i1, .int j1], rfl, SqT.of upd_same, rfl, _, _, rfl, _, _, rfl, rfl, ?_⟩
    refine ⟨_, rfl, _, rfl, rfl, _, rfl, ite2 (fun hc => ?_) (fun hc => ?_)⟩
    · have hne : i1 ≠ j1 := fun h => by
        rw [h, decide_eq_true rfl] at hc
        cases hc
      rw [if_neg hne] at hcmp
      have hq := q _ S2
      rw [hcmp] at hq
      have at_ := hx2.at
      refine ⟨_, rfl, _, rfl, _, _, rfl, rfl, ?_⟩
      have keyN : u.isLeft = false → decide ((if u.isLeft = true then if j1 < i1 then (-1 : Int) else 1 else if i1 < j1 then -1 else 1) = -1) = decide (V.bl (decide (i1 < j1)) = V.bl true) := fun hL => by
        rw [hL, if_neg (by decide)]
        by_cases h : i1 < j1
        · rw [if_pos h, decide_eq_true h]; rfl
        · rw [if_neg h, decide_eq_false h]; rfl
      have keyL : u.isLeft = true → decide ((if u.isLeft = true then if j1 < i1 then (-1 : Int) else 1 else if i1 < j1 then -1 else 1) = -1) = decide (V.bl (decide (i1 < j1)) = V.bl false) := fun hL => by
        rw [hL, if_pos rfl]
        by_cases h : i1 < j1
        · rw [if_neg (by omega), decide_eq_true h]; rfl
        · rw [if_pos (by omega), decide_eq_false h]; rfl
      cases at_ with
      | nam e s => cases e; rw [keyN rfl] at hq; exact ⟨_, rfl, _, _, _, _, rfl, rfl, s, rfl, rfl, rfl, hq⟩
      | ltr e s => cases e; rw [keyN rfl] at hq; exact ⟨_, rfl, _, _, _, _, rfl, rfl, s, rfl, rfl, rfl, hq⟩
      | emp e s => cases e; rw [keyN rfl] at hq; exact ⟨_, rfl, _, _, _, _, rfl, rfl, s, rfl, rfl, rfl, hq⟩
      | join e s s2 hw => cases e; rw [keyN rfl] at hq; exact ⟨_, rfl, _, _, _, _, rfl, rfl, s, rfl, rfl, rfl, hq⟩
      | times e s hx => cases e; rw [keyN rfl] at hq; exact ⟨_, rfl, _, _, _, _, rfl, rfl, s, rfl, rfl, rfl, hq⟩
      | right e s hx => cases e; rw [keyN rfl] at hq; exact ⟨_, rfl, _, _, _, _, rfl, rfl, s, rfl, rfl, rfl, hq⟩
      | left e s hx => cases e; rw [keyL rfl] at hq; exact ⟨_, rfl, _, _, _, _, rfl, rfl, s, rfl, rfl, rfl, hq⟩
    · have hij : i1 = j1 := by
        refine Classical.byContradiction fun h => hc ?_
        have : decide (V.int i1 = V.int j1) = false := decide_eq_false fun e => h (V.int.inj e)
        rw [this]
        rfl
      have et : ns.take (i + 1) = ns.take i ++ [i1] := by rw [List.take_add_one, e1]; rfl
      obtain ⟨u2, es⟩ := vd_take v1 (i + 1)
      have es2 : u.stp i1 = some u2 := by
        rw [et, go_app_some eu] at es
        cases e2 : u.stp i1 with
        | none => rw [go_none e2] at es; cases es
        | some z => rw [go_cons e2, go_nil] at es; exact es
      refine walk_step (i := 3) (j := 4) hx2 es2 rfl rfl (fun y hy => ⟨y, u2, _, _, rfl, ?_, es, hy, S2⟩)
      rw [List.take_add_one, List.take_add_one, e1, e2, e, hij]
  · rintro σ' H' ⟨x, u, y4, y5, rfl, e, eu, hx, S1⟩
    have hq := q _ S1
    have : cmpA t ns ms = 0 := by
      rw [cmp_drop e eu]
      by_cases hc2 : ns.length ≤ ms.length
      · rw [List.drop_eq_nil_of_le (as := ns) (by omega), cmp_end]
      · rw [List.drop_eq_nil_of_le (as := ms) (by omega), cmp_end2]
    rw [this] at hq
    exact hq
/-! ### _law_order -/
theorem ints_eqvA : ∀ ns ms : List Int, PyData.eqvAll (ns.map PyData.int) (ms.map PyData.int) = decide (ns = ms)
  | [], [] => by rw [List.map_nil, PyData.eqvAll]; rfl
  | [], j :: s => by rw [List.map_nil, List.map_cons, PyData.eqvAll]; rfl
  | i :: r, [] => by rw [List.map_nil, List.map_cons, PyData.eqvAll]; rfl
  | i :: r, j :: s => by
    rw [List.map_cons, List.map_cons, PyData.eqvAll, PyData.eqv, ints_eqvA r s]
    by_cases h1 : i = j
    · subst h1
      by_cases h2 : r = s
      · subst h2
        rw [decide_eq_true rfl, decide_eq_true rfl, beq_self_eq_true]
        rfl
      · rw [decide_eq_false h2, decide_eq_false (fun e => h2 (List.cons.inj e).2), Bool.and_false]
    · rw [decide_eq_false (fun e => h1 (List.cons.inj e).1), beq_eq_false_iff_ne.mpr h1, Bool.false_and]
theorem ints_eqvs (ns ms : List Int) : PyData.eqv (.tuple (ns.map PyData.int)) (.tuple (ms.map PyData.int)) = decide (ns = ms) := by
  rw [PyData.eqv, ints_eqvA]
theorem ints_layA : ∀ ns : List Int, PyData.canLayAll0 (ns.map PyData.int) = true
  | [] => by rw [List.map_nil]; rfl
  | n :: r => by
    rw [List.map_cons]
    simp only [PyData.canLayAll0, PyData.canLay0, Bool.true_and]
    exact ints_layA r
theorem ints_shaped (ns : List Int) : SeqAt.shaped (.tuple (ns.map PyData.int)) = true := by
  unfold SeqAt.shaped
  have h1 : (PyData.tuple (ns.map PyData.int)).canLay0 = true := by
    simp only [PyData.canLay0]
    exact ints_layA ns
  have h2 : (PyData.tuple (ns.map PyData.int)).depth ≤ 64 := by
    have := ints_depth ns
    simp only [PyData.depth]
    omega
  rw [h1, decide_eq_true h2]
  rfl
/-- two addresses that differ: one is ahead -/
theorem cmp_self (t : W) : ∀ ns, cmpA t ns ns = 0 := by
  intro ns
  induction ns generalizing t with
  | nil => rfl
  | cons i r ih =>
    rw [cmpA, if_pos rfl]
    cases t.stp i with
    | none => rfl
    | some u => exact ih u
theorem cmp_anti (t : W) : ∀ a b, cmpA t b a = - cmpA t a b := by
  intro a
  induction a generalizing t with
  | nil =>
    intro b
    rw [cmp_end, cmp_end2]
    rfl
  | cons i r ih =>
    intro b
    cases b with
    | nil => rw [cmp_end, cmp_end2]; rfl
    | cons j s =>
      rw [cmpA, cmpA]
      by_cases h : i = j
      · subst h
        rw [if_pos rfl, if_pos rfl]
        cases t.stp i with
        | none => rfl
        | some u => exact ih u s
      · rw [if_neg h, if_neg (Ne.symm h)]
        by_cases hL : t.isLeft = true
        · rw [if_pos hL, if_pos hL]
          by_cases hj : j < i
          · rw [if_pos hj, if_neg (by omega)]; rfl
          · rw [if_neg hj, if_pos (by omega)]
        · rw [if_neg hL, if_neg hL]
          by_cases hj : i < j
          · rw [if_pos hj, if_neg (by omega)]; rfl
          · rw [if_neg hj, if_pos (by omega)]
theorem cmp_ne (t : W) : ∀ a b, Vd t a → Vd t b → a ≠ b → cmpA t a b ≠ 0 := by
  intro a
  induction a generalizing t with
  | nil =>
    intro b va vb h
    obtain ⟨c, va⟩ := va
    rw [go_nil] at va
    cases va
    exact absurd (vd_ltr vb).symm h
  | cons i r ih =>
    intro b va vb h
    cases b with
    | nil =>
      obtain ⟨c, vb⟩ := vb
      rw [go_nil] at vb
      cases vb
      exact absurd (vd_ltr va) h
    | cons j s =>
      rw [cmpA]
      by_cases e : i = j
      · subst e
        rw [if_pos rfl]
        obtain ⟨c, va⟩ := va
        obtain ⟨c2, vb⟩ := vb
        cases es : t.stp i with
        | none => rw [go_none es] at va; cases va
        | some u =>
          rw [go_cons es] at va vb
          exact ih u s ⟨c, va⟩ ⟨c2, vb⟩ (fun e => h (by rw [e]))
      · rw [if_neg e]
        split <;> split <;> decide
theorem cmp_vals (t : W) : ∀ a b, cmpA t a b = -1 ∨ cmpA t a b = 0 ∨ cmpA t a b = 1 := by
  intro a
  induction a generalizing t with
  | nil => intro b; rw [cmp_end]; exact .inr (.inl rfl)
  | cons i r ih =>
    intro b
    cases b with
    | nil => rw [cmp_end2]; exact .inr (.inl rfl)
    | cons j s =>
      rw [cmpA]
      split
      · cases t.stp i with
        | none => exact .inr (.inl rfl)
        | some u => exact ih u s
      · split <;> split
        · exact .inl rfl
        · exact .inr (.inr rfl)
        · exact .inl rfl
        · exact .inr (.inr rfl)
def spOrder (K : PySem.W.Frag) : Sp := fun vs H Q _ => ∃ v t a ns b ms, vs = [v, .ref a, .ref b] ∧ WV K H v t ∧ t.Ok abc ∧ SqT K H a (ns.map V.int) ∧ SqT K H b (ms.map V.int) ∧ Vd t ns ∧ Vd t ms ∧ ∀ H', Same H H' → Q (.int (cmpA t ns ms)) H'
theorem ints_dpT {K : PySem.W.Frag} {H : Hp} {a : Addr} {ns : List Int} (s : SqT K H a (ns.map V.int)) : Dp K H (.ref a) (.tuple (ns.map PyData.int)) := .tup s (ints_dp ns)
theorem sc__law_order : FnScope ["_law_tree_here", "_law_my_one", "_law_my_other"] ["_law_tree_here", "_law_my_one", "_law_my_other"] (defScope s__law_order) := ⟨rfl, rfl, rfl, by decide +kernel, rfl, by decide +kernel, by decide +kernel⟩
theorem ok_order (D : Df K mg "_law_order" s__law_order ["_law_tree_here", "_law_my_one", "_law_my_other"]) (bi : Bi mg) (c_law_ahead : Cal P w K mg base 1 "_law_ahead" ["_law_tree_here", "_law_my_one", "_law_my_other"] (spAhead K)) : Cal P w K mg base 2 "_law_order" ["_law_tree_here", "_law_my_one", "_law_my_other"] (spOrder K) := by
  refine D.ok sc__law_order (fun vs H Q E h => ?_) (fun f cdv A outer s H vs Q E hr h => ?_)
  · obtain ⟨v, t, a, ns, b, ms, rfl, _⟩ := h
    rfl
  obtain ⟨v, t, a, ns, b, ms, rfl, hv, ho, ha, hb, v1, v2, q⟩ := h
  refine ⟨_, (pss_one (ps_ret (pe_ifExp (pt_cmpR (op_eqD hr.units) (pv 1) (pv 2) (nomark _)) pe_int (pe_ifExp (pt_val (pe_own c_law_ahead hr (by omega) (by rfl) (pa_cons (pv 0) (pa_cons (pv 1) (pa_cons (pv 2) pa_nil))))) (pe_un un_neg pe_int) pe_int)))), ?_⟩
  refine ⟨_, rfl, _, rfl, _, _, ints_dpT ha, ints_dpT hb, ints_shaped ns, ints_shaped ms, ?_⟩
  rw [ints_eqvs]
  by_cases h : ns = ms
  · subst h
    rw [decide_eq_true rfl]
    have hq := q H (Same.refl H)
    rw [cmp_self] at hq
    exact ⟨true, rfl, hq⟩
  · rw [decide_eq_false h]
    refine ⟨false, rfl, ?_⟩
    refine ⟨_, rfl, _, rfl, _, rfl, v, t, a, ns, b, ms, rfl, hv, ho, ha, hb, v1, v2, fun H' k => ?_⟩
    have hq := q H' k
    have hne := cmp_ne t ns ms v1 v2 h
    rcases cmp_vals t ns ms with e | e | e
    · rw [e] at hq ⊢
      exact ⟨true, rfl, _, rfl, hq⟩
    · exact absurd e hne
    · rw [e] at hq ⊢
      exact ⟨false, rfl, hq⟩

end
end SW

set_option Elab.async false
set_option linter.all false
set_option maxRecDepth 100000
set_option maxHeartbeats 4000000
namespace SW
open PySem PySem.Spec PyProof.Rows L2
section
variable {P : Program} {w : World} {K : PySem.W.Frag} {mg : Str → Option Value} {base : Heap}
/-! ### _law_spots, also near given addresses -/
/-- addresses for which V holds -/
def AdsP (K : PySem.W.Frag) (H : Hp) (vs : List V) (V0 : List Int → Prop) : Prop := ∀ x ∈ vs, ∃ a ns, x = .ref a ∧ SqT K H a (ns.map V.int) ∧ V0 ns
theorem AdsP.tp {K : PySem.W.Frag} {H H' : Hp} {vs : List V} {V0 : List Int → Prop} (k : Tp H H') (h : AdsP K H vs V0) : AdsP K H' vs V0 := fun x hx => by
  obtain ⟨a, ns, e, s, v⟩ := h x hx
  exact ⟨a, ns, e, k.sq s, v⟩
theorem AdsP.app {K : PySem.W.Frag} {H : Hp} {vs zs : List V} {V0 : List Int → Prop} (h : AdsP K H vs V0) (g : AdsP K H zs V0) : AdsP K H (vs ++ zs) V0 := fun x hx => by
  rcases List.mem_append.mp hx with q | q
  · exact h x q
  · exact g x q
theorem adsP_nil {K : PySem.W.Frag} {H : Hp} {V0 : List Int → Prop} : AdsP K H [] V0 := fun x hx => (List.not_mem_nil hx).elim
theorem adsP_one {K : PySem.W.Frag} {H : Hp} {a : Addr} {ns : List Int} {V0 : List Int → Prop} (s : SqT K H a (ns.map V.int)) (v : V0 ns) : AdsP K H [.ref a] V0 := fun x hx => by
  cases List.mem_singleton.mp hx
  exact ⟨a, ns, rfl, s, v⟩
/-- numbers of endless copies of any size -/
def W.stpX : W → Int → Option W
  | .join ws, i => if 0 ≤ i ∧ i < ws.length then ws[i.toNat]? else none
  | .times w n, i => if 0 ≤ i ∧ i < n then some w else none
  | .right w, i => if 0 ≤ i then some w else none
  | .left w, i => if 0 ≤ i then some w else none
  | _, _ => none
def W.goX : W → List Int → Option W
  | t, [] => some t
  | t, i :: r => match t.stpX i with
    | some u => u.goX r
    | none => none
def VdX (t : W) (ns : List Int) : Prop := ∃ c, t.goX ns = some (.ltr c)
theorem vdX_cons {t u : W} {i : Int} {r : List Int} (h : t.stpX i = some u) (v : VdX u r) : VdX t (i :: r) := by
  obtain ⟨c, v⟩ := v
  exact ⟨c, by rw [W.goX, h]; exact v⟩
theorem stpX_of {t u : W} {i : Int} (h : t.stpX i = some u) (hb : i ≤ big) : t.stp i = some u := by
  cases t with
  | join ws => exact h
  | times w n => exact h
  | right w =>
    have h' : (if 0 ≤ i then some w else none) = some u := h
    split at h'
    · cases h'
      exact stp_right ‹_› hb
    · cases h'
  | left w =>
    have h' : (if 0 ≤ i then some w else none) = some u := h
    split at h'
    · cases h'
      exact stp_left ‹_› hb
    · cases h'
  | emp => cases h
  | ltr c => cases h
  | nam c => cases h
theorem stpX_ok {L : List Str} {t u : W} {i : Int} (o : t.Ok L) (h : t.stpX i = some u) : u.Ok L ∧ u.dep + 1 ≤ t.dep := by
  by_cases hb : i ≤ big
  · exact stp_ok o (stpX_of h hb)
  · cases t with
    | join ws => exact stp_ok o (i := i) h
    | times w n => exact stp_ok o (i := i) h
    | right w =>
      have h' : (if 0 ≤ i then some w else none) = some u := h
      split at h'
      · cases h'
        exact stp_ok o (stp_right (i := 0) (by decide) (by decide))
      · cases h'
    | left w =>
      have h' : (if 0 ≤ i then some w else none) = some u := h
      split at h'
      · cases h'
        exact stp_ok o (stp_left (i := 0) (by decide) (by decide))
      · cases h'
    | emp => cases h
    | ltr c => cases h
    | nam c => cases h
theorem goX_len {L : List Str} : ∀ (ns : List Int) {t u : W}, t.Ok L → t.goX ns = some u → u.dep + ns.length ≤ t.dep
  | [], t, u, o, h => by
    rw [W.goX] at h
    cases h
    exact Nat.le_refl _
  | i :: r, t, u, o, h => by
    rw [W.goX] at h
    cases e : t.stpX i with
    | none => rw [e] at h; cases h
    | some v =>
      rw [e] at h
      have a := stpX_ok o e
      have b := goX_len r a.1 h
      rw [List.length_cons]
      omega
theorem vdX_of : ∀ {ns : List Int} {t : W}, VdX t ns → (∀ i ∈ ns, i ≤ big) → Vd t ns
  | [], t, ⟨c, h⟩, _ => ⟨c, by rw [W.goX] at h; rw [go_nil]; exact h⟩
  | i :: r, t, ⟨c, h⟩, hb => by
    rw [W.goX] at h
    cases e : t.stpX i with
    | none => rw [e] at h; cases h
    | some v =>
      rw [e] at h
      exact vd_cons (stpX_of e (hb i (List.mem_cons_self ..))) (vdX_of ⟨c, h⟩ fun j hj => hb j (List.mem_cons_of_mem _ hj))
theorem lclT {K : PySem.W.Frag} {a : Addr} {xs : List V} {j : Nat} {tt : TT} {te : TE} {σ : L2.St} {H1 : Hp} {D : Addr} {Qd : Hp → Prop} (Pv : Nat → Hp → Prop) (h0 : Pv 0 (upd H1 D (.lst []))) (hl : ∀ i H, i ≤ xs.length → Pv i H → SqL K H a xs)
    (hs : ∀ i x H, xs[i]? = some x → Pv i H → tt (σ.set j (some x)) H fun b H3 => if b = true then te (σ.set j (some x)) H3 fun y H4 => ∃ acc, H4 D = some (.lst acc) ∧ acc.length < sizeLine ∧ Pv (i + 1) (upd H4 D (.lst (acc ++ [y]))) else Pv (i + 1) H3) (hd : ∀ H, Pv xs.length H → Qd H) :
    ∃ W : Nat → Nat → Hp → Prop, (∃ m, W 0 m (upd H1 D (.lst []))) ∧ ∀ i m H, W i m H →
      ((Itl K a).stop i H ∧ Qd H) ∨ ((Itl K a).go i H ∧ ∃ Nx : Hp → Prop, (∀ H', Nx H' → ∃ m', m' < m ∧ W (i + 1) m' H') ∧ ∀ x H', (Itl K a).yld i H x H' → gName j x (wipe σ [j]) H' fun σ2 H2 => wipe σ2 [j] = wipe σ [j] ∧ tt σ2 H2 fun b H3 =>
        if b = true then te σ2 H3 fun y H4 => ∃ acc, H4 D = some (.lst acc) ∧ acc.length < sizeLine ∧ Nx (upd H4 D (.lst (acc ++ [y]))) else Nx H3) := by
  refine lc_list Pv h0 hl (fun i x H hi p => ?_) hd
  have e1 : wipe σ [j] = σ.set j none := rfl
  have e2 : (wipe σ [j]).set j (some x) = σ.set j (some x) := by rw [e1, List.set_set]
  unfold gName
  rw [e2]
  refine ⟨?_, hs i x H hi p⟩
  show (σ.set j (some x)).set j none = σ.set j none
  rw [List.set_set]
theorem none_same {H H1 : Hp} {a : Addr} (S : Same H H1) (h : H1 a = none) : H a = none := Option.eq_none_iff_forall_ne_some.mpr fun o q => by rw [S _ _ q] at h; cases h
/-- what is near within a part: the rest of those addresses that begin with the number -/
theorem near_lc {K : PySem.W.Frag} {b D : Addr} {nv : List V} {jv : Nat} {m : Int} {σ : L2.St} {H1 : Hp} {Qd : Hp → Prop} {t u : W} (hL : t.isL = false) (hjv : ∀ x, (σ.set 10 (some x))[jv]? = some (some (.int m))) (h10 : ∀ x, (σ.set 10 (some x))[10]? = some (some x)) (hst : ∀ u', t.stp m = some u' → u' = u)
    (hb : SqL K H1 b nv) (hn : nv.length ≤ 1) (hv : AdsP K H1 nv (Vd t)) (hD : H1 D = none) (q : ∀ acc H3, H3 D = some (.lst acc) → acc.length ≤ 1 → AdsP K H3 acc (Vd u) → Same H1 H3 → Qd H3) :
    ∃ W : Nat → Nat → Hp → Prop, (∃ m, W 0 m (upd H1 D (.lst []))) ∧ ∀ i m H, W i m H →
      ((Itl K b).stop i H ∧ Qd H) ∨ ((Itl K b).go i H ∧ ∃ Nx : Hp → Prop, (∀ H', Nx H' → ∃ m', m' < m ∧ W (i + 1) m' H') ∧ ∀ x H', (Itl K b).yld i H x H' → gName 10 x (wipe σ [10]) H' fun σ2 H2 => wipe σ2 [10] = wipe σ [10] ∧ tTest (tOp rEq (tOp (rIxT K) (tVar 10) (tC (.int 0))) (tVar jv)) σ2 H2 fun b H3 =>
        if b = true then (tSl (rSlA K) (tVar 10) (tPart (tC (.int 1))) tNoPart) σ2 H3 fun y H4 => ∃ acc, H4 D = some (.lst acc) ∧ acc.length < sizeLine ∧ Nx (upd H4 D (.lst (acc ++ [y]))) else Nx H3) := by
  refine lclT (xs := nv) (fun i H3 => ∃ acc, H3 D = some (.lst acc) ∧ acc.length ≤ i ∧ AdsP K H3 acc (Vd u) ∧ Same H1 H3) ?_ ?_ ?_ ?_
  · exact ⟨[], upd_same, Nat.le_refl _, adsP_nil, same_new hD⟩
  · rintro i H3 _ ⟨acc, _, _, _, k3⟩
    exact k3.seq hb
  · rintro i x H3 hx ⟨acc, hA, hal, hads, k3⟩
    have hi : i < nv.length := (List.getElem?_eq_some_iff.mp hx).1
    obtain ⟨a, ns, rfl, s, hvd⟩ := hv x (List.mem_of_getElem? hx)
    obtain ⟨j, r, u', rfl, es, vu⟩ := vd_inv hvd hL
    have s3 := (tp_same k3).sq s
    refine ⟨_, h10 _, a, _, 0, .int j, rfl, rfl, s3, at_of (j := 0) (by omega) rfl, _, hjv _, rfl, _, rfl, ite2 (fun hc => ?_) (fun hc => ⟨acc, hA, by omega, hads, k3⟩)⟩
    have hc' : V.int j = V.int m := of_decide_eq_true hc
    cases hc'
    refine ⟨_, h10 _, 1, rfl, sl_suf (i := 1) (k := 1) rfl s3 (fun b4 H4 hb4 k4 => ?_)⟩
    have hA4 := k4 _ _ hA
    refine ⟨acc, hA4, ?_, acc ++ [.ref b4], upd_same, ?_, ?_, ?_⟩
    · exact Nat.lt_of_le_of_lt (show acc.length ≤ 1 by omega) (by decide)
    · rw [List.length_append]
      show acc.length + 1 ≤ i + 1
      omega
    · refine AdsP.tp (tp_set hA4) (AdsP.app (AdsP.tp (tp_same k4) hads) (adsP_one hb4 ?_))
      rw [← hst u' es]
      exact vu
    · intro b' o hb
      rw [upd_ne (ne_of_none hb hD)]
      exact k4 _ _ (k3 _ _ hb)
  · rintro H3 ⟨acc, hA, hal, hads, k3⟩
    exact q acc H3 hA (by omega) hads k3
theorem spotsX_lc {K : PySem.W.Frag} {p D : Addr} {zs : List V} {jv : Nat} {m : Int} {σ : L2.St} {H1 : Hp} {Qd : Hp → Prop} {t u : W} (hjv : ∀ x, (σ.set 10 (some x))[jv]? = some (some (.int m))) (h10 : ∀ x, (σ.set 10 (some x))[10]? = some (some x)) (hst : t.stpX m = some u)
    (hp : SqL K H1 p zs) (hz : AdsP K H1 zs (VdX u)) (ou : u.Ok abc) (du : u.dep ≤ 100) (hD : H1 D = none) (hsz : zs.length < 10000000) (q : ∀ acc H3, H3 D = some (.lst acc) → acc.length = zs.length → AdsP K H3 acc (VdX t) → Same H1 H3 → Qd H3) :
    ∃ W : Nat → Nat → Hp → Prop, (∃ m, W 0 m (upd H1 D (.lst []))) ∧ ∀ i m H, W i m H →
      ((Itl K p).stop i H ∧ Qd H) ∨ ((Itl K p).go i H ∧ ∃ Nx : Hp → Prop, (∀ H', Nx H' → ∃ m', m' < m ∧ W (i + 1) m' H') ∧ ∀ x H', (Itl K p).yld i H x H' → gName 10 x (wipe σ [10]) H' fun σ2 H2 => wipe σ2 [10] = wipe σ [10] ∧ tYes σ2 H2 fun b H3 =>
        if b = true then (tOp (rCatT K) (tTup (tCons (tVar jv) tNil)) (tVar 10)) σ2 H3 fun y H4 => ∃ acc, H4 D = some (.lst acc) ∧ acc.length < sizeLine ∧ Nx (upd H4 D (.lst (acc ++ [y]))) else Nx H3) := by
  refine lcl (xs := zs) (fun i H3 => ∃ acc, H3 D = some (.lst acc) ∧ acc.length = i ∧ AdsP K H3 acc (VdX t) ∧ Same H1 H3) ?_ ?_ ?_ ?_
  · exact ⟨[], upd_same, rfl, adsP_nil, same_new hD⟩
  · rintro i H3 _ ⟨acc, _, _, _, k3⟩
    exact k3.seq hp
  · rintro i x H3 hx ⟨acc, hA, hal, hads, k3⟩
    have hi : i < zs.length := (List.getElem?_eq_some_iff.mp hx).1
    obtain ⟨a, ns, rfl, s, hvd⟩ := hz x (List.mem_of_getElem? hx)
    have hns : ns.length ≤ 1000 := by
      obtain ⟨c, hg⟩ := hvd
      have := goX_len _ ou hg
      omega
    refine ⟨_, hjv _, (by show 1 ≤ sizeLine; decide), fun p2 hp2 => ⟨_, h10 _, ?_⟩⟩
    refine cat_one (SqT.of upd_same) ((tp_new hp2).sq ((tp_same k3).sq s)) hns (fun p4 H4 hs4 k4 => ?_)
    have k34 : Same H3 H4 := (same_new hp2).trans k4
    have hA4 := k34 _ _ hA
    refine ⟨acc, hA4, ?_, acc ++ [.ref p4], upd_same, ?_, ?_, ?_⟩
    · rw [hal]
      exact Nat.lt_of_lt_of_le hi (Nat.le_trans (Nat.le_of_lt hsz) (by decide))
    · rw [List.length_append, hal]; rfl
    · refine AdsP.tp (tp_set hA4) (AdsP.app (AdsP.tp (tp_same k34) hads) ?_)
      intro x hx
      cases List.mem_singleton.mp hx
      exact ⟨p4, m :: ns, rfl, hs4, vdX_cons hst hvd⟩
    · intro b' o hb
      rw [upd_ne (ne_of_none hb hD)]
      exact k34 _ _ (k3 _ _ hb)
  · rintro H3 ⟨acc, hA, hal, hads, k3⟩
    exact q acc H3 hA hal hads k3
def spSpotsN (K : PySem.W.Frag) (n : Nat) : Sp := fun vs H Q _ => ∃ v t b nv, vs = [v, .ref b, .int 1] ∧ WV K H v t ∧ t.Ok abc ∧ t.dep ≤ n ∧ n ≤ 6 ∧ SqL K H b nv ∧ nv.length ≤ 1 ∧ AdsP K H nv (Vd t) ∧ ∀ p xs H', H' p = some (.lst xs) → H p = none → xs.length ≤ 10 ^ t.dep → AdsP K H' xs (VdX t) → Same H H' → Q (.ref p) H'
theorem sc__law_spots : FnScope ["_law_tree_here", "_law_near", "_law_reach", "_law_found", "_law_at", "_law_inside", "_law_ends", "_law_numbers", "_law_end", "_law_number", "_law_spot_here"] ["_law_tree_here", "_law_near", "_law_reach"] (defScope s__law_spots) := ⟨rfl, rfl, rfl, by decide +kernel, rfl, by decide +kernel, by decide +kernel⟩
theorem ok_spotsN1 {n : Nat} (D : Df K mg "_law_spots" s__law_spots ["_law_tree_here", "_law_near", "_law_reach"]) (bi : Bi mg) (c_law_spots : Cal P w K mg base n "_law_spots" ["_law_tree_here", "_law_near", "_law_reach"] (spSpotsN K n)) :
    Cal P w K mg base (n + 1) "_law_spots" ["_law_tree_here", "_law_near", "_law_reach"] (spSpotsN K (n + 1)) := by
  refine D.ok sc__law_spots (fun vs H Q E h => ?_) (fun f cdv A outer s H vs Q E hr h => ?_)
  · obtain ⟨v, t, b, nv, rfl, _⟩ := h
    rfl
  obtain ⟨v, t, b, nv, rfl, hv, ho, hd, hn, hb, hnvl, hnv, q⟩ := h
  refine ⟨_, (C8.pss_cut (ps_if (pt_cmpR op_eq (pe_ix ix_tup (pv 0) pe_int (fun _ _ => rfl)) pe_str (nomark _)) (pss_one (ps_ret (pe_lst (pa_cons (pe_tup pa_nil) pa_nil)))) pss_nil)
      (C8.pss_cut (ps_if (pt_cmpR op_eq (pe_ix ix_tup (pv 0) pe_int (fun _ _ => rfl)) pe_str (nomark _)) (pss_one (ps_ret (pe_lst pa_nil))) pss_nil)
      (pss_cons (ps_set (i := 3) sc__law_spots.nd rfl (.inl rfl) (pe_lst pa_nil))
      (C8.pss_cut (ps_if (pt_cmpR op_eq (pe_ix ix_tup (pv 0) pe_int (fun _ _ => rfl)) pe_str (nomark _)) (pss_cons (ps_for PassesOwn.never rfl (pi_range1 (by rfl) bi.range (pa_cons (pe_callB call_len_seq (by rfl) bi.len PySem.boot_len (pa_cons (pe_ix ix_tup (pv 0) pe_int (fun _ _ => rfl)) pa_nil)) pa_nil)) (pg_name (i := 4) sc__law_spots.nd rfl (.inr rfl)) (pss_cons (ps_setLc (i := 5) (own := [("_law_spot_here", 10)]) (g := gName 10) (tt := tTest (tOp rEq (tOp (rIxT K) (tVar 10) (tC (.int 0))) (tVar 4))) (te := tSl (rSlA K) (tVar 10) (tPart (tC (.int 1))) tNoPart) rfl sc__law_spots.nd rfl rfl (sw_true rfl rfl rfl (by decide +kernel)) (pi_list (pv 1)) (blkOk_by (N := ["_law_tree_here", "_law_near", "_law_reach", "_law_found", "_law_at", "_law_inside", "_law_ends", "_law_numbers", "_law_end", "_law_number", "_law_spot_here"]) (sc := defScope s__law_spots) (by decide +kernel)) (fun _ _ _ _ _ => (pg_name (i := 10) sc__law_spots.nd rfl (.inl rfl))) (fun _ _ _ _ _ => (pts_one (pt_cmpR op_eq (pe_ix ix_tup (pv 10) pe_int (fun _ _ => rfl)) (pv 4) (nomark _)))) (fun _ _ _ _ _ => (pe_slice sl_tupA (pv 10) (po_some pe_int) po_none)))
      (pss_one (ps_set (i := 3) sc__law_spots.nd rfl (.inl rfl) (pe_op op_cat (pv 3) (pe_lc (own := [("_law_spot_here", 10)]) (g := gName 10) (tt := tYes) (te := tOp (rCatT K) (tTup (tCons (tVar 4) tNil)) (tVar 10)) rfl sc__law_spots.nd (pi_list (pe_own c_law_spots hr (by omega) (by rfl) (pa_cons (pe_ix ix_tup (pe_ix ix_tup (pv 0) pe_int (fun _ _ => rfl)) (pv 4) (fun _ _ => rfl)) (pa_cons (pv 5) (pa_cons (pv 2) pa_nil))))) (blkOk_by (N := ["_law_tree_here", "_law_near", "_law_reach", "_law_found", "_law_at", "_law_inside", "_law_ends", "_law_numbers", "_law_end", "_law_number", "_law_spot_here"]) (sc := defScope s__law_spots) (by decide +kernel)) (fun _ _ _ _ _ => (pg_name (i := 10) sc__law_spots.nd rfl (.inl rfl))) (fun _ _ _ _ _ => pts_nil) (fun _ _ _ _ _ => (pe_op op_catT (pe_tup (pa_cons (pv 4) pa_nil)) (pv 10)))))))))
      (pss_one (ps_ret (pv 3)))) pss_nil)
      (C8.pss_cut (ps_set (i := 6) sc__law_spots.nd rfl (.inl rfl) (pe_op op_cat (pe_op op_cat (pe_lst (pa_cons pe_int pa_nil)) (pe_lc (own := [("_law_spot_here", 10)]) (g := gName 10) (tt := tYes) (te := tOp (rIxT K) (tVar 10) (tC (.int 0))) rfl sc__law_spots.nd (pi_list (pv 1)) (blkOk_by (N := ["_law_tree_here", "_law_near", "_law_reach", "_law_found", "_law_at", "_law_inside", "_law_ends", "_law_numbers", "_law_end", "_law_number", "_law_spot_here"]) (sc := defScope s__law_spots) (by decide +kernel)) (fun _ _ _ _ _ => (pg_name (i := 10) sc__law_spots.nd rfl (.inl rfl))) (fun _ _ _ _ _ => pts_nil) (fun _ _ _ _ _ => (pe_ix ix_tup (pv 10) pe_int (fun _ _ => rfl))))) (pe_ifExp (pt_cmpR op_eq (pe_ix ix_tup (pv 0) pe_int (fun _ _ => rfl)) pe_str (nomark _)) (pe_lst (pa_cons (pe_op op_sub (pe_ix ix_tup (pv 0) pe_int (fun _ _ => rfl)) pe_int) pa_nil)) (pe_lst pa_nil))))
      (pss_cons (ps_set (i := 7) sc__law_spots.nd rfl (.inl rfl) (pe_lst pa_nil))
      (pss_cons (ps_for PassesOwn.never rfl (pi_list (pv 6)) (pg_name (i := 8) sc__law_spots.nd rfl (.inl rfl)) (pss_one (ps_for PassesOwn.never rfl (pi_rgW (by rfl) bi.range (pa_cons (pe_op op_sub (pv 8) (pv 2)) (pa_cons (pe_op op_add (pe_op op_add (pv 8) (pv 2)) pe_int) pa_nil))) (pg_name (i := 9) sc__law_spots.nd rfl (.inr rfl)) (pss_one (ps_if (PW.pt (pw_and (pt_cmpR op_ge (pv 9) pe_int (nomark _)) (pw_and (pt_cmpR op_notIn_seq (pv 9) (pv 7) (by rfl)) (pw_and1 (PW.pt (pw_or (pt_cmpR op_ne (pe_ix ix_tup (pv 0) pe_int (fun _ _ => rfl)) pe_str (nomark _)) (pw_or1 (pt_cmpR op_lt (pv 9) (pe_ix ix_tup (pv 0) pe_int (fun _ _ => rfl)) (nomark _))))))))) (pss_one (ps_expr (pe_bm PySem.F.plainAttrs_list PySem.F.slot_list_append PySem.F.type_list_append mt_append (pv 7) (pa_cons (pv 9) pa_nil)))) pss_nil)))))
      (pss_cons (ps_for PassesOwn.never rfl (pi_list (pe_callB cr_sortedI (by rfl) bi.sorted (by decide +kernel) (pa_cons (pv 7) pa_nil))) (pg_name (i := 9) sc__law_spots.nd rfl (.inr rfl)) (pss_cons (ps_setLc (i := 5) (own := [("_law_spot_here", 10)]) (g := gName 10) (tt := tTest (tOp rEq (tOp (rIxT K) (tVar 10) (tC (.int 0))) (tVar 9))) (te := tSl (rSlA K) (tVar 10) (tPart (tC (.int 1))) tNoPart) rfl sc__law_spots.nd rfl rfl (sw_true rfl rfl rfl (by decide +kernel)) (pi_list (pv 1)) (blkOk_by (N := ["_law_tree_here", "_law_near", "_law_reach", "_law_found", "_law_at", "_law_inside", "_law_ends", "_law_numbers", "_law_end", "_law_number", "_law_spot_here"]) (sc := defScope s__law_spots) (by decide +kernel)) (fun _ _ _ _ _ => (pg_name (i := 10) sc__law_spots.nd rfl (.inl rfl))) (fun _ _ _ _ _ => (pts_one (pt_cmpR op_eq (pe_ix ix_tup (pv 10) pe_int (fun _ _ => rfl)) (pv 9) (nomark _)))) (fun _ _ _ _ _ => (pe_slice sl_tupA (pv 10) (po_some pe_int) po_none)))
      (pss_one (ps_set (i := 3) sc__law_spots.nd rfl (.inl rfl) (pe_op op_cat (pv 3) (pe_lc (own := [("_law_spot_here", 10)]) (g := gName 10) (tt := tYes) (te := tOp (rCatT K) (tTup (tCons (tVar 9) tNil)) (tVar 10)) rfl sc__law_spots.nd (pi_list (pe_own c_law_spots hr (by omega) (by rfl) (pa_cons (pe_ix ix_tup (pv 0) pe_int (fun _ _ => rfl)) (pa_cons (pv 5) (pa_cons (pv 2) pa_nil))))) (blkOk_by (N := ["_law_tree_here", "_law_near", "_law_reach", "_law_found", "_law_at", "_law_inside", "_law_ends", "_law_numbers", "_law_end", "_law_number", "_law_spot_here"]) (sc := defScope s__law_spots) (by decide +kernel)) (fun _ _ _ _ _ => (pg_name (i := 10) sc__law_spots.nd rfl (.inl rfl))) (fun _ _ _ _ _ => pts_nil) (fun _ _ _ _ _ => (pe_op op_catT (pe_tup (pa_cons (pv 9) pa_nil)) (pv 10)))))))))
      (pss_one (ps_ret (pv 3))))))))))), ?_⟩
  refine ⟨fun σ' H' => σ' = [some v, some (.ref b), some (.int 1), none, none, none, none, none, none, none, none] ∧ H' = H ∧ t.isL = false, ?_, ?_⟩
  · have at_ := hv.at
    cases at_ with
    | nam e s =>
      unfold W.Ok at ho
      exact ho.elim
    | ltr e s =>
      cases e
      refine ⟨_, rfl, _, _, _, _, rfl, rfl, s, rfl, rfl, eq_yes rfl ?_⟩
      refine ⟨Nat.zero_le _, fun p hp => ⟨(by show 1 ≤ sizeLine; decide), fun p2 hp2 => ?_⟩⟩
      have S1 : Same H (upd H p (.tup [])) := same_new hp
      refine q p2 [.ref p] _ upd_same (none_same S1 hp2) (by rw [W.dep]; show 1 ≤ 10 ^ 1; decide) ?_ (S1.trans (same_new hp2))
      intro x hx
      cases List.mem_singleton.mp hx
      exact ⟨p, [], rfl, (tp_new hp2).sq (SqT.of upd_same), _, by rw [W.goX]⟩
    | emp e s =>
      cases e
      exact ⟨_, rfl, _, _, _, _, rfl, rfl, s, rfl, rfl, eq_no (by decide +kernel) ⟨rfl, rfl, rfl⟩⟩
    | join e s s2 hw =>
      cases e
      exact ⟨_, rfl, _, _, _, _, rfl, rfl, s, rfl, rfl, eq_no (by decide +kernel) ⟨rfl, rfl, rfl⟩⟩
    | times e s hx =>
      cases e
      exact ⟨_, rfl, _, _, _, _, rfl, rfl, s, rfl, rfl, eq_no (by decide +kernel) ⟨rfl, rfl, rfl⟩⟩
    | right e s hx =>
      cases e
      exact ⟨_, rfl, _, _, _, _, rfl, rfl, s, rfl, rfl, eq_no (by decide +kernel) ⟨rfl, rfl, rfl⟩⟩
    | left e s hx =>
      cases e
      exact ⟨_, rfl, _, _, _, _, rfl, rfl, s, rfl, rfl, eq_no (by decide +kernel) ⟨rfl, rfl, rfl⟩⟩
  rintro σ' H' ⟨rfl, rfl, hL⟩
  refine ⟨fun σ' H1 => σ' = [some v, some (.ref b), some (.int 1), none, none, none, none, none, none, none, none] ∧ H1 = H' ∧ t ≠ .emp, ?_, ?_⟩
  · have at_ := hv.at
    cases at_ with
    | nam e s =>
      unfold W.Ok at ho
      exact ho.elim
    | ltr e s => cases hL
    | emp e s =>
      cases e
      refine ⟨_, rfl, _, _, _, _, rfl, rfl, s, rfl, rfl, eq_yes rfl ?_⟩
      exact ⟨Nat.zero_le _, fun p hp => q p [] _ upd_same hp (Nat.zero_le _) adsP_nil (same_new hp)⟩
    | join e s s2 hw =>
      cases e
      exact ⟨_, rfl, _, _, _, _, rfl, rfl, s, rfl, rfl, eq_no (by decide +kernel) ⟨rfl, rfl, fun h => nomatch h⟩⟩
    | times e s hx =>
      cases e
      exact ⟨_, rfl, _, _, _, _, rfl, rfl, s, rfl, rfl, eq_no (by decide +kernel) ⟨rfl, rfl, fun h => nomatch h⟩⟩
    | right e s hx =>
      cases e
      exact ⟨_, rfl, _, _, _, _, rfl, rfl, s, rfl, rfl, eq_no (by decide +kernel) ⟨rfl, rfl, fun h => nomatch h⟩⟩
    | left e s hx =>
      cases e
      exact ⟨_, rfl, _, _, _, _, rfl, rfl, s, rfl, rfl, eq_no (by decide +kernel) ⟨rfl, rfl, fun h => nomatch h⟩⟩
  rintro σ' H1 ⟨rfl, rfl, hE⟩
  refine ⟨Nat.zero_le _, fun pf hpf => ?_⟩
  have S0 : Same H1 (upd H1 pf (.lst [])) := same_new hpf
  generalize hH0 : upd H1 pf (.lst []) = H0 at S0
  have hF0 : H0 pf = some (.lst []) := by rw [← hH0]; exact upd_same
  refine ⟨fun σ' H2 => σ' = [some v, some (.ref b), some (.int 1), some (.ref pf), none, none, none, none, none, none, none] ∧ H2 = H0 ∧ ∀ ws, t ≠ .join ws, ?_, ?_⟩
  · have at_ := (WV.tp (tp_same S0) _ hv).at
    cases at_ with
    | nam e s =>
      unfold W.Ok at ho
      exact ho.elim
    | ltr e s => cases hL
    | emp e s => exact absurd rfl hE
    | times e s hx =>
      cases e
      exact ⟨_, rfl, _, _, _, _, rfl, rfl, s, rfl, rfl, eq_no (by decide +kernel) ⟨rfl, rfl, fun ws h => nomatch h⟩⟩
    | right e s hx =>
      cases e
      exact ⟨_, rfl, _, _, _, _, rfl, rfl, s, rfl, rfl, eq_no (by decide +kernel) ⟨rfl, rfl, fun ws h => nomatch h⟩⟩
    | left e s hx =>
      cases e
      exact ⟨_, rfl, _, _, _, _, rfl, rfl, s, rfl, rfl, eq_no (by decide +kernel) ⟨rfl, rfl, fun ws h => nomatch h⟩⟩
    | @join a b' xs ws e s s2 hw =>
      cases e
      have hl := hw.length
      have ho' := ho
      unfold W.Ok at ho'
      rw [W.dep] at hd
      refine ⟨_, rfl, _, _, _, _, rfl, rfl, s, rfl, rfl, eq_yes rfl ?_⟩
      refine ⟨_, rfl, _, _, _, _, rfl, rfl, s, rfl, b', xs, rfl, .inr s2, _, rfl, by omega, by omega, for_range (n := xs.length) (fun i σ' H' => ∃ pg acc y4 y5, σ' = [some (.ref a), some (.ref b), some (.int 1), some (.ref pg), y4, y5, none, none, none, none, none] ∧
        H' pg = some (.lst acc) ∧ H1 pg = none ∧ acc.length ≤ i * 10 ^ W.deps ws ∧ AdsP K H' acc (VdX (.join ws)) ∧ Same H0 H') ?_ ?_ ?_⟩
      · exact ⟨pf, [], none, none, rfl, hF0, hpf, Nat.zero_le _, adsP_nil, Same.refl H0⟩
      · rintro i σ' H2 hi ⟨pg, acc, y4, y5, rfl, hA, hpg, hal, hads, S2⟩
        have hgx : xs[i]? = some xs[i] := List.getElem?_eq_getElem hi
        obtain ⟨u, eu, hu⟩ := hw.get hgx
        have mu := List.mem_of_getElem? eu
        have du := W.deps_mem mu
        have S02 : Same H1 H2 := S0.trans S2
        have d0 : u.dep ≤ 6 := by omega
        -- what is near
        refine ⟨_, rfl, b, rfl, ⟨nv, S02.seq hb⟩, fun Dd hD => ?_⟩
        refine near_lc (t := .join ws) (u := u) (m := 0 + (i : Int)) rfl (fun _ => rfl) (fun _ => rfl) (fun u' h => by rw [Int.zero_add, stp_join eu] at h; exact (Option.some.inj h).symm) (S02.seq hb) hnvl (AdsP.tp (tp_same S02) hnv) hD (fun accN H3 hAN hNl hNv S3 => ?_)
        have t3 := tp_same (S2.trans S3)
        refine ⟨_, rfl, _, rfl, _, _, _, _, rfl, rfl, t3.sq s, rfl, _, rfl, _, _, _, _, rfl, rfl, t3.sq s2, at_of (j := i) (by omega) hgx, _, rfl, _, rfl, ?_⟩
        refine ⟨_, u, Dd, accN, rfl, WV.tp t3 _ hu, W.oks_mem mu ho'.2, by omega, by omega, SqL.of hAN, hNl, hNv, fun p zs H4 hp hpn hzl hzs S4 => ?_⟩
        refine ⟨p, rfl, ⟨zs, SqL.of hp⟩, fun D2 hD2 => ?_⟩
        have hz6 : zs.length ≤ 10 ^ 6 := Nat.le_trans hzl (Nat.pow_le_pow_right (by decide) d0)
        refine spotsX_lc (m := 0 + (i : Int)) (t := .join ws) (u := u) (fun _ => rfl) (fun _ => rfl) (by rw [Int.zero_add]; exact stp_join eu) (SqL.of hp) hzs (W.oks_mem mu ho'.2) (by omega) hD2 (Nat.lt_of_le_of_lt hz6 (by decide)) (fun acc2 H5 hA2 hal2 hads2 S5 => ?_)
        have SS : Same H2 H5 := S3.trans (S4.trans S5)
        have hA5 := SS _ _ hA
        have hp10 : 10 ^ u.dep ≤ 10 ^ W.deps ws := Nat.pow_le_pow_right (by decide) du
        have hp6 : 10 ^ W.deps ws ≤ 10 ^ 5 := Nat.pow_le_pow_right (by decide) (by omega)
        have hi3 : i * 10 ^ W.deps ws ≤ 3 * 10 ^ 5 := Nat.mul_le_mul (by omega) hp6
        have hx6 : (10 : Nat) ^ 6 = 1000000 := by decide
        have hx5 : (10 : Nat) ^ 5 = 100000 := by decide
        refine ⟨pg, D2, acc, acc2, rfl, rfl, hA5, hA2, ?_, fun p6 hp6' => ?_⟩
        · rw [hal2]
          exact Nat.le_trans (show acc.length + zs.length ≤ 2000000 by omega) (by decide)
        have S6 : Same H5 (upd H5 p6 (.lst (acc ++ acc2))) := same_new hp6'
        refine ⟨p6, acc ++ acc2, _, _, rfl, upd_same, none_same (S0.trans (S2.trans SS)) hp6', ?_, AdsP.app (AdsP.tp (tp_same (SS.trans S6)) hads) (AdsP.tp (tp_same S6) hads2), S2.trans (SS.trans S6)⟩
        rw [List.length_append, hal2, Nat.succ_mul]
        omega
      · rintro σ' H2 ⟨pg, acc, y4, y5, rfl, hA, hpg, hal, hads, S2⟩
        refine ⟨_, rfl, q pg acc H2 hA hpg ?_ hads (S0.trans S2)⟩
        rw [W.dep, Nat.pow_succ]
        refine Nat.le_trans hal ?_
        rw [Nat.mul_comm]
        exact Nat.mul_le_mul_left _ (by omega)
  rintro σ' H2 ⟨rfl, rfl, hj⟩
  -- the ends
  refine ⟨fun σ' H3 => ∃ (pe : Addr) (ends : List Int), σ' = [some v, some (.ref b), some (.int 1), some (.ref pf), none, none, some (.ref pe), none, none, none, none] ∧ SqL K H3 pe (ends.map V.int) ∧ ends.length ≤ 3 ∧ Same H2 H3, ?_, ?_⟩
  · refine ⟨(by show 1 ≤ sizeLine; decide), fun p1 hp1 => ?_⟩
    have S1 : Same H2 (upd H2 p1 (.lst [.int 0])) := same_new hp1
    have hb1 := S1.seq (S0.seq hb)
    have hnv1 := AdsP.tp (tp_same (S0.trans S1)) hnv
    refine ⟨_, rfl, b, rfl, ⟨nv, hb1⟩, fun Dd hD => ?_⟩
    refine lcl (xs := nv) (fun i H3 => ∃ es : List Int, H3 Dd = some (.lst (es.map V.int)) ∧ es.length = i ∧ Same (upd H2 p1 (.lst [.int 0])) H3) ?_ ?_ ?_ ?_
    · exact ⟨[], upd_same, rfl, same_new hD⟩
    · rintro i H3 _ ⟨es, _, _, k3⟩
      exact k3.seq hb1
    · rintro i x H3 hx ⟨es, hA, hal, k3⟩
      have hi : i < nv.length := (List.getElem?_eq_some_iff.mp hx).1
      obtain ⟨a, ns, rfl, s, hvd⟩ := hnv1 x (List.mem_of_getElem? hx)
      obtain ⟨j, r, u', rfl, es', vu⟩ := vd_inv hvd hL
      refine ⟨_, rfl, a, _, 0, .int j, rfl, rfl, (tp_same k3).sq s, at_of (j := 0) (by omega) rfl, _, hA, ?_, es ++ [j], ?_, ?_, ?_⟩
      · rw [List.length_map, hal]
        exact Nat.lt_of_le_of_lt (show i ≤ 1 by omega) (by decide)
      · rw [upd_same, List.map_append]
        rfl
      · rw [List.length_append, hal]
        rfl
      · intro b' o hb'
        rw [upd_ne (ne_of_none hb' hD)]
        exact k3 _ _ hb'
    · rintro H3 ⟨es, hA, hal, k3⟩
      have S3 := S1.trans k3
      have hsz1 : 1 + es.length ≤ sizeLine := Nat.le_trans (show 1 + es.length ≤ 10 by omega) (by decide)
      refine ⟨p1, Dd, _, _, rfl, rfl, k3 _ _ upd_same, hA, (by rw [List.length_map]; exact hsz1), fun p2 hp2 => ?_⟩
      have S4 := S3.trans (same_new (o := .lst ([.int 0] ++ es.map V.int)) hp2)
      have at_ := (WV.tp (tp_same (S0.trans S4)) _ hv).at
      have fin : ∀ (tl : List Int) (p3 p4 : Addr) (H5 H6 : Hp), tl.length ≤ 1 → H5 = upd (upd H3 p2 (.lst ([.int 0] ++ es.map V.int))) p3 (.lst (tl.map V.int)) → (upd H3 p2 (.lst ([.int 0] ++ es.map V.int))) p3 = none → H5 p4 = none → H6 = upd H5 p4 (.lst (([.int 0] ++ es.map V.int) ++ tl.map V.int)) →
          ∃ (pe : Addr) (ends : List Int), ([some v, some (.ref b), some (.int 1), some (.ref pf), none, none, some (.ref p4), none, none, none, none] : L2.St) = [some v, some (.ref b), some (.int 1), some (.ref pf), none, none, some (.ref pe), none, none, none, none] ∧ SqL K H6 pe (ends.map V.int) ∧ ends.length ≤ 3 ∧ Same H2 H6 := by
        intro tl p3 p4 H5 H6 htl e5 hp3 hp4 e6
        subst e5 e6
        refine ⟨p4, ([0] ++ es) ++ tl, rfl, ?_, ?_, (S4.trans (same_new hp3)).trans (same_new hp4)⟩
        · rw [List.map_append, List.map_append]
          exact SqL.of upd_same
        · rw [List.length_append, List.length_append]
          show 1 + es.length + tl.length ≤ 3
          omega
      have hszn : ∀ tl : List Int, tl.length ≤ 1 → ([V.int 0] ++ es.map V.int).length + (tl.map V.int).length ≤ sizeLine := fun tl h => by
        rw [List.length_append, List.length_map, List.length_map]
        exact Nat.le_trans (show 1 + es.length + tl.length ≤ 10 by omega) (by decide)
      cases at_ with
      | nam e s =>
        unfold W.Ok at ho
        exact ho.elim
      | ltr e s => cases hL
      | emp e s => exact absurd rfl hE
      | join e s s2 hw => exact absurd rfl (hj _)
      | @times a x u n' e s hx =>
        cases e
        refine ⟨_, rfl, _, _, _, _, rfl, rfl, s, rfl, rfl, eq_yes rfl ?_⟩
        refine ⟨_, rfl, _, _, _, _, rfl, rfl, s, rfl, _, _, rfl, rfl, (by show 1 ≤ sizeLine; decide), fun p3 hp3 => ?_⟩
        refine ⟨p2, p3, _, _, rfl, rfl, by rw [upd_ne (ne_of_none upd_same hp3)]; exact upd_same, upd_same, hszn [n' - 1] (by show 1 ≤ 1; decide), fun p4 hp4 => ?_⟩
        exact fin [n' - 1] p3 p4 _ _ (by show 1 ≤ 1; decide) rfl hp3 hp4 rfl
      | right e s hx =>
        cases e
        refine ⟨_, rfl, _, _, _, _, rfl, rfl, s, rfl, rfl, eq_no (by decide +kernel) ?_⟩
        refine ⟨Nat.zero_le _, fun p3 hp3 => ?_⟩
        refine ⟨p2, p3, _, _, rfl, rfl, by rw [upd_ne (ne_of_none upd_same hp3)]; exact upd_same, upd_same, hszn [] (Nat.zero_le _), fun p4 hp4 => ?_⟩
        exact fin [] p3 p4 _ _ (Nat.zero_le _) rfl hp3 hp4 rfl
      | left e s hx =>
        cases e
        refine ⟨_, rfl, _, _, _, _, rfl, rfl, s, rfl, rfl, eq_no (by decide +kernel) ?_⟩
        refine ⟨Nat.zero_le _, fun p3 hp3 => ?_⟩
        refine ⟨p2, p3, _, _, rfl, rfl, by rw [upd_ne (ne_of_none upd_same hp3)]; exact upd_same, upd_same, hszn [] (Nat.zero_le _), fun p4 hp4 => ?_⟩
        exact fin [] p3 p4 _ _ (Nat.zero_le _) rfl hp3 hp4 rfl
  rintro σ' H3 ⟨pe, ends, rfl, hpe, hel, S3⟩
  -- the numbers
  refine ⟨Nat.zero_le _, fun pn hpn => ?_⟩
  have S4 : Same H3 (upd H3 pn (.lst [])) := same_new hpn
  have S03 : Same H1 H3 := S0.trans S3
  -- its inside
  obtain ⟨x, u, k, zs, a, ev, s, hx, ou, du, hstp, hstn⟩ : ∃ x u k zs a, v = .ref a ∧ SqT K H1 a (.str k :: x :: zs) ∧ WV K H1 x u ∧ u.Ok abc ∧ u.dep + 1 ≤ t.dep ∧ (∀ m u', t.stpX m = some u' → u' = u) ∧ (∀ m u', t.stp m = some u' → u' = u) := by
    have at_ := hv.at
    cases at_ with
    | nam e s =>
      unfold W.Ok at ho
      exact ho.elim
    | ltr e s => cases hL
    | emp e s => exact absurd rfl hE
    | join e s s2 hw => exact absurd rfl (hj _)
    | times e s hx =>
      unfold W.Ok at ho
      refine ⟨_, _, _, _, _, e, s, hx, ho.2.2, Nat.le_refl _, fun m u' h => ?_, fun m u' h => ?_⟩
      · replace h : (if 0 ≤ m ∧ m < _ then some _ else none) = some u' := h
        split at h
        · cases h
          rfl
        · cases h
      · rw [stpT] at h
        split at h
        · cases h
          rfl
        · cases h
    | right e s hx =>
      unfold W.Ok at ho
      refine ⟨_, _, _, _, _, e, s, hx, ho, Nat.le_refl _, fun m u' h => ?_, fun m u' h => ?_⟩
      · replace h : (if 0 ≤ m then some _ else none) = some u' := h
        split at h
        · cases h
          rfl
        · cases h
      · rw [stpR] at h
        split at h
        · cases h
          rfl
        · cases h
    | left e s hx =>
      unfold W.Ok at ho
      refine ⟨_, _, _, _, _, e, s, hx, ho, Nat.le_refl _, fun m u' h => ?_, fun m u' h => ?_⟩
      · replace h : (if 0 ≤ m then some _ else none) = some u' := h
        split at h
        · cases h
          rfl
        · cases h
      · rw [stpL] at h
        split at h
        · cases h
          rfl
        · cases h
  -- the numbers near the ends
  refine ⟨_, rfl, pe, rfl, ⟨_, S4.seq hpe⟩, for_list (xs := ends.map V.int) (fun i σ' H' => ∃ (nums : List Int) (y8 y9 : Option V), σ' = [some v, some (.ref b), some (.int 1), some (.ref pf), none, none, some (.ref pe), some (.ref pn), y8, y9, none] ∧
    H' pn = some (.lst (nums.map V.int)) ∧ nums.length ≤ 3 * i ∧ (∀ m ∈ nums, ∃ u', t.stpX m = some u') ∧ Same H3 H') ?_ ?_ ?_ ?_⟩
  · exact ⟨[], none, none, rfl, upd_same, Nat.le_refl _, fun m h => (List.not_mem_nil h).elim, S4⟩
  · rintro i σ' H' _ ⟨nums, y8, y9, rfl, _, _, _, S5⟩
    exact S5.seq hpe
  · rintro i y σ' H' hy ⟨nums, y8, y9, rfl, hA, hnl, hval, S5⟩
    rw [List.getElem?_map] at hy
    obtain ⟨e, ee, rfl⟩ := Option.map_eq_some_iff.mp hy
    have hcnt : ((e + 1 + 1) - (e - 1)).toNat = 3 := by omega
    have hil : i < 3 := Nat.lt_of_lt_of_le (List.getElem?_eq_some_iff.mp ee).1 hel
    refine ⟨_, rfl, _, rfl, _, _, rfl, rfl, _, rfl, _, rfl, _, _, rfl, rfl, _, _, rfl, rfl, _, _, rfl, for_range (n := ((e + 1 + 1) - (e - 1)).toNat) (fun j σ' H' => ∃ (nums : List Int) (y9 : Option V), σ' = [some v, some (.ref b), some (.int 1), some (.ref pf), none, none, some (.ref pe), some (.ref pn), some (.int e), y9, none] ∧
      H' pn = some (.lst (nums.map V.int)) ∧ nums.length ≤ 3 * i + j ∧ (∀ m ∈ nums, ∃ u', t.stpX m = some u') ∧ Same H3 H') ?_ ?_ ?_⟩
    · exact ⟨nums, y9, rfl, hA, hnl, hval, S5⟩
    · rintro j σ' H6 hj5 ⟨nums, y9, rfl, hA, hnl, hval, S6⟩
      rw [hcnt] at hj5
      generalize hmm : e - 1 + (j : Int) = mm
      have add : (∃ u', t.stpX mm = some u') → ∀ p, H6 p = some (.lst (nums.map V.int)) → p = pn → ∃ (nums' : List Int) (y9 : Option V), ([some v, some (.ref b), some (.int 1), some (.ref pf), none, none, some (.ref pe), some (.ref pn), some (.int e), some (.int mm), none] : L2.St) = [some v, some (.ref b), some (.int 1), some (.ref pf), none, none, some (.ref pe), some (.ref pn), some (.int e), y9, none] ∧
          (upd H6 pn (.lst (nums.map V.int ++ [.int mm]))) pn = some (.lst (nums'.map V.int)) ∧ nums'.length ≤ 3 * i + (j + 1) ∧ (∀ m ∈ nums', ∃ u', t.stpX m = some u') ∧ Same H3 (upd H6 pn (.lst (nums.map V.int ++ [.int mm]))) := by
        intro hu' p _ _
        refine ⟨nums ++ [mm], _, rfl, by rw [upd_same, List.map_append]; rfl, by rw [List.length_append]; show nums.length + 1 ≤ _; omega, fun m hm => ?_, fun c o hc => ?_⟩
        · rcases List.mem_append.mp hm with h | h
          · exact hval m h
          · cases List.mem_singleton.mp h
            exact hu'
        · rw [upd_ne (ne_of_none hc hpn)]
          exact S6 _ _ hc
      have hsz : (nums.map V.int).length < sizeLine := by
        rw [List.length_map]
        exact Nat.lt_of_le_of_lt (show nums.length ≤ 1000 by omega) (by decide)
      refine ⟨_, rfl, _, _, rfl, rfl, _, rfl, ite2 (fun c0 => ?_) (fun c0 => ⟨nums, _, rfl, hA, by omega, hval, S6⟩)⟩
      refine ⟨_, rfl, _, rfl, pn, _, rfl, .inl (SqL.of hA), rfl, flat_ints _, ?_⟩
      have c0' : 0 ≤ mm := of_decide_eq_true c0
      rw [if_pos rfl, inV_int]
      by_cases hm : mm ∈ nums
      · rw [decide_eq_true hm]
        exact ⟨false, rfl, ⟨nums, _, rfl, hA, by omega, hval, S6⟩⟩
      rw [decide_eq_false hm]
      refine ⟨true, rfl, ?_⟩
      have at_ := (WV.tp (tp_same (S03.trans S6)) _ hv).at
      cases at_ with
      | nam e s =>
        unfold W.Ok at ho
        exact ho.elim
      | ltr e s => cases hL
      | emp e s => exact absurd rfl hE
      | join e s s2 hw => exact absurd rfl (hj _)
      | @times a' x' u' n' e' s' hx' =>
        cases e'
        refine ⟨_, rfl, _, _, _, _, rfl, rfl, s', rfl, rfl, ne_no rfl ?_⟩
        refine ⟨_, rfl, _, rfl, _, _, _, _, rfl, rfl, s', rfl, _, _, rfl, rfl, _, rfl, ite2 (fun c1 => ?_) (fun c1 => ⟨nums, _, rfl, hA, by omega, hval, S6⟩)⟩
        have c1' : mm < n' := of_decide_eq_true c1
        refine ⟨_, rfl, .inl ⟨rfl, _, SqL.of hA⟩, _, rfl, pn, _, _, rfl, rfl, hA, hsz, ?_⟩
        exact add ⟨_, (stp_times c0' c1' : (W.times u' n').stp mm = some u')⟩ pn hA rfl
      | @right a' x' u' e' s' hx' =>
        cases e'
        refine ⟨_, rfl, _, _, _, _, rfl, rfl, s', rfl, rfl, ne_yes (by decide +kernel) ?_⟩
        refine ⟨_, rfl, .inl ⟨rfl, _, SqL.of hA⟩, _, rfl, pn, _, _, rfl, rfl, hA, hsz, ?_⟩
        exact add ⟨u', by show (if 0 ≤ mm then some u' else none) = some u'; rw [if_pos c0']⟩ pn hA rfl
      | @left a' x' u' e' s' hx' =>
        cases e'
        refine ⟨_, rfl, _, _, _, _, rfl, rfl, s', rfl, rfl, ne_yes (by decide +kernel) ?_⟩
        refine ⟨_, rfl, .inl ⟨rfl, _, SqL.of hA⟩, _, rfl, pn, _, _, rfl, rfl, hA, hsz, ?_⟩
        exact add ⟨u', by show (if 0 ≤ mm then some u' else none) = some u'; rw [if_pos c0']⟩ pn hA rfl
    · rintro σ' H6 ⟨nums, y9, rfl, hA, hnl, hval, S6⟩
      rw [hcnt] at hnl
      exact ⟨nums, _, _, rfl, hA, by omega, hval, S6⟩
  · rintro σ' H5 ⟨nums, y8, y9, rfl, hA, hnl, hval, S5⟩
    rw [List.length_map] at hnl
    refine ⟨_, rfl, pn, nums, rfl, SqL.of hA, fun ns' ps hperm _ hps => ?_⟩
    have S6 : Same H5 (upd H5 ps (.lst (ns'.map V.int))) := same_new hps
    have hl' : ns'.length = nums.length := hperm.length_eq
    generalize hH6 : upd H5 ps (.lst (ns'.map V.int)) = H6 at S6
    have hps6 : H6 ps = some (.lst (ns'.map V.int)) := by rw [← hH6]; exact upd_same
    have S06 : Same H1 H6 := S03.trans (S5.trans S6)
    refine ⟨ps, rfl, ⟨_, SqL.of hps6⟩, for_list (xs := ns'.map V.int) (fun i σ' H' => ∃ (pg : Addr) (acc : List V) (y5 y9 : Option V), σ' = [some v, some (.ref b), some (.int 1), some (.ref pg), none, y5, some (.ref pe), some (.ref pn), y8, y9, none] ∧
      H' pg = some (.lst acc) ∧ H1 pg = none ∧ acc.length ≤ i * 10 ^ u.dep ∧ AdsP K H' acc (VdX t) ∧ Same H6 H') ?_ ?_ ?_ ?_⟩
    · exact ⟨pf, [], none, y9, rfl, (S3.trans (S5.trans S6)) _ _ hF0, hpf, Nat.zero_le _, adsP_nil, Same.refl H6⟩
    · rintro i σ' H' _ ⟨pg, acc, y5, y9, rfl, _, _, _, _, S7⟩
      exact SqL.of (S7 _ _ hps6)
    · rintro i y σ' H7 hy ⟨pg, acc, y5, y9, rfl, hA7, hpg, hal, hads, S7⟩
      rw [List.getElem?_map] at hy
      obtain ⟨m, em, rfl⟩ := Option.map_eq_some_iff.mp hy
      have hi : i < ns'.length := (List.getElem?_eq_some_iff.mp em).1
      have hst : t.stpX m = some u := by
        obtain ⟨u', hu'⟩ := hval m (hperm.mem_iff.mp (List.mem_of_getElem? em))
        rw [hu', hstp m u' hu']
      have S07 := S06.trans S7
      refine ⟨_, rfl, b, rfl, ⟨nv, S07.seq hb⟩, fun Dd hD => ?_⟩
      refine near_lc (t := t) (u := u) (m := m) hL (fun _ => rfl) (fun _ => rfl) (hstn m) (S07.seq hb) hnvl (AdsP.tp (tp_same S07) hnv) hD (fun accN H8 hAN hNl hNv S8 => ?_)
      subst ev
      have t8 := tp_same (S07.trans S8)
      refine ⟨_, rfl, _, rfl, _, _, _, _, rfl, rfl, t8.sq s, at_of (j := 1) (by omega) rfl, _, rfl, _, rfl, ?_⟩
      refine ⟨_, u, Dd, accN, rfl, WV.tp t8 _ hx, ou, by omega, by omega, SqL.of hAN, hNl, hNv, fun p zs H9 hp hpn' hzl hzs S9 => ?_⟩
      refine ⟨p, rfl, ⟨zs, SqL.of hp⟩, fun D2 hD2 => ?_⟩
      have hz5 : 10 ^ u.dep ≤ 10 ^ 5 := Nat.pow_le_pow_right (by decide) (by omega)
      have hx5 : (10 : Nat) ^ 5 = 100000 := by decide
      refine spotsX_lc (m := m) (t := t) (u := u) (fun _ => rfl) (fun _ => rfl) hst (SqL.of hp) hzs ou (by omega) hD2 (by omega) (fun acc2 H10 hA2 hal2 hads2 S10 => ?_)
      have SS : Same H7 H10 := S8.trans (S9.trans S10)
      have hA10 := SS _ _ hA7
      have hi10 : i * 10 ^ u.dep ≤ 10 * 10 ^ 5 := Nat.mul_le_mul (by omega) hz5
      refine ⟨pg, D2, acc, acc2, rfl, rfl, hA10, hA2, ?_, fun p11 hp11 => ?_⟩
      · rw [hal2]
        exact Nat.le_trans (show acc.length + zs.length ≤ 2000000 by omega) (by decide)
      have S11 : Same H10 (upd H10 p11 (.lst (acc ++ acc2))) := same_new hp11
      refine ⟨p11, acc ++ acc2, _, _, rfl, upd_same, none_same (S07.trans SS) hp11, ?_, AdsP.app (AdsP.tp (tp_same (SS.trans S11)) hads) (AdsP.tp (tp_same S11) hads2), S7.trans (SS.trans S11)⟩
      rw [List.length_append, hal2, Nat.succ_mul]
      omega
    · rintro σ' H7 ⟨pg, acc, y5, y9, rfl, hA7, hpg, hal, hads, S7⟩
      refine ⟨_, rfl, q pg acc H7 hA7 hpg ?_ hads (S06.trans S7)⟩
      rw [List.length_map] at hal
      have h1 : ns'.length * 10 ^ u.dep ≤ 10 * 10 ^ u.dep := Nat.mul_le_mul_right _ (by omega)
      have h2 : 10 * 10 ^ u.dep = 10 ^ (u.dep + 1) := by rw [Nat.pow_succ, Nat.mul_comm]
      have h3 : 10 ^ (u.dep + 1) ≤ 10 ^ t.dep := Nat.pow_le_pow_right (by decide) du
      omega
theorem ok_spotsN (D : Df K mg "_law_spots" s__law_spots ["_law_tree_here", "_law_near", "_law_reach"]) (bi : Bi mg) : ∀ n : Nat, Cal P w K mg base n "_law_spots" ["_law_tree_here", "_law_near", "_law_reach"] (spSpotsN K n)
  | 0 => D.no fun vs H Q E h => by
    obtain ⟨v, t, b, nv, _, _, _, h, _⟩ := h
    have := t.dep_pos
    omega
  | n + 1 => ok_spotsN1 D bi (ok_spotsN D bi n)

end
end SW

set_option Elab.async false
set_option linter.all false
set_option maxRecDepth 100000
set_option maxHeartbeats 4000000
namespace SW
open PySem PySem.Spec PyProof.Rows L2
theorem g12s_inv {α : Type} {us ws : List α} (h : (g12s us ws).length = 3) : ∃ a b c, us = [a] ∧ ws = [b, c] := by
  unfold g12s at h
  split at h
  · exact ⟨_, _, _, rfl, rfl⟩
  · cases h
theorem g12s_rel {vs : List V} {us : List Value} {zs : List V} {ws : List Value} (a : Vals vs us) (b : Vals zs ws) : Vals (g12s vs zs) (g12s us ws) := by
  cases a with
  | nil => exact .nil
  | cons r t =>
    cases t with
    | cons _ _ => exact .nil
    | nil =>
      cases b with
      | nil => exact .nil
      | cons r2 t2 =>
        cases t2 with
        | nil => exact .nil
        | cons r3 t3 =>
          cases t3 with
          | cons _ _ => exact .nil
          | nil => exact .cons r (.cons r3 (.cons r2 .nil))
section
variable {P : Program} {w : World} {K : PySem.W.Frag} {mg : Str → Option Value} {base : Heap}
theorem sc_law : FnScope ["_law_script", "_law_rng", "_law_turn", "_law_tree_here", "_law_my_one", "_law_my_other", "_law_spots_here", "_law_first", "_law_second", "_law_due", "_law_bad", "_law_words", "_law_spot_here"] ["_law_script"] (defScope s_law) := ⟨rfl, rfl, rfl, by decide +kernel, rfl, by decide +kernel, by decide +kernel⟩
abbrev N9 : List Str := ["_law_script", "_law_rng", "_law_turn", "_law_tree_here", "_law_my_one", "_law_my_other", "_law_spots_here", "_law_first", "_law_second", "_law_due", "_law_bad", "_law_words", "_law_spot_here"]
theorem law_body {c T BS BM C : Addr} (hTB : LamX.TabB base mg c T) (mS : mg "ScatterError" = some (.ref BS)) (mM : mg "Missing" = some (.ref BM)) (hx : PySem.W.exmOne K (.ref C) (.ref BS) = some true) (ec : ErrC K C) (bi : Bi mg)
    (D_law_try : Df K mg "_law_try" s__law_try ["_law_ask"]) (c_law_field : CalW P w K mg base 1 "_law_field" ["_law_e"] (spField K)) (Dcompare : Df K mg "compare" s_compare ["word", "one", "other"])
    (c_law_draws : Cal P w K mg base 1 "_law_draws" ["_law_script"] (spDraws K)) (c_law_wide : Cal P w K mg base 7 "_law_wide" ["_law_rng"] (spWord K 6)) (c_law_spot : Cal P w K mg base 20 "_law_spot" ["_law_rng", "_law_tree_here"] (spSpot K 6))
    (c_law_same : Cal P w K mg base 20 "_law_same" ["_law_found", "_law_due"] (spSame K 20)) (ccompare : CalX P w K mg base 7 "compare" ["word", "one", "other"] (spCmp K C))
    (c_law_order : Cal P w K mg base 2 "_law_order" ["_law_tree_here", "_law_my_one", "_law_my_other"] (spOrder K)) (c_law_spots : Cal P w K mg base 6 "_law_spots" ["_law_tree_here", "_law_near", "_law_reach"] (spSpotsN K 6))
    (c_law_bad_spot : Cal P w K mg base 3 "_law_bad_spot" ["_law_rng", "_law_tree_here", "_law_spot_here"] (spBad K))
    (f : Addr) (A : Around) (outer : List Env) (s : Shared) (H : Hp) (a : Addr) (ns : List Int) (Q : VK) (E : XK) (hr : Room 30 (A.deeper (envOfC "law" (defScope s_law) s.heap.objs.size f (.ref c)))) (hS : SqL K H a (ns.map V.int)) (hT : H T = some (.tbl #[])) (q : ∀ H', Q (.bl true) H') :
    ∃ t, PSs (cxOf CX0 P w K mg base N9 "law" (defScope s_law) f (.ref c) A outer s H E).nox (defBody s_law) t ∧ t { nx := fun _ H' => Q .non H', rt := Q } (L2.start N9 [.ref a]) H := by
  refine ⟨_, (pss_cons (ps_set (i := 1) sc_law.nd rfl (.inl rfl) (pe_own c_law_draws hr (by omega) (by rfl) (pa_cons (pv 0) pa_nil)))
      (pss_cons (ps_for PassesOwn.never rfl (pi_range1 (by rfl) bi.range (pa_cons pe_int pa_nil)) (pg_name (i := 2) sc_law.nd rfl (.inl rfl)) (pss_cons (ps_set (i := 3) sc_law.nd rfl (.inr rfl) (pe_own c_law_wide hr (by omega) (by rfl) (pa_cons (pv 1) pa_nil)))
      (pss_cons (ps_asg (pe_tup (pa_cons (pe_own c_law_spot hr (by omega) (by rfl) (pa_cons (pv 1) (pa_cons (pv 3) pa_nil))) (pa_cons (pe_own c_law_spot hr (by omega) (by rfl) (pa_cons (pv 1) (pa_cons (pv 3) pa_nil))) pa_nil))) (pg_tup rfl (pgs_cons (pg_name (i := 4) sc_law.nd rfl (.inr rfl)) (pgs_cons (pg_name (i := 5) sc_law.nd rfl (.inr rfl)) pgs_nil))))
      (pss_cons (ps_if (pt_cmpR op_isN (pv 4) pe_non (nomark _)) (pss_one ps_continue) pss_nil)
      (pss_cons (ps_setLc (i := 6) (own := [("_law_spot_here", 12)]) (g := gName 12) (tt := tTest (tOp (rI0 fun i j => V.bl (decide (i ≤ j))) (tCB (rMaxT K) (tCons (tOp (rCatT K) (tTup (tCons (tC (.int 0)) tNil)) (tVar 12)) tNil)) (tOp (rI CPow fun i j => V.int (i ^ j.toNat)) (tC (.int 10)) (tC (.int 30))))) rfl sc_law.nd rfl rfl (sw_true rfl rfl rfl (by decide +kernel)) (pi_list (pe_own c_law_spots hr (by omega) (by rfl) (pa_cons (pv 3) (pa_cons (pe_lst (pa_cons (pv 4) pa_nil)) (pa_cons pe_int pa_nil))))) (blkOk_by (N := ["_law_script", "_law_rng", "_law_turn", "_law_tree_here", "_law_my_one", "_law_my_other", "_law_spots_here", "_law_first", "_law_second", "_law_due", "_law_bad", "_law_words", "_law_spot_here"]) (sc := defScope s_law) (by decide +kernel)) (fun _ _ _ _ _ => (pg_name (i := 12) sc_law.nd rfl (.inl rfl))) (fun _ _ _ _ _ => (pts_one (pt_cmpR op_le (pe_callB (cr_maxT rfl hr.units) (by rfl) bi.max (by decide +kernel) (pa_cons (pe_op op_catT (pe_tup (pa_cons pe_int pa_nil)) (pv 12)) pa_nil)) (pe_op op_pow pe_int pe_int) (nomark _)))) (fun _ _ _ _ _ => (pv 12)))
      (pss_cons (ps_set (i := 6) sc_law.nd rfl (.inl rfl) (pe_slice sl_list (pe_op op_cat (pv 6) (pe_lst (pa_cons (pv 4) (pa_cons (pv 5) pa_nil)))) po_none (po_some pe_int)))
      (pss_cons (ps_for PassesOwn.never rfl (pi_list (pe_op op_cat (pe_slice sl_list (pv 6) po_none (po_some pe_int)) (pe_lst (pa_cons (pv 4) (pa_cons (pv 5) pa_nil))))) (pg_name (i := 7) sc_law.nd rfl (.inl rfl)) (pss_one (ps_for PassesOwn.never rfl (pi_list (pv 6)) (pg_name (i := 8) sc_law.nd rfl (.inl rfl)) (pss_cons (ps_set (i := 9) sc_law.nd rfl (.inl rfl) (pe_own c_law_order hr (by omega) (by rfl) (pa_cons (pv 3) (pa_cons (pv 7) (pa_cons (pv 8) pa_nil)))))
      (pss_one (ps_if (pt_not (pt_val (pe_own c_law_same hr (by omega) (by rfl) (pa_cons (pe_lst (pa_cons (pe_ownX ccompare hr (by omega) passN (by rfl) (pa_cons (pv 3) (pa_cons (pv 7) (pa_cons (pv 8) pa_nil)))) (pa_cons (pe_ownXK (ks := ["other", "one"]) (g := g12s) (gV := g12s) ccompare Dcompare hr (by omega) passN (by rfl) (fun _ _ _ _ _ _ us ws hl => by obtain ⟨_, _, _, rfl, rfl⟩ := g12s_inv hl; rfl) g12s_rel (pa_cons (pv 3) pa_nil) (pk_cons (pv 7) (pk_cons (pv 8) pk_nil))) pa_nil))) (pa_cons (pe_lst (pa_cons (pv 9) (pa_cons (pe_op op_sub pe_int (pv 9)) pa_nil))) pa_nil))))) (pss_one (ps_ret pe_bl)) pss_nil))))))
      (pss_cons (ps_set (i := 10) sc_law.nd rfl (.inr rfl) (pe_own c_law_bad_spot hr (by omega) (by rfl) (pa_cons (pv 1) (pa_cons (pv 3) (pa_cons (pv 4) pa_nil)))))
      (pss_cons (ps_set (i := 11) sc_law.nd rfl (.inl rfl) (pe_lst (pa_cons (pe_try D_law_try c_law_field mS mM hTB rfl hr (by rfl) (LamX.lamS_by (sc := defScope s_law) (by decide +kernel)) (by rfl) (fun _ _ _ _ _ => rfl) (fun A outer s H E f c hr => (pe_ownX ccompare hr (by omega) pass_lam2 (by rfl) (pa_cons (pv 3) (pa_cons (pv 10) (pa_cons (pv 5) pa_nil)))))) (pa_cons (pe_tryD (y0 := "_law_w") D_law_try c_law_field mS mM hTB rfl hr (by rfl) (lamD_by (N := ["_law_script", "_law_rng", "_law_turn", "_law_tree_here", "_law_my_one", "_law_my_other", "_law_spots_here", "_law_first", "_law_second", "_law_due", "_law_bad", "_law_words", "_law_spot_here"]) (sc := defScope s_law) (by decide +kernel)) rfl rfl (fun _ _ _ _ _ _ _ _ => ⟨_, rfl, rfl⟩) (fun A outer s H E f c hr => (pe_ownX ccompare hr (by omega) pass_lam2 (by rfl) (pa_cons (pv 3) (pa_cons (pv 4) (pa_cons (pv 10) pa_nil)))))) pa_nil))))
      (pss_one (ps_if (pt_cmpR (op_neD hr.units) (pv 11) (pe_op op_rep (pe_lst (pa_cons (pe_tup (pa_cons pe_str (pa_cons pe_non pa_nil))) pa_nil)) pe_int) (nomark _)) (pss_one (ps_ret pe_bl)) pss_nil)))))))))))
      (pss_one (ps_ret (pe_and (pe_cmpR op_eq (pe_ownX ccompare hr (by omega) passN (by rfl) (pa_cons (pe_tup (pa_cons pe_str (pa_cons (pe_tup (pa_cons pe_str (pa_cons pe_str pa_nil))) pa_nil))) (pa_cons (pe_tup (pa_cons pe_int pa_nil)) (pa_cons (pe_tup (pa_cons pe_int pa_nil)) pa_nil)))) (pe_un un_neg pe_int) (nomark _)) (pe_one (pe_cmpR op_eq (pe_ownX ccompare hr (by omega) passN (by rfl) (pa_cons (pe_tup (pa_cons pe_str (pa_cons (pe_tup (pa_cons pe_str (pa_cons pe_str pa_nil))) pa_nil))) (pa_cons (pe_tup (pa_cons pe_int pa_nil)) (pa_cons (pe_tup (pa_cons pe_int pa_nil)) pa_nil)))) pe_int (nomark _)))))))), ?_⟩
  refine ⟨_, rfl, a, ns, rfl, hS, fun r l H1 g1 k1 => ?_⟩
  generalize ((cxOf CX0 P w K mg base N9 "law" (defScope s_law) f (.ref c) A outer s H E).nox.env.qual ++ Str.ofString "<lambda>") = Lq
  have hT1 : H1 T = some (.tbl #[]) := k1 _ _ hT
  have bad_no : ∀ {t : W} {bs : List Int}, Bad t bs → Vd t bs → False := fun hb hv => by
    obtain ⟨c, h⟩ := hv
    exact hb c h
  refine ⟨5, rfl, by decide, by decide, for_range (n := 5) (fun i σ' H' => ∃ y2 y3 y4 y5 y6 y7 y8 y9 y10 y11, σ' = [some (.ref a), some (.ref r), y2, y3, y4, y5, y6, y7, y8, y9, y10, y11, none] ∧ Rng H' r l ∧ LamX.Tabs [(T, Lq)] H') ?_ ?_ ?_⟩
  · refine ⟨none, none, none, none, none, none, none, none, none, none, rfl, g1, fun p hp => ?_⟩
    obtain rfl := List.mem_singleton.mp hp
    exact LamX.TabS.nil hT1
  · rintro i0 σ' H2 _ ⟨y2, y3, y4, y5, y6, y7, y8, y9, y10, y11, rfl, g2, tb2⟩
    obtain ⟨z2, hz2⟩ := g2.lst
    refine ⟨_, rfl, r, l, rfl, g2, fun vt t H3 hvt hot hdt g3 k3 => ?_⟩
    have tb3 := tabs_kp tb2 k3 hz2
    obtain ⟨z3, hz3⟩ := g3.lst
    refine ⟨_, rfl, _, rfl, r, l, vt, t, rfl, hvt, hot, hdt, by decide, g3, fun hz hL H4 g4 k4 => ?_, fun n1 p1 H4 vd1 hl1 hs1 g4 k4 => ?_⟩
    · -- no place
      have tb4 := tabs_kp tb3 k4 hz3
      obtain ⟨z4, hz4⟩ := g4.lst
      have hv4 := WV.tp (k4.tp hz3) _ hvt
      refine ⟨_, rfl, _, rfl, r, l, vt, t, rfl, hv4, hot, hdt, by decide, g4, fun _ _ H5 g5 k5 => ?_, fun n2 p2 H5 vd2 _ _ _ _ => absurd hz (vd_cnt hot vd2)⟩
      have tb5 := tabs_kp tb4 k5 hz4
      refine ⟨(by show 2 ≤ sizeLine; decide), fun pt hpt => ⟨pt, _, rfl, SqT.of upd_same, rfl, _, _, rfl, _, _, rfl, rfl, ?_⟩⟩
      exact ⟨_, rfl, rfl, true, rfl, _, _, _, _, _, _, _, _, _, _, rfl, g5.new hpt, tabs_same tb5 (same_new hpt)⟩
    · -- two places
      have tb4 := tabs_kp tb3 k4 hz3
      obtain ⟨z4, hz4⟩ := g4.lst
      have hv4 := WV.tp (k4.tp hz3) _ hvt
      refine ⟨_, rfl, _, rfl, r, l, vt, t, rfl, hv4, hot, hdt, by decide, g4, fun hz _ _ _ _ => absurd hz (vd_cnt hot vd1), fun n2 p2 H5 vd2 hl2 hs2 g5 k5 => ?_⟩
      have tb5 := tabs_kp tb4 k5 hz4
      refine ⟨(by show 2 ≤ sizeLine; decide), fun pt hpt => ⟨pt, _, rfl, SqT.of upd_same, rfl, _, _, rfl, _, _, rfl, rfl, ?_⟩⟩
      have S6 : Same H5 (upd H5 pt (.tup [.ref p1, .ref p2])) := same_new hpt
      have g6 := g5.same S6
      have tb6 := tabs_same tb5 S6
      have t46 := (k5.tp hz4).trans (tp_same S6)
      have hv6 := WV.tp t46 _ hv4
      have hs16 := t46.sq hs1
      have hs26 := (tp_same S6).sq hs2
      generalize upd H5 pt (.tup [.ref p1, .ref p2]) = H6 at S6 g6 tb6 t46 hv6 hs16 hs26
      refine ⟨_, rfl, rfl, false, rfl, ?_⟩
      -- places near the first
      refine ⟨_, rfl, _, rfl, (by show 1 ≤ sizeLine; decide), fun pb hpb => ?_⟩
      have S7 : Same H6 (upd H6 pb (.lst [.ref p1])) := same_new hpb
      refine ⟨vt, t, pb, [.ref p1], rfl, WV.tp (tp_same S7) _ hv6, hot, hdt, by decide, SqL.of upd_same, (by show 1 ≤ 1; decide), adsP_one ((tp_same S7).sq hs16) vd1, fun p8 xs H8 hp8 hpn8 hl8 hads8 S8 => ?_⟩
      refine ⟨p8, rfl, ⟨xs, SqL.of hp8⟩, fun Dd hD => ?_⟩
      have hx6 : (10 : Nat) ^ 6 = 1000000 := by decide
      have hl8' : xs.length ≤ 10 ^ 6 := Nat.le_trans hl8 (Nat.pow_le_pow_right (by decide) hdt)
      refine lclT (xs := xs) (fun i H3 => ∃ acc, H3 Dd = some (.lst acc) ∧ acc.length ≤ i ∧ AdsP K H3 acc (Vd t) ∧ Same H8 H3) ?_ ?_ ?_ ?_
      · exact ⟨[], upd_same, Nat.le_refl _, adsP_nil, same_new hD⟩
      · rintro i H9 _ ⟨acc, _, _, _, S9⟩
        exact SqL.of (S9 _ _ hp8)
      · rintro i x H9 hxi ⟨acc, hA, hal, hads, S9⟩
        have hi : i < xs.length := (List.getElem?_eq_some_iff.mp hxi).1
        obtain ⟨pa, as, rfl, hsa, hva⟩ := hads8 x (List.mem_of_getElem? hxi)
        have has : as.length ≤ 1000 := by
          obtain ⟨c2, hg⟩ := hva
          have := goX_len _ hot hg
          omega
        refine ⟨(by show 1 ≤ sizeLine; decide), fun q9 hq9 => ⟨_, rfl, ?_⟩⟩
        have S10 : Same H9 (upd H9 q9 (.tup [.int 0])) := same_new hq9
        refine cat_one (SqT.of upd_same) ((tp_same (S9.trans S10)).sq hsa) has (fun pq H11 hpq k11 => ?_)
        refine ⟨pq, 0, as, rfl, hpq, fun m hm => ?_⟩
        have S11 := S10.trans k11
        have hA11 := S11 _ _ hA
        refine ⟨_, _, rfl, rfl, ⟨by decide, by decide, by decide⟩, _, _, rfl, rfl, _, rfl, ite2 (fun hc => ?_) (fun hc => ⟨acc, hA11, by omega, AdsP.tp (tp_same S11) hads, S9.trans S11⟩)⟩
        have hc' : m ≤ (10 : Int) ^ (30 : Int).toNat := of_decide_eq_true hc
        have hbig : (10 : Int) ^ (30 : Int).toNat = big := by decide
        refine ⟨_, rfl, acc, hA11, ?_, acc ++ [.ref pa], upd_same, ?_, ?_, ?_⟩
        · exact Nat.lt_of_le_of_lt (show acc.length ≤ 1000000 by omega) (by decide)
        · rw [List.length_append]
          show acc.length + 1 ≤ i + 1
          omega
        · refine AdsP.tp (tp_set hA11) (AdsP.app (AdsP.tp (tp_same S11) hads) (adsP_one ((tp_same (S9.trans S11)).sq hsa) (vdX_of hva fun j hj => ?_)))
          have := hm j (List.mem_cons_of_mem _ hj)
          rw [hbig] at hc'
          omega
        · intro b' o hb'
          rw [upd_ne (ne_of_none hb' hD)]
          exact S11 _ _ (S9 _ _ hb')
      · rintro H9 ⟨acc, hA, hal, hads, S9⟩
        have S69 : Same H6 H9 := S7.trans (S8.trans S9)
        -- with the two places
        refine ⟨_, rfl, _, rfl, _, rfl, (by show 2 ≤ sizeLine; decide), fun pl hpl => ⟨Dd, pl, acc, _, rfl, rfl, same_new hpl _ _ hA, upd_same, ?_, fun pc hpc => ⟨16, rfl, pc, _, rfl, SqL.of upd_same, fun ps hps => ?_⟩⟩⟩
        · exact Nat.le_trans (show acc.length + 2 ≤ 2000000 by omega) (by decide)
        have S10 : Same H9 (upd (upd (upd H9 pl (.lst [.ref p1, .ref p2])) pc (.lst (acc ++ [.ref p1, .ref p2]))) ps (.lst (cutV (acc ++ [.ref p1, .ref p2]) none (some 16)))) := (same_new hpl).trans ((same_new hpc).trans (same_new hps))
        have hps10 : (upd (upd (upd H9 pl (.lst [.ref p1, .ref p2])) pc (.lst (acc ++ [.ref p1, .ref p2]))) ps (.lst (cutV (acc ++ [.ref p1, .ref p2]) none (some 16)))) ps = some (.lst (cutV (acc ++ [.ref p1, .ref p2]) none (some 16))) := upd_same
        have S610 := S69.trans S10
        have two : AdsP K _ [V.ref p1, V.ref p2] (Vd t) := AdsP.app (adsP_one ((tp_same S610).sq hs16) vd1) (adsP_one ((tp_same S610).sq hs26) vd2)
        have ads10 : AdsP K _ (cutV (acc ++ [.ref p1, .ref p2]) none (some 16)) (Vd t) := fun x hx => AdsP.app (AdsP.tp (tp_same S10) hads) two x (List.mem_of_mem_drop (List.mem_of_mem_take hx))
        have hlen6 : (cutV (acc ++ [V.ref p1, V.ref p2]) none (some 16)).length ≤ 2000000 := Nat.le_trans (cutV_length _ _ _) (by rw [List.length_append]; show acc.length + 2 ≤ _; omega)
        have hv10 := WV.tp (tp_same S610) _ hv6
        have g10 := g6.same S610
        have tb10 := tabs_same tb6 S610
        have hs110 := (tp_same S610).sq hs16
        have hs210 := (tp_same S610).sq hs26
        generalize hH10 : upd (upd (upd H9 pl (.lst [.ref p1, .ref p2])) pc (.lst (acc ++ [.ref p1, .ref p2]))) ps (.lst (cutV (acc ++ [.ref p1, .ref p2]) none (some 16))) = H10 at S10 hps10 S610 two ads10 hv10 g10 tb10 hs110 hs210
        generalize cutV (acc ++ [V.ref p1, V.ref p2]) none (some 16) = L6 at hps10 ads10 hlen6
        -- all pairs
        refine ⟨_, rfl, 4, rfl, ps, _, rfl, SqL.of hps10, fun p11 hp11 => ⟨_, rfl, _, rfl, (by show 2 ≤ sizeLine; decide), fun p12 hp12 => ⟨p11, p12, _, _, rfl, rfl, same_new hp12 _ _ upd_same, upd_same, ?_, fun p13 hp13 => ?_⟩⟩⟩
        · have := cutV_length L6 none (some 4)
          exact Nat.le_trans (show (cutV L6 none (some 4)).length + 2 ≤ 3000000 by omega) (by decide)
        have S13 : Same H10 (upd (upd (upd H10 p11 (.lst (cutV L6 none (some 4)))) p12 (.lst [.ref p1, .ref p2])) p13 (.lst (cutV L6 none (some 4) ++ [.ref p1, .ref p2]))) := (same_new hp11).trans ((same_new hp12).trans (same_new hp13))
        have hp13' : (upd (upd (upd H10 p11 (.lst (cutV L6 none (some 4)))) p12 (.lst [.ref p1, .ref p2])) p13 (.lst (cutV L6 none (some 4) ++ [.ref p1, .ref p2]))) p13 = some (.lst (cutV L6 none (some 4) ++ [.ref p1, .ref p2])) := upd_same
        have ads7 : AdsP K H10 (cutV L6 none (some 4) ++ [.ref p1, .ref p2]) (Vd t) := AdsP.app (fun x hx => ads10 x (List.mem_of_mem_drop (List.mem_of_mem_take hx))) two
        generalize upd (upd (upd H10 p11 (.lst (cutV L6 none (some 4)))) p12 (.lst [.ref p1, .ref p2])) p13 (.lst (cutV L6 none (some 4) ++ [.ref p1, .ref p2])) = H13 at S13 hp13'
        generalize cutV L6 none (some 4) ++ [V.ref p1, V.ref p2] = L7 at hp13' ads7
        refine ⟨p13, rfl, ⟨_, SqL.of hp13'⟩, for_list (xs := L7) (fun i σ' H' => ∃ y7 y8 y9, σ' = [some (.ref a), some (.ref r), some (.int (0 + i0)), some vt, some (.ref p1), some (.ref p2), some (.ref ps), y7, y8, y9, y10, y11, none] ∧ Same H13 H') ?_ ?_ ?_ ?_⟩
        · exact ⟨y7, y8, y9, rfl, Same.refl H13⟩
        · rintro i σ' H' _ ⟨y7, y8, y9, rfl, S14⟩
          exact SqL.of (S14 _ _ hp13')
        · rintro i x1 σ' H' hx1 ⟨y7, y8, y9, rfl, S14⟩
          have S1014 := S13.trans S14
          refine ⟨_, rfl, ps, rfl, ⟨_, SqL.of (S1014 _ _ hps10)⟩, for_list (xs := L6) (fun j σ' H' => ∃ y8 y9, σ' = [some (.ref a), some (.ref r), some (.int (0 + i0)), some vt, some (.ref p1), some (.ref p2), some (.ref ps), some x1, y8, y9, y10, y11, none] ∧ Same H13 H') ?_ ?_ ?_ ?_⟩
          · exact ⟨y8, y9, rfl, S14⟩
          · rintro j σ' H' _ ⟨y8, y9, rfl, S15⟩
            exact SqL.of ((S13.trans S15) _ _ hps10)
          · rintro j x2 σ' H' hx2 ⟨y8, y9, rfl, S15⟩
            have S1015 := S13.trans S15
            obtain ⟨a1, m1, rfl, q1, v1⟩ := ads7 x1 (List.mem_of_getElem? hx1)
            obtain ⟨a2, m2, rfl, q2, v2⟩ := ads10 x2 (List.mem_of_getElem? hx2)
            have l1 : m1.length ≤ 1000 := by
              obtain ⟨c1, h⟩ := v1
              have := (go_ok _ hot h).2
              omega
            have l2 : m2.length ≤ 1000 := by
              obtain ⟨c1, h⟩ := v2
              have := (go_ok _ hot h).2
              omega
            have t15 := tp_same S1015
            refine ⟨_, rfl, _, rfl, _, rfl, vt, t, a1, m1, a2, m2, rfl, WV.tp t15 _ hv10, hot, t15.sq q1, t15.sq q2, v1, v2, fun H16 k16 => ?_⟩
            have t16 := tp_same (S1015.trans k16)
            refine ⟨_, rfl, _, rfl, _, rfl, vt, t, a1, m1, a2, m2, rfl, WV.tp t16 _ hv10, hot, t16.sq q1, t16.sq q2, l1, l2, fun _ _ H17 k17 => ?_, fun h => (h.elim (fun b => bad_no b v1) (fun b => bad_no b.2 v2)).elim, .inl v1, .inl v2⟩
            have t17 := tp_same ((S1015.trans k16).trans k17)
            refine ⟨_, rfl, _, rfl, _, rfl, vt, t, a2, m2, a1, m1, rfl, WV.tp t17 _ hv10, hot, t17.sq q2, t17.sq q1, l2, l1, fun _ _ H18 k18 => ?_, fun h => (h.elim (fun b => bad_no b v2) (fun b => bad_no b.2 v1)).elim, .inl v2, .inl v1⟩
            refine ⟨(by show 2 ≤ sizeLine; decide), fun pu hpu => ?_⟩
            refine ⟨_, rfl, _, rfl, _, _, rfl, rfl, (by show 2 ≤ sizeLine; decide), fun pw hpw => ?_⟩
            have e21 : cmpA t m2 m1 = 0 - cmpA t m1 m2 := by rw [cmp_anti, Int.zero_sub]
            refine ⟨.ref pu, .ref pw, .list ([cmpA t m1 m2, 0 - cmpA t m1 m2].map PyData.int), rfl, .lst (SqL.of (same_new hpw _ _ upd_same)) (by rw [e21]; exact ints_dp [cmpA t m1 m2, 0 - cmpA t m1 m2]), .lst (SqL.of upd_same) (ints_dp [cmpA t m1 m2, 0 - cmpA t m1 m2]), ints_sm (by show 2 ≤ 1000; decide), fun H19 k19 => ?_⟩
            exact ⟨true, rfl, _, _, rfl, S15.trans (k16.trans (k17.trans (k18.trans ((same_new hpu).trans ((same_new hpw).trans k19)))))⟩
          · rintro σ' H' ⟨y8, y9, rfl, S15⟩
            exact ⟨_, _, _, rfl, S15⟩
        · rintro σ' H14 ⟨y7, y8, y9, rfl, S14⟩
          have S1014 := S13.trans S14
          have g14 := g10.same S1014
          have tb14 := tabs_same tb10 S1014
          have t14 := tp_same S1014
          obtain ⟨z14, hz14⟩ := g14.lst
          -- an address that was bent
          refine ⟨_, rfl, _, rfl, _, rfl, r, l, vt, t, p1, n1, rfl, WV.tp t14 _ hv10, hot, t14.sq hs110, by omega, vd1, g14, fun bs pb2 H15 hbad hbl hpb15 g15 k15 => ?_⟩
          have tb15 := tabs_kp tb14 k15 hz14
          have t15 := t14.trans (k15.tp hz14)
          have hv15 := WV.tp t15 _ hv10
          have hs115 := t15.sq hs110
          have hs215 := t15.sq hs210
          have hn1 : n1.length ≤ 1000 := by omega
          have hn2 : n2.length ≤ 1000 := by omega
          have hbs : bs.length ≤ 1000 := by omega
          refine try_val tb15 hx ec (fun H16 e16 Ech hz16 Q' => ?_) (fun w1 H16 hw1 e16 tb16 => ?_)
          · have t16 := ext_tp e16
            exact ⟨_, rfl, _, rfl, _, rfl, vt, t, pb2, bs, p2, n2, rfl, WV.tp t16 _ hv15, hot, t16.sq hpb15, t16.sq hs215, hbs, hn2, fun hv _ _ _ => (bad_no hbad hv).elim, fun _ => hz16, .inr hbad, .inl vd2⟩
          · refine try_val tb16 hx ec (fun H17 e17 Ech hz17 Q' => ?_) (fun w2 H17 hw2 e17 tb17 => ?_)
            · have t17 := (ext_tp e16).trans (ext_tp e17)
              exact ⟨_, rfl, _, rfl, _, rfl, vt, t, p1, n1, pb2, bs, rfl, WV.tp t17 _ hv15, hot, t17.sq hs115, t17.sq hpb15, hn1, hbs, fun _ hv _ _ => (bad_no hbad hv).elim, fun _ => hz17, .inl vd1, .inr hbad⟩
            · have hw17 := (ext_tp e17).sq hw1
              have g17 := (g15.ext e16).ext e17
              refine ⟨(by show 2 ≤ sizeLine; decide), fun pw hpw => ?_⟩
              refine ⟨_, rfl, (by show 2 ≤ sizeLine; decide), fun pu hpu => ⟨(by show 1 ≤ sizeLine; decide), fun pv' hpv => ?_⟩⟩
              refine ⟨pv', 2, _, rfl, rfl, upd_same, by decide, by decide, (by show 1 * 2 ≤ sizeLine; decide), fun px hpx => ?_⟩
              have S18 : Same H17 (upd (upd (upd (upd H17 pw (.lst [.ref w1, .ref w2])) pu (.tup [.str "InvalidAddress", .non])) pv' (.lst [.ref pu])) px (.lst (List.replicate (2 : Int).toNat [V.ref pu]).flatten)) := (same_new hpw).trans ((same_new hpu).trans ((same_new hpv).trans (same_new hpx)))
              have hA : (upd (upd (upd (upd H17 pw (.lst [.ref w1, .ref w2])) pu (.tup [.str "InvalidAddress", .non])) pv' (.lst [.ref pu])) px (.lst (List.replicate (2 : Int).toNat [V.ref pu]).flatten)) pw = some (.lst [.ref w1, .ref w2]) := (same_new hpx) _ _ ((same_new hpv) _ _ ((same_new hpu) _ _ upd_same))
              have hB : SqT K (upd (upd (upd (upd H17 pw (.lst [.ref w1, .ref w2])) pu (.tup [.str "InvalidAddress", .non])) pv' (.lst [.ref pu])) px (.lst (List.replicate (2 : Int).toNat [V.ref pu]).flatten)) pu [.str "InvalidAddress", .non] := ((tp_new hpv).trans (tp_new hpx)).sq (SqT.of upd_same)
              have t18 := tp_same S18
              refine ⟨.list [.tuple [.str "InvalidAddress", .none], .tuple [.str "InvalidAddress", .none]], .list [.tuple [.str "InvalidAddress", .none], .tuple [.str "InvalidAddress", .none]],
                .lst (SqL.of hA) (.cons (.tup (t18.sq hw17) (.cons (.str _) (.cons .non .nil))) (.cons (.tup (t18.sq hw2) (.cons (.str _) (.cons .non .nil))) .nil)),
                .lst (SqL.of upd_same) (.cons (.tup hB (.cons (.str _) (.cons .non .nil))) (.cons (.tup hB (.cons (.str _) (.cons .non .nil))) .nil)), by decide +kernel, by decide +kernel, ?_⟩
              have e : (!PyData.eqv (.list [.tuple [.str "InvalidAddress", .none], .tuple [.str "InvalidAddress", .none]]) (.list [.tuple [.str "InvalidAddress", .none], .tuple [.str "InvalidAddress", .none]])) = false := by decide +kernel
              rw [e]
              exact ⟨false, rfl, _, _, _, _, _, _, _, _, _, _, rfl, g17.same S18, tabs_same tb17 S18⟩
  · rintro σ' H2 ⟨y2, y3, y4, y5, y6, y7, y8, y9, y10, y11, rfl, g2, tb2⟩
    -- two words that are written
    refine ⟨(by show 2 ≤ sizeLine; decide), fun p1 hp1 => ⟨(by show 2 ≤ sizeLine; decide), fun p2 hp2 => ⟨(by show 1 ≤ sizeLine; decide), fun p3 hp3 => ⟨(by show 1 ≤ sizeLine; decide), fun p4 hp4 => ?_⟩⟩⟩⟩
    have t34 := (tp_new (o := .tup [.int 5]) hp3).trans (tp_new (o := .tup [.int 3]) hp4)
    have w1 : WV K _ (.ref p2) (.left (.ltr "a")) := wv_left (t34.sq (SqT.of upd_same)) (WV.tp ((tp_new hp2).trans t34) _ (wv_ltr (SqT.of upd_same)))
    have vv : ∀ i : Int, 0 ≤ i → i ≤ big → Vd (.left (.ltr "a")) [i] := fun i h h2 => ⟨"a", by rw [go_cons (stp_left h h2), go_nil]⟩
    have vr : ∀ i : Int, 0 ≤ i → i ≤ big → Vd (.right (.ltr "a")) [i] := fun i h h2 => ⟨"a", by rw [go_cons (stp_right h h2), go_nil]⟩
    have v5 := vv 5 (by decide) (by decide)
    have v3 := vv 3 (by decide) (by decide)
    have r5 := vr 5 (by decide) (by decide)
    have r3 := vr 3 (by decide) (by decide)
    refine ⟨_, .left (.ltr "a"), p3, [5], p4, [3], rfl, w1, by (unfold W.Ok; unfold W.Ok; decide), (tp_new hp4).sq (SqT.of upd_same), SqT.of upd_same, by decide, by decide, fun _ _ H3 k3 => ?_, fun h => (h.elim (fun b => bad_no b v5) (fun b => bad_no b.2 v3)).elim, .inl v5, .inl v3⟩
    have c1 : cmpA (.left (.ltr "a")) [5] [3] = -1 := by rw [cmpA, if_neg (by decide), if_pos (by rfl), if_pos (by decide)]
    rw [c1]
    refine ⟨_, rfl, rfl, true, rfl, ?_⟩
    refine ⟨(by show 2 ≤ sizeLine; decide), fun u1 hu1 => ⟨(by show 2 ≤ sizeLine; decide), fun u2 hu2 => ⟨(by show 1 ≤ sizeLine; decide), fun u3 hu3 => ⟨(by show 1 ≤ sizeLine; decide), fun u4 hu4 => ?_⟩⟩⟩⟩
    have s34 := (tp_new (o := .tup [.int 5]) hu3).trans (tp_new (o := .tup [.int 3]) hu4)
    have w2 : WV K _ (.ref u2) (.right (.ltr "a")) := wv_right (s34.sq (SqT.of upd_same)) (WV.tp ((tp_new hu2).trans s34) _ (wv_ltr (SqT.of upd_same)))
    refine ⟨_, .right (.ltr "a"), u3, [5], u4, [3], rfl, w2, by (unfold W.Ok; unfold W.Ok; decide), (tp_new hu4).sq (SqT.of upd_same), SqT.of upd_same, by decide, by decide, fun _ _ H4 k4 => ?_, fun h => (h.elim (fun b => bad_no b r5) (fun b => bad_no b.2 r3)).elim, .inl r5, .inl r3⟩
    have c2 : cmpA (.right (.ltr "a")) [5] [3] = 1 := by rw [cmpA, if_neg (by decide), if_neg (by decide), if_neg (by decide)]
    rw [c2]
    refine ⟨rfl, ?_⟩
    rw [decide_eq_true rfl]
    exact q _
theorem fin {h : Heap} {fa c T : Addr} (_X : K.In h) (_G : h.Ns mainGlobals mg) (hmg : mg "law" = some (.ref fa))
    (bi : Bi mg)
    (hMAX : ∃ v, mg "MAX_COPIES" = some v ∧ L2.RelV (.int 1000000000000000000000000000000) v)
    (Dcompare : Df K mg "compare" s_compare ["word", "one", "other"])
    (D_nodes_on_the_way : Df K mg "_nodes_on_the_way" s__nodes_on_the_way ["word", "address"])
    (D_inner : Df K mg "_inner" s__inner ["word", "number"])
    (D_law_draws : Df K mg "_law_draws" s__law_draws ["_law_script"])
    (D_law_draw : Df K mg "_law_draw" s__law_draw ["_law_rng", "_law_many"])
    (D_law_pick : Df K mg "_law_pick" s__law_pick ["_law_rng", "_law_things"])
    (D_law_great : Df K mg "_law_great" s__law_great ["_law_rng"])
    (D_law_same : Df K mg "_law_same" s__law_same ["_law_found", "_law_due"])
    (D_law_field : Df K mg "_law_field" s__law_field ["_law_e"])
    (D_law_try : Df K mg "_law_try" s__law_try ["_law_ask"])
    (D_law_tree : Df K mg "_law_tree" s__law_tree ["_law_rng", "_law_kit", "_law_deep"])
    (D_law_word : Df K mg "_law_word" s__law_word ["_law_rng"])
    (D_law_parts : Df K mg "_law_parts" s__law_parts ["_law_tree_here"])
    (D_law_count : Df K mg "_law_count" s__law_count ["_law_tree_here", "_law_letters"])
    (D_law_places : Df K mg "_law_places" s__law_places ["_law_tree_here"])
    (D_law_spots : Df K mg "_law_spots" s__law_spots ["_law_tree_here", "_law_near", "_law_reach"])
    (D_law_ahead : Df K mg "_law_ahead" s__law_ahead ["_law_tree_here", "_law_my_one", "_law_my_other"])
    (D_law_wide : Df K mg "_law_wide" s__law_wide ["_law_rng"])
    (D_law_spot : Df K mg "_law_spot" s__law_spot ["_law_rng", "_law_tree_here"])
    (D_law_bad_spot : Df K mg "_law_bad_spot" s__law_bad_spot ["_law_rng", "_law_tree_here", "_law_spot_here"])
    (D_law_order : Df K mg "_law_order" s__law_order ["_law_tree_here", "_law_my_one", "_law_my_other"])
    (Dlaw : Df K mg "law" s_law ["_law_script"])
    (hEr0 : Er0 K mg s_ScatterError_init s_InvalidAddress_init "InvalidAddress" "InvalidAddress.__init__") (hL : DfC K mg "law" s_law ["_law_script"] c)
    (h1 : h.get? T = some { cls := .none, data := .fields #[] }) (h2 : K.lookup T = none) (h3 : PySem.W.CodeHd h c T) :
    ∃ (fd : FuncData) (c T : Addr), h.get? T = some { cls := .none, data := .fields #[] } ∧ K.lookup T = none ∧ PySem.W.CodeHd h c T ∧ (∀ (s : Shared) (u : Value), BindsTo s fd ⟨[u], []⟩ [("_law_script", u)]) ∧
        ∀ base : Heap, K.In base → base.Ns mainGlobals mg → LamX.TabB base mg c T → FnOk P w K mg base CX0 31 fa fd ["_law_script"] (spLawT K T) := by
  obtain ⟨_, mMAX, tm, rfl⟩ := hMAX
  obtain ⟨B, C, fi, hB, ⟨fd1, F1, b1⟩, i1, i2, hEr, hMC, hEC, hXm, BM, hMM⟩ := hEr0
  obtain ⟨fd, b, ok⟩ := hL.ok (P := P) (w := w) (k := 30) (sp := spLawT K T) (Φ := fun base => LamX.TabB base mg c T) hmg sc_law (fun vs H Q E h => by obtain ⟨a, ns, rfl, _⟩ := h; rfl) (fun _ _ _ _ _ _ us hl => match us, hl with | [_], _ => rfl)
    (fun base f A outer s H vs Q E hΦ hr h => by
      obtain ⟨a, ns, rfl, hS, hT, q⟩ := h
      have c_base := ok_base (P := P) (w := w) (base := base) hB
      have eI : ErrOk0 P w K mg base "InvalidAddress" C "InvalidAddress" := ⟨⟨fi, fd1, ok_InvalidAddress F1 c_base hEr, i1, i2, b1⟩, hEr, hMC⟩
      have c_draw := ok_draw (P := P) (w := w) (base := base) D_law_draw bi
      have c_drawW := ok_drawW (P := P) (w := w) (base := base) D_law_draw bi
      have c_pick := ok_pick D_law_pick bi c_draw
      have c_great := ok_great D_law_great bi c_draw c_pick
      have c_tree := ok_tree D_law_tree bi c_draw c_pick 3
      have c_word := ok_word D_law_word bi c_draw c_tree
      have c_wide := ok_wide D_law_wide bi c_draw c_great c_word
      have c_same := ok_same (P := P) (w := w) (base := base) D_law_same bi 20
      have c_parts := ok_parts (P := P) (w := w) (base := base) D_law_parts bi
      have c_cnt := ok_lcnt (P := P) (w := w) (base := base) D_law_count bi c_parts 12
      have c_places := ok_places D_law_places c_cnt
      have c_spot := ok_spot D_law_spot bi c_drawW c_pick c_places 6
      have c_bad := ok_bad_spot D_law_bad_spot bi c_draw c_pick
      have c_spots := ok_spotsN (P := P) (w := w) (base := base) D_law_spots bi 6
      have c_draws := ok_draws (P := P) (w := w) (base := base) D_law_draws bi
      have c_field := ok_field (P := P) (w := w) (base := base) D_law_field
      have c_inner := ok_inner D_inner bi mMAX eI
      have c_nodes := ok_nodesL D_nodes_on_the_way bi eI c_inner
      have c_cmp := ok_compare Dcompare bi c_nodes
      have c_ahead := ok_ahead (P := P) (w := w) (base := base) D_law_ahead bi
      have c_order := ok_order D_law_order bi c_ahead
      exact law_body hΦ hB.at_ hMM hXm hEC bi D_law_try c_field Dcompare c_draws c_wide c_spot c_same c_cmp c_order c_spots c_bad f A outer s H a ns Q E hr hS hT q)
  exact ⟨fd, c, T, h1, h2, h3, fun s u => b s [u] rfl, fun base _ _ hT => ok base hT⟩
end
end SW
open PySem PySem.W PyProof.Rows
set_option maxRecDepth 100000 in
set_option maxHeartbeats 0 in
theorem PySem.Challenge.cw_scatterwords_k09_places_compared_holds : PySem.Challenge.rw_scatterwords_k09_places_compared.Holds := by
  w_on; o_law; k_head; (case hw => w_witness2)
  k_fill
  refine SW.walkT (l := PySem.Challenge.rw_scatterwords_k09_places_compared) (k := 31) ⟨rfl, by decide, by decide⟩ rfl rfl (fun w h Y => PySem.W.km_in_of Y) ?F
  case F =>
    intro w mg fa h Y KX G hmg
    refine' SW.fin KX G hmg ?bi ?hMAX ?Dcompare ?D_nodes_on_the_way ?D_inner ?D_law_draws ?D_law_draw ?D_law_pick ?D_law_great ?D_law_same ?D_law_field ?D_law_try ?D_law_tree ?D_law_word ?D_law_parts ?D_law_count ?D_law_places ?D_law_spots ?D_law_ahead ?D_law_wide ?D_law_spot ?D_law_bad_spot ?D_law_order ?Dlaw ?hEr0 ?hL (PySem.W.km_tabs_of Y _ (List.mem_singleton.mpr rfl)) ?h2 (PySem.W.codeHd_of_K KX ?h3)
    case bi =>
      refine' ⟨PySem.W.mg_none_of KX G ?b0, PySem.W.mg_none_of KX G ?b1, PySem.W.mg_none_of KX G ?b2, PySem.W.mg_none_of KX G ?b3, PySem.W.mg_none_of KX G ?b4, PySem.W.mg_none_of KX G ?b5, PySem.W.mg_none_of KX G ?b6, PySem.W.mg_none_of KX G ?b7, PySem.W.mg_none_of KX G ?b8, PySem.W.mg_none_of KX G ?b9, PySem.W.mg_none_of KX G ?b10, PySem.W.mg_none_of KX G ?b11, PySem.W.mg_none_of KX G ?b12, PySem.W.mg_none_of KX G ?b13, PySem.W.mg_none_of KX G ?b14, PySem.W.mg_none_of KX G ?b15, PySem.W.mg_none_of KX G ?b16, PySem.W.mg_none_of KX G ?b17, PySem.W.mg_none_of KX G ?b18⟩
      (case b0 => k_is)
      (case b1 => k_is)
      (case b2 => k_is)
      (case b3 => k_is)
      (case b4 => k_is)
      (case b5 => k_is)
      (case b6 => k_is)
      (case b7 => k_is)
      (case b8 => k_is)
      (case b9 => k_is)
      (case b10 => k_is)
      (case b11 => k_is)
      (case b12 => k_is)
      (case b13 => k_is)
      (case b14 => k_is)
      (case b15 => k_is)
      (case b16 => k_is)
      (case b17 => k_is)
      (case b18 => k_is)
    case hMAX =>
      refine' ⟨_, PySem.W.mg_of KX G ?a, ?e⟩
      (case a => k_is); (case e => exact ⟨_, rfl⟩)
    case Dcompare =>
      refine' SW.df_mk KX G ?a ?l ?c ?k (fun _ _ _ _ _ _ us hl => match us, hl with | [_, _, _], _ => rfl)
      (case a => k_is); (case l => k_is); (case c => k_is); (case k => k_is)
    case D_nodes_on_the_way =>
      refine' SW.df_mk KX G ?a ?l ?c ?k (fun _ _ _ _ _ _ us hl => match us, hl with | [_, _], _ => rfl)
      (case a => k_is); (case l => k_is); (case c => k_is); (case k => k_is)
    case D_inner =>
      refine' SW.df_mk KX G ?a ?l ?c ?k (fun _ _ _ _ _ _ us hl => match us, hl with | [_, _], _ => rfl)
      (case a => k_is); (case l => k_is); (case c => k_is); (case k => k_is)
    case D_law_draws =>
      refine' SW.df_mk KX G ?a ?l ?c ?k (fun _ _ _ _ _ _ us hl => match us, hl with | [_], _ => rfl)
      (case a => k_is); (case l => k_is); (case c => k_is); (case k => k_is)
    case D_law_draw =>
      refine' SW.df_mk KX G ?a ?l ?c ?k (fun _ _ _ _ _ _ us hl => match us, hl with | [_, _], _ => rfl)
      (case a => k_is); (case l => k_is); (case c => k_is); (case k => k_is)
    case D_law_pick =>
      refine' SW.df_mk KX G ?a ?l ?c ?k (fun _ _ _ _ _ _ us hl => match us, hl with | [_, _], _ => rfl)
      (case a => k_is); (case l => k_is); (case c => k_is); (case k => k_is)
    case D_law_great =>
      refine' SW.df_mk KX G ?a ?l ?c ?k (fun _ _ _ _ _ _ us hl => match us, hl with | [_], _ => rfl)
      (case a => k_is); (case l => k_is); (case c => k_is); (case k => k_is)
    case D_law_same =>
      refine' SW.df_mk KX G ?a ?l ?c ?k (fun _ _ _ _ _ _ us hl => match us, hl with | [_, _], _ => rfl)
      (case a => k_is); (case l => k_is); (case c => k_is); (case k => k_is)
    case D_law_field =>
      refine' SW.df_mk KX G ?a ?l ?c ?k (fun _ _ _ _ _ _ us hl => match us, hl with | [_], _ => rfl)
      (case a => k_is); (case l => k_is); (case c => k_is); (case k => k_is)
    case D_law_try =>
      refine' SW.df_mk KX G ?a ?l ?c ?k (fun _ _ _ _ _ _ us hl => match us, hl with | [_], _ => rfl)
      (case a => k_is); (case l => k_is); (case c => k_is); (case k => k_is)
    case D_law_tree =>
      refine' SW.df_mk KX G ?a ?l ?c ?k (fun _ _ _ _ _ _ us hl => match us, hl with | [_, _, _], _ => rfl)
      (case a => k_is); (case l => k_is); (case c => k_is); (case k => k_is)
    case D_law_word =>
      refine' SW.df_mk KX G ?a ?l ?c ?k (fun _ _ _ _ _ _ us hl => match us, hl with | [_], _ => rfl)
      (case a => k_is); (case l => k_is); (case c => k_is); (case k => k_is)
    case D_law_parts =>
      refine' SW.df_mk KX G ?a ?l ?c ?k (fun _ _ _ _ _ _ us hl => match us, hl with | [_], _ => rfl)
      (case a => k_is); (case l => k_is); (case c => k_is); (case k => k_is)
    case D_law_count =>
      refine' SW.df_mk KX G ?a ?l ?c ?k (fun _ _ _ _ _ _ us hl => match us, hl with | [_, _], _ => rfl)
      (case a => k_is); (case l => k_is); (case c => k_is); (case k => k_is)
    case D_law_places =>
      refine' SW.df_mk KX G ?a ?l ?c ?k (fun _ _ _ _ _ _ us hl => match us, hl with | [_], _ => rfl)
      (case a => k_is); (case l => k_is); (case c => k_is); (case k => k_is)
    case D_law_spots =>
      refine' SW.df_mk KX G ?a ?l ?c ?k (fun _ _ _ _ _ _ us hl => match us, hl with | [_, _, _], _ => rfl)
      (case a => k_is); (case l => k_is); (case c => k_is); (case k => k_is)
    case D_law_ahead =>
      refine' SW.df_mk KX G ?a ?l ?c ?k (fun _ _ _ _ _ _ us hl => match us, hl with | [_, _, _], _ => rfl)
      (case a => k_is); (case l => k_is); (case c => k_is); (case k => k_is)
    case D_law_wide =>
      refine' SW.df_mk KX G ?a ?l ?c ?k (fun _ _ _ _ _ _ us hl => match us, hl with | [_], _ => rfl)
      (case a => k_is); (case l => k_is); (case c => k_is); (case k => k_is)
    case D_law_spot =>
      refine' SW.df_mk KX G ?a ?l ?c ?k (fun _ _ _ _ _ _ us hl => match us, hl with | [_, _], _ => rfl)
      (case a => k_is); (case l => k_is); (case c => k_is); (case k => k_is)
    case D_law_bad_spot =>
      refine' SW.df_mk KX G ?a ?l ?c ?k (fun _ _ _ _ _ _ us hl => match us, hl with | [_, _, _], _ => rfl)
      (case a => k_is); (case l => k_is); (case c => k_is); (case k => k_is)
    case D_law_order =>
      refine' SW.df_mk KX G ?a ?l ?c ?k (fun _ _ _ _ _ _ us hl => match us, hl with | [_, _, _], _ => rfl)
      (case a => k_is); (case l => k_is); (case c => k_is); (case k => k_is)
    case Dlaw =>
      refine' SW.df_mk KX G ?a ?l ?c ?k (fun _ _ _ _ _ _ us hl => match us, hl with | [_], _ => rfl)
      (case a => k_is); (case l => k_is); (case c => k_is); (case k => k_is)
    case hEr0 =>
      refine' ⟨_, _, _, SW.bas_mk KX G ?a ?fc ?l ?lT ?dT ?rT ?c ?k ?rd ?sg ?hb, SW.fun0_mk ?fl ?fcd ?fk ?fhb, ?fi, ?ft, SW.er_mk ?el ?e2 ?er ?esa ?eex ?ety ?ekp ?erd ?efd ?ega ?egt ?efc ?esp ?etk ?emr ?ec1 ?ec2 ?ec3, PySem.W.mg_of KX G ?em, SW.errc_mk ?x1 ?x2 ?x3 ?x4 ?n1 ?n2 ?n3 ?n4 ?n5 ?n6, SW.exm_mk ?xm1 ?xm2 ?xm3 ?xm4, ?mm⟩
      (case a => k_is); (case fc => k_is); (case l => k_is); (case lT => k_is); (case dT => rfl); (case rT => exact SW.relstr (by decide +kernel)); (case c => k_is); (case k => k_is); (case rd => k_is); (case sg => k_is)
      (case hb => exact fun _ _ _ _ _ _ _ us its h1 h2 => match us, its, h1, h2 with | [_, _], [_], _, _ => ⟨_, rfl, rfl⟩)
      (case em => k_is)
      (case mm => exact ⟨_, PySem.W.mg_of KX G (by k_is)⟩)
      (case fi => k_is); (case ft => k_is); (case fl => k_is); (case fcd => k_is); (case fk => k_is)
      (case fhb => exact fun _ _ _ _ _ _ us hl => match us, hl with | [_], _ => rfl)
      (case el => k_is); (case e2 => rfl); (case er => rfl); (case esa => k_is); (case eex => k_is); (case ety => k_is); (case ekp => k_is); (case erd => k_is); (case efd => k_is); (case ega => k_is); (case egt => k_is); (case efc => k_is); (case esp => k_is); (case etk => k_is); (case emr => k_is); (case ec1 => k_is); (case ec2 => k_is); (case ec3 => k_is)
      (case x1 => k_is); (case x2 => k_is); (case x3 => k_is); (case x4 => k_is); (case n1 => k_is); (case n2 => k_is); (case n3 => k_is); (case n4 => k_is); (case n5 => k_is); (case n6 => k_is)
      (case xm1 => k_is); (case xm2 => first | rfl | kernel_rfl | k_is); (case xm3 => k_is); (case xm4 => k_is)
    case hL =>
      refine' SW.dfC_mk KX G ?a ?l ?c
      (case a => k_is); (case l => k_is); (case c => k_is)
    case h2 => first | rfl | kernel_rfl
    case h3 => first | rfl | kernel_rfl
