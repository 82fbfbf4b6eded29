import PyProof.Rows.All
import Wide.All
import OpenK.AllK
import Wide.FinOn
import HandS.ForMost
import HandS.Codes
import HandS.Walk
import HandS.DictComp
import HandS.ListItems
import HandS.Property
import HandS.Wide
import HandS.Style
import HandS.More
import HandS.Defaults
import HandS.MakeKwOnly
import HandS.IsInst
import HandS.SetBool
import PySem.Challenge.RW_dueclocks_k02_calendars_as_constructed
set_option Elab.async false
set_option linter.all false
set_option maxRecDepth 100000
set_option maxHeartbeats 4000000
namespace DK
open PySem PySem.Spec PyProof.Rows L2

/-- a def that is only run where no repr is under way -/
structure FnG (P : Program) (w : World) (K : PySem.W.Frag) (mg : Str → Option Value) (b0 : Heap) (k : Nat) (f : Addr)
    (fd : FuncData) (ps : List Str) (sp : Sp) : Prop where
  size : ∀ vs H Q E, sp vs H Q E → vs.length = ps.length
  go : ∀ (B : Around) (stk : List Env) (s : Shared) (H : Hp) (ar : Args) (us : List Value) (vs : List V) (Q : VK) (E : XK),
    B.guards = some [] → Room k B → Env0 P w K mg b0 B stk s H → BindsTo s fd ar (ps.zip us) → Vals vs us → sp vs H Q E →
      codeAny (model P w) B (.call (.ref f) ar) (CR CX0 stk P w H s Q E) s

section
variable {P : Program} {w : World} {K : PySem.W.Frag} {mg : Str → Option Value} {b0 : Heap}

theorem okG {x qual : Str} {st : Stmt} {f : Addr} {fd : FuncData} {N ps : List Str} {k : Nat} {sp : Sp}
    (F : Fun K x qual st f fd) (S : FnScope N ps (defScope st)) (size : ∀ vs H Q E, sp vs H Q E → vs.length = ps.length)
    (body : ∀ (cdv : Value) (B : Around) (stk : List Env) (s : Shared) (H : Hp) (vs : List V) (Q : VK) (E : XK),
      B.guards = some [] → Room k (B.deeper (envOfC qual (defScope st) s.heap.objs.size f cdv)) → sp vs H Q E →
      ∃ t, PSs (cxOf CX0 P w K mg b0 N qual (defScope st) f cdv B stk s H E).nox (defBody st) t ∧
        t { nx := fun _ J => Q .non J, rt := Q } (start N vs) H) : FnG P w K mg b0 (k + 1) f fd ps sp := by
  obtain ⟨oc, od, kV, dc, pm, an, cv, ct, osl, rfl, hf, hcode⟩ := F.ex
  refine ⟨size, fun B stk s H ar us vs Q E hgd hr env hbi hv hs => ?_⟩
  have hlen := size _ _ _ _ hs
  have inK : K.In s.heap := env.mod.kin.keeps fun c u g => (env.bs c u g).1
  have noL : s.heap.NoLimit := env.mod.nolimit.keeps fun c u g => (env.bs c u g).1
  have kinds : ∀ z ∈ ps.zip us, (defScope st).names.lookup z.1 = some .local ∨
      ((defScope st).names.lookup z.1 = some .cell ∧
        ((cellsFrom (s.heap.objs.size + 1) (defScope st).names []).lookup z.1).isSome = true) := by
    rintro ⟨n, v⟩ hz
    rcases S.par n (List.of_mem_zip hz).1 with g | g
    · exact Or.inl g
    · exact Or.inr ⟨g, PySem.W.cellsFrom_some _ _ _ (Or.inl g)⟩
  refine codeAny_call_function hr.depth (inK _ _ hf) rfl S.co S.gen rfl (PySem.W.codeRec_of inK hcode) (hbi _ _ _ _ ?_)
  refine wpAny_newFunctionEnv_cells S.kind kinds fun en hen s2 inc => ?_
  subst hen
  refine ⟨noL.keeps inc.toInCall.keep, codeAny_func ?_⟩
  obtain ⟨t, ht0, hq⟩ := body cv B stk s H vs Q E hgd (hr.deeper _) hs
  have ht := ht0.nox
  have I : Inv (cxOf CX0 P w K mg b0 N qual (defScope st) f cv B stk s H E) [] (start N vs) H s2 := inv_start S hr.hd env hlen hv inc
  refine wpAny_mono (ht.run [] s2 (start N vs) H _ I hq) (fun fl s3 h3 => ?_) fun e s3 h3 => h3
  have close : ∀ {τ : L2.St} {J : Hp} {v : V} {u : Value}, Inv (cxOf CX0 P w K mg b0 N qual (defScope st) f cv B stk s H E) [] τ J s3 →
      RelV v u → Q v J → CE stk P w H s Q u s3 := fun {τ J v u} I3 rv q => ⟨v, J, I3.os, I3.bare, I3.base, I3.hok, rv, q⟩
  cases fl with
  | next =>
    obtain ⟨τ, J, I3, q⟩ := h3
    exact close (v := V.non) (u := Value.none) I3 rfl q
  | ret u =>
    obtain ⟨v, τ, J, I3, rv, q⟩ := h3
    exact close I3 rv q
  | cont =>
    obtain ⟨_, _, _, q⟩ := h3
    exact q.elim
  | brk =>
    obtain ⟨_, _, _, q⟩ := h3
    exact q.elim
end

section
variable {X : Cx}
/-- f(e, ..) of such a def -/
theorem pe_callG {k : Nat} {f : Addr} {fd : FuncData} {ps : List Str} {sp : Sp} {x : Str} {p pos : Pos} {e : Expr} {es : List Expr} {t : TA}
    (F : FnG X.prog X.w X.K X.mg X.base k f fd ps sp) (hgd : X.A.guards = some []) (hr : Room k X.A) (hg : Gl X x)
    (hm : X.mg x = some (.ref f)) (hk : PySem.W.keepIn X.K (.ref f) = true) (hb : Binds X.K fd ps []) (ha : PA X (e :: es) t)
    (hdb : (x == ("__debug__" : Str)) = false := by decide)
    (he : starEach (e :: es) X.env = (false, eval e X.env) :: starEach es X.env := by rfl)
    (hpl : (backTo pos (starEach es X.env)).any (·.1) = false := by rfl) :
    PE X (.Call (.Name x p) (e :: es) [] pos) (tCall sp [] E0 t) := by
  refine ⟨fun pins s σ H Q I h => ?_⟩
  refine wpAny_Call_Name_kw (ld_glob I hg hm ?_ hdb)
  refine PySem.W.callWith_K (h₀ := X.base) I.ok.mod.kin hk (thn (ha.run pos pins s σ H _ I h) fun us s1 hh => ?_) he hpl
  obtain ⟨vs, J, I1, r, q⟩ := hh
  refine ⟨I1.kIn, ?_⟩
  rw [List.append_nil] at q
  have hl : us.length = ps.length := r.length.symm.trans (F.size _ _ _ _ q)
  have bi := hb s1 us I1.kIn (by rw [List.append_nil]; exact hl)
  rw [List.append_nil] at bi
  refine wpAny_call (codeAny_mono (F.go X.A X.stack s1 J ⟨us, []⟩ us vs Q E0 hgd hr I1.env0 bi r q) fun res s2 hq => ?_)
  cases res with
  | error er => exact False.elim hq
  | ok fl =>
    cases fl with
    | ret u => exact I1.after hq
    | next => exact False.elim hq
    | brk => exact False.elim hq
    | cont => exact False.elim hq

/-- repr(x), x a list or a tuple of data -/
def rRepr (K : PySem.W.Frag) : List V → Hp → VK → Prop := fun xs H Q => ∃ (a : Addr) (d : PyData), xs = [.ref a] ∧ Dp K H (.ref a) d ∧
  d.showable = true ∧ d.hasDict = false ∧ d.depth ≤ 60 ∧ d.shown.length ≤ sizeLine ∧ Q (.str d.shown) H
theorem call_repr (hgd : X.A.guards = some []) (hu : X.A.units + 64 < cLine) : CallR X (.builtin "repr") (rRepr X.K) := by
  intro pins s σ H xs us Q I r h
  obtain ⟨a, d, rfl, hd, hs, hn, hdp, hz, q⟩ := h
  cases r with
  | cons r1 r2 =>
    cases r2
    rename_i u
    obtain rfl : u = Value.ref a := r1
    obtain ⟨as, rd⟩ := Dp.reads I d _ _ hd (show RelV (V.ref a) (Value.ref a) from rfl)
    refine repr_of_reads' rd hs (PyData.noDict_hsm hn) hgd (by omega) (fun _ _ e => e) (fun h' u tk hk => ?_) hz
    exact ⟨.str d.shown, H, I.kept hk, ⟨u, rfl⟩, q⟩
end

/-- what is hidden of the heap behind the top: the script alone, where it is not the module's own -/
structure Veil (P : Program) (w : World) (K : PySem.W.Frag) (h : Heap) (a : Addr) (ns : List Int) (H : Hp) : Prop where
  only : Only H
  at_ : SqL K H a (ns.map V.int)
  ok : HOk P w H h
  one : ∀ c, H c ≠ none → c = a
  out : H a ≠ none → K.lookup a = none

theorem veil_of {P : Program} {w : World} {K : PySem.W.Frag} {h : Heap} {a : Addr} {us : List Value} {ns : List Int} (inK : K.In h)
    (ha : h.get? a = some { cls := .type "list", data := .seq us.toArray }) (hi : IntsAre us ns) (hz : ns.length ≤ sizeLine) :
    ∃ H, Veil P w K h a ns H := by
  have rv := vals_ints hi
  cases hk : K.lookup a with
  | some o =>
    have e := (inK a o hk).symm.trans ha
    cases e
    refine ⟨fun _ => none, fun _ => Or.inl rfl, Or.inr ⟨_, us.toArray, _, hk, rfl, rfl, rfl, ?_, ?_⟩, fun c u z => ?_, fun c z => absurd rfl z, fun z => absurd rfl z⟩
    · rw [List.size_toArray, hi.length]
      exact hz
    · simpa using rv
    · exact nomatch (show (none : Option HO) = some u from z)
  | none =>
    let O : Obj := { cls := .type "list", data := .seq us.toArray }
    let H : Hp := fun c => if c = a then some (.frz O (.lst (ns.map V.int))) else none
    have hA : H a = some (.frz O (.lst (ns.map V.int))) := if_pos rfl
    have hN : ∀ c, c ≠ a → H c = none := fun c g => if_neg g
    refine ⟨H, fun c => ?_, Or.inl (Or.inr ⟨O, hA⟩), fun c u z => ?_, fun c z => ?_, fun _ => hk⟩
    · by_cases g : c = a
      · subst g
        exact Or.inr ⟨_, _, hA⟩
      · exact Or.inl (hN c g)
    · by_cases g : c = a
      · subst g
        have z2 := hA.symm.trans z
        cases z2
        refine ⟨ha, ?_, us, _, rv, ha⟩
        rw [List.length_map]
        exact hz
      · exact nomatch (hN c g).symm.trans z
    · by_cases g : c = a
      · exact g
      · exact absurd (hN c g) z

theorem lawG {P : Program} {w : World} {K : PySem.W.Frag} {mg mb : Str → Option Value} {k : Nat} {fa a : Addr} {fd : FuncData} {x : Str} {sp : Sp} {s : Shared} {us : List Value} {ns : List Int}
    (inK : K.In s.heap) (hmg : s.heap.Ns mainGlobals mg) (hmb : s.heap.Ns builtinsNs mb) (hbo : ∀ y : Str, y ≠ "__name__" → mb y = bootBuiltins y)
    (noL : s.heap.NoLimit) (gen : s.gens = #[]) (ha : s.heap.get? a = some { cls := .type "list", data := .seq us.toArray })
    (hi : IntsAre us ns) (hz : ns.length ≤ sizeLine) (hr : Room k callerA)
    (F : ∀ b0 : Heap, K.In b0 → b0.Ns mainGlobals mg → FnG P w K mg b0 k fa fd [x] sp)
    (bind : ∀ (t : Shared) (u : Value), BindsTo t fd ⟨[u], []⟩ [(x, u)])
    (hsp : ∀ H : Hp, Only H → SqL K H a (ns.map V.int) → sp [.ref a] H (fun v _ => v = .bl true) E0) :
    codeAny (model P w) callerA (.call (.ref fa) ⟨[.ref a], []⟩)
      (fun r t => r = .ok (.ret (.bool true)) ∧ OldK s.heap t.heap ∧ t.os = s.os ∧ AllBare t.gens) s := by
  obtain ⟨H, W⟩ := veil_of (P := P) (w := w) inK ha hi hz
  have through : ∀ {c : Addr} {o : Obj}, s.heap.get? c = some o → H c = none → (hidT s.heap H).get? c = some o := fun g n => hidT_get g n
  have dicts : ∀ {c : Addr} {o : Obj} {es : Array DictEntry} {ep : Nat}, s.heap.get? c = some o → o.data = .dict es ep → H c = none := by
    intro c o es ep g d
    by_cases n : H c = none
    · exact n
    · have := W.one c n
      subst this
      rw [ha] at g
      cases g
      exact nomatch d
  have names : ∀ {c : Addr} {m : Str → Option Value}, s.heap.Ns c m → (hidT s.heap H).Ns c m := fun {c m} ⟨o, es, ep, g, d, r⟩ => ⟨o, es, ep, through g (dicts g d), d, r⟩
  have inB : K.In (hidT s.heap H) := by
    intro c o g
    refine through (inK c o g) ?_
    by_cases n : H c = none
    · exact n
    · have e := W.one c n
      subst e
      rw [W.out n] at g
      exact nomatch g
  have md : Mod K mg (hidT s.heap H) := ⟨inB, names hmg, ⟨mb, names hmb, hbo⟩, noL.elim fun mc q => ⟨mc, names q.1, q.2⟩⟩
  have nil : ∀ c : Addr, c ∉ ([] : List Addr) := fun c q => nomatch q
  have env : Env0 P w K mg (hidT s.heap H) callerA [] s H :=
    ⟨rfl, md, fun c o g => of_hidT g, Nat.le_of_eq (hidT_size _ _), trivial, fun c q => absurd q (nil c), W.ok, .of_eq gen⟩
  refine codeAny_mono ((F _ inB (names hmg)).go callerA [] s H ⟨[.ref a], []⟩ [.ref a] [.ref a] _ _ rfl hr env (bind s (.ref a)) (.cons rfl .nil) (hsp H W.only W.at_)) fun r t q => ?_
  rcases r with er | fl
  · exact False.elim q
  · rcases fl with _ | _ | _ | u
    iterate 3 exact False.elim q
    · obtain ⟨v, H', os, bare, un, ok2, rv, rfl⟩ := q
      obtain rfl : u = Value.bool true := rv
      refine ⟨rfl, OldK.of_keep fun c o g => ?_, os, bare⟩
      by_cases n : H c = none
      · exact un.keep c o g n (fun z => absurd z (nil c)) (nil c)
      · rcases W.only c with z | ⟨O, xs, z⟩
        · exact absurd z n
        · have e1 := (W.ok c _ z).1
          have e2 := (ok2 c _ (un.frzs c O _ z)).1
          rw [g] at e1
          cases e1
          exact e2
/-- the end of a law row -/
theorem walkG {l : PySem.W.OpenLaw} {n k : Nat} {q : Program} {loose : List Str} {XP : (Str → Option Value) → Heap → Prop} {YP : World → Heap → Prop} {d : DefRec} {K : Params → PySem.W.Frag} {sp : PySem.W.Frag → Sp} {x : Str}
    (hn : l.most = some n) (hn2 : n ≤ sizeLine) (hdf : d.params.defaults = []) (hr : Room k callerA)
    (hY : ∀ (w : World) (h : Heap), YP w h → (K w.params).In h)
    (F : ∀ (w : World) (mg : Str → Option Value) (fa : Addr) (h : Heap), (K w.params).In h → h.Ns mainGlobals mg → mg d.name = some (.ref fa) →
      ∃ fd : FuncData, (∀ (t : Shared) (u : Value), BindsTo t fd ⟨[u], []⟩ [(x, u)]) ∧
        ∀ b0 : Heap, (K w.params).In b0 → b0.Ns mainGlobals mg → FnG l.prog w (K w.params) mg b0 k fa fd [x] (sp (K w.params)))
    (hsp : ∀ (J : PySem.W.Frag) (H : Hp) (a : Addr) (ns : List Int), ns.length ≤ n → Only H → SqL J H a (ns.map V.int) → sp J [.ref a] H (fun v _ => v = .bl true) E0) :
    PySem.W.WalkO q loose XP YP l.row.toRowW d [] (fun f vs => PySem.call f vs) := by
  refine Att.attach_call hn hdf fun w s₀ s₁ mg mb fa o pm cd doc a vs ns G Y ho hd hcd hmg hobj hints hlen hg => ?_
  have inK := hY w _ Y
  obtain ⟨fd, bi, hF⟩ := F w mg fa _ inK G.T.g hmg
  exact lawG inK G.T.g G.T.b G.T.builtins G.T.nolimit hg hobj hints (Nat.le_trans hlen hn2) hr hF bi fun H hO hS => hsp _ H a ns hlen hO hS
def top (i : Nat) : Stmt := PySem.Challenge.pw_dueclocks_k02_calendars_as_constructed.main.body.getD i (.Pass ⟨0, 0, 0, 0⟩)
abbrev sWell : Stmt := top 23
abbrev sTake : Stmt := top 24
abbrev sNumber : Stmt := top 25
abbrev sPaces : Stmt := top 26
abbrev sMarks : Stmt := top 27
abbrev sTold : Stmt := top 28
abbrev sFits : Stmt := top 29
abbrev sLaw : Stmt := top 30
abbrev sIsSpeed : Stmt := top 17
abbrev sChkSpeeds : Stmt := top 18
abbrev sChkChanges : Stmt := top 19
abbrev sInit : Stmt := inClass (top 21) 0
abbrev sWeek : Stmt := inClass (top 21) 1
abbrev sSpeeds : Stmt := inClass (top 21) 2
abbrev sChanges : Stmt := inClass (top 21) 3
abbrev sGet : Stmt := inClass (top 21) 4
abbrev sHas : Stmt := inClass (top 21) 6
abbrev sEq : Stmt := inClass (top 21) 10
abbrev sErr : Stmt := inClass (top 2) 0
abbrev sWeeks : Stmt := top 11
abbrev sMoved : Stmt := inClass (top 21) 9
abbrev sOr : Stmt := inClass (top 21) 7
abbrev sAnd : Stmt := inClass (top 21) 8
abbrev sPairs : Stmt := top 20
abbrev sChanged : Stmt := top 14
abbrev sChkWeek : Stmt := top 10
abbrev sBehind : Stmt := top 12
/-! ### the well -/
def Fr (p : Addr) (H H' : Hp) : Prop := ∀ b o, H b = some o → b ≠ p → H' b = some o
theorem Fr.refl (p : Addr) (H : Hp) : Fr p H H := fun _ _ h _ => h
theorem Fr.trans {p : Addr} {H H1 H2 : Hp} (a : Fr p H H1) (b : Fr p H1 H2) : Fr p H H2 := fun c o h g => b c o (a c o h g) g
theorem Fr.of {p : Addr} {H H' : Hp} (a : Same H H') : Fr p H H' := fun c o h _ => a c o h
theorem Fr.at_ {p : Addr} {o : HO} {H : Hp} : Fr p H (upd H p o) := fun b u h g => by
  rw [upd_ne g]
  exact h
theorem Fr.new {p q : Addr} {o : HO} {H : Hp} (h : H q = none) : Fr p H (upd H q o) := fun b u e _ => by
  rw [upd_ne (ne_of_none e h)]
  exact e
theorem Fr.seq {K : PySem.W.Frag} {p a : Addr} {H H' : Hp} {xs : List V} (f : Fr p H H') (g : a ≠ p) (h : SqL K H a xs) : SqL K H' a xs := by
  rcases h with (h | ⟨o, h⟩) | h
  · exact .inl (.inl (f _ _ h g))
  · exact .inl (.inr ⟨o, f _ _ h g⟩)
  · exact .inr h
theorem same_new {H : Hp} {q : Addr} {o : HO} (h : H q = none) : Same H (upd H q o) := fun b u e => by
  rw [upd_ne (ne_of_none e h)]
  exact e
/-- a well at p, from which n or fewer draws were mixed -/
def Well (H : Hp) (p : Addr) (n : Nat) : Prop := ∃ a b c : Int, H p = some (.lst [.int a, .int b, .int c]) ∧ 0 ≤ b ∧ b < 2 ^ 62 ∧ 0 ≤ c ∧ c ≤ n
theorem Well.mono {H : Hp} {p : Addr} {n m : Nat} (h : Well H p n) (g : n ≤ m) : Well H p m := by
  obtain ⟨a, b, c, h1, h2, h3, h4, h5⟩ := h
  exact ⟨a, b, c, h1, h2, h3, h4, by omega⟩
theorem Well.same {H H' : Hp} {p : Addr} {n : Nat} (h : Well H p n) (g : Same H H') : Well H' p n := by
  obtain ⟨a, b, c, h1, h2⟩ := h
  exact ⟨a, b, c, g _ _ h1, h2⟩
theorem Well.new {H : Hp} {p q : Addr} {n : Nat} {o : HO} (h : Well H p n) (g : H q = none) : Well (upd H q o) p n := h.same (same_new g)
theorem Well.upd_ne {H : Hp} {p q : Addr} {n : Nat} {o : HO} (h : Well H p n) (g : p ≠ q) : Well (upd H q o) p n := by
  obtain ⟨a, b, c, h1, h2⟩ := h
  exact ⟨a, b, c, by rw [L2.upd_ne g]; exact h1, h2⟩
theorem Well.ne {H : Hp} {p q : Addr} {n : Nat} (h : Well H p n) (g : H q = none) : p ≠ q := by
  obtain ⟨a, b, c, h1, h2⟩ := h
  exact ne_of_none h1 g
def spTake : Sp := fun vs H Q _ => ∃ (p : Addr) (n : Nat) (m : Int), vs = [.ref p, .int m] ∧ Well H p n ∧ n ≤ 10 ^ 9 ∧ 0 < m ∧ m < 2 ^ 200 ∧
  ∀ (r : Int) (H' : Hp), 0 ≤ r → r < m → Fr p H H' → Well H' p (n + 1) → Q (.int r) H'
theorem spTake_ok {p : Addr} {n : Nat} {m : Int} {H : Hp} {Q : VK} {E : XK} (h : Well H p n) (hn : n ≤ 10 ^ 9) (h0 : 0 < m) (h1 : m < 2 ^ 200)
    (q : ∀ (r : Int) (H' : Hp), 0 ≤ r → r < m → Fr p H H' → Well H' p (n + 1) → Q (.int r) H') : spTake [.ref p, .int m] H Q E := ⟨p, n, m, rfl, h, hn, h0, h1, q⟩
/-- the built-in names are still the built-in ones -/
structure Blt (mg : Str → Option Value) : Prop where
  int : mg "int" = none
  len : mg "len" = none
  abs : mg "abs" = none
  max : mg "max" = none
  min : mg "min" = none
  range : mg "range" = none
  repr : mg "repr" = none
  list : mg "list" = none
theorem set0 (a b c v : V) : ([a, b, c] : List V).set 0 v = [v, b, c] := rfl
theorem set2 (a b c v : V) : ([a, b, c] : List V).set 2 v = [a, b, v] := rfl
section
variable {P : Program} {w : World} {K : PySem.W.Frag} {mg : Str → Option Value} {base : Heap}
theorem scTake : FnScope ["well", "many", "taken", "mixed"] ["well", "many"] (defScope sTake) := ⟨rfl, rfl, rfl, by decide +kernel, rfl, by decide +kernel, by decide +kernel⟩
theorem ok_take {f : Addr} {fd : FuncData} (F : Fun K "_law_take" "_law_take" sTake f fd) (T : Blt mg) : FnOk P w K mg base CX0 1 f fd ["well", "many"] spTake := by
  refine F.ok scTake (fun vs H Q E h => ?_) (fun cdv A outer s H vs Q E hr h => ?_)
  · obtain ⟨p, n, m, rfl, _⟩ := h
    rfl
  · obtain ⟨p, n, m, rfl, ⟨a, b, c, hp, b0, b1, c0, c1⟩, hn, m0, m1, k⟩ := h
    refine ⟨_, pss_cons (ps_if (pt_cmpR op_gt (pe_ix ix_list (pv 0) pe_int (fun _ _ => rfl)) pe_int (nomark _))
      (pss_cons (ps_set (i := 2) scTake.nd rfl (.inl rfl) (pe_op op_mod (pe_callTy call_int1 (by rfl) T.int (by decide +kernel) (pa_cons (pe_ix ix_list (pv 0) pe_int (fun _ _ => rfl)) pa_nil)) (pv 1)))
      (pss_cons (ps_asg (pe_op op_fdivW (pe_ix ix_list (pv 0) pe_int (fun _ _ => rfl)) (pv 1)) (pg_sub (pv 0) pe_int set_list))
      (pss_one (ps_ret (pv 2))))) pss_nil)
      (pss_cons (ps_asg (pe_op op_add (pe_ix ix_list (pv 0) pe_int (fun _ _ => rfl)) pe_int) (pg_sub (pv 0) pe_int set_list))
      (pss_cons (ps_set (i := 3) scTake.nd rfl (.inl rfl) (pe_op op_add (pe_op op_pow (pe_op op_add (pe_ix ix_list (pv 0) pe_int (fun _ _ => rfl)) (pe_op op_mul pe_int (pe_ix ix_list (pv 0) pe_int (fun _ _ => rfl)))) pe_int) (pe_op op_mul pe_int (pe_ix ix_list (pv 0) pe_int (fun _ _ => rfl)))))
      (pss_cons (ps_set (i := 3) scTake.nd rfl (.inl rfl) (pe_op op_add (pe_op op_mod (pe_callTy call_int1 (by rfl) T.int (by decide +kernel) (pa_cons (pv 3) pa_nil)) pe_int) (pe_op op_mul pe_int (pe_ix ix_list (pv 0) pe_int (fun _ _ => rfl)))))
      (pss_cons (ps_set (i := 3) scTake.nd rfl (.inl rfl) (pe_op op_mod (pe_callTy call_int1 (by rfl) T.int (by decide +kernel) (pa_cons (pe_op op_pow (pv 3) pe_int) pa_nil)) pe_int))
      (pss_one (ps_ret (pe_op op_mod (pe_callTy call_int1 (by rfl) T.int (by decide +kernel) (pa_cons (pe_op op_fdiv (pv 3) pe_int) pa_nil)) (pv 1)))))))), ?_⟩
    refine ⟨_, rfl, p, _, 0, _, rfl, rfl, SqL.of hp, atI_nat (j := 0) rfl, _, _, rfl, rfl, _, rfl, ite2 (fun hw => ?_) (fun hw => ?_)⟩
    · refine ⟨_, rfl, p, _, 0, _, rfl, rfl, SqL.of hp, atI_nat (j := 0) rfl, .inl ⟨_, rfl, _, rfl, a, m, rfl, rfl, m0, ?_⟩⟩
      refine ⟨_, rfl, p, _, 0, _, rfl, rfl, SqL.of hp, atI_nat (j := 0) rfl, _, rfl, a, m, rfl, rfl, wide_div (b := 200) m0 (by omega) (by decide) (by decide), ?_⟩
      refine ⟨_, rfl, p, _, 0, 0, rfl, rfl, hp, rfl, ?_⟩
      refine ⟨_, rfl, k _ _ (Int.emod_nonneg _ (by omega)) (Int.emod_lt_of_pos _ m0) Fr.at_ ⟨a / m, b, c, upd_same, b0, b1, c0, by omega⟩⟩
    · refine ⟨_, rfl, p, _, 2, _, rfl, rfl, SqL.of hp, atI_nat (j := 2) rfl, _, _, rfl, rfl, ?_⟩
      refine ⟨_, rfl, p, _, 2, 2, rfl, rfl, hp, rfl, ?_⟩
      rw [set2]
      generalize hH : upd H p (.lst [.int a, .int b, .int (c + 1)]) = H1
      have h1 : H1 p = some (.lst [.int a, .int b, .int (c + 1)]) := by rw [← hH]; exact upd_same
      have e1 : (0 : Int) ≤ 6700417 * (c + 1) := by omega
      refine ⟨_, rfl, p, _, 1, _, rfl, rfl, SqL.of h1, atI_nat (j := 1) rfl, _, rfl, p, _, 2, _, rfl, rfl, SqL.of h1, atI_nat (j := 2) rfl, _, _, rfl, rfl, .inl ⟨by decide, by decide⟩, _, _, rfl, rfl, _, _, rfl, rfl, ⟨by decide, by decide, by omega⟩,
        _, rfl, p, _, 2, _, rfl, rfl, SqL.of h1, atI_nat (j := 2) rfl, _, _, rfl, rfl, .inl ⟨by decide, by decide⟩, _, _, rfl, rfl, ?_⟩
      refine ⟨_, rfl, .inl ⟨_, rfl, _, _, rfl, rfl, (by show (0 : Int) < 2305843009213693951; decide), _, rfl, p, _, 2, _, rfl, rfl, SqL.of h1, atI_nat (j := 2) rfl, _, _, rfl, rfl, .inl ⟨by decide, by decide⟩, _, _, rfl, rfl, ?_⟩⟩
      generalize hx : ((b + 6700417 * (c + 1)) ^ (3 : Int).toNat + 97 * (c + 1)) % 2305843009213693951 = x
      have x0 : 0 ≤ x := by rw [← hx]; exact Int.emod_nonneg _ (by decide)
      have x1 : x < 2305843009213693951 := by rw [← hx]; exact Int.emod_lt_of_pos _ (by decide)
      refine ⟨_, rfl, _, _, rfl, rfl, ⟨by decide, by decide, by omega⟩, .inl ⟨_, rfl, _, _, rfl, rfl, (by show (0 : Int) < 618970019642690137449562111; decide), ?_⟩⟩
      refine ⟨_, rfl, _, _, rfl, rfl, ⟨by decide, by decide⟩, .inl ⟨_, rfl, _, rfl, _, _, rfl, rfl, m0, ?_⟩⟩
      refine k _ _ (Int.emod_nonneg _ (by omega)) (Int.emod_lt_of_pos _ m0) ?_ ⟨a, b, c + 1, h1, b0, b1, by omega, by omega⟩
      rw [← hH]
      exact Fr.at_
end

/-! ### the draws of a law -/
theorem atI_ints {xs : List Int} {i : Int} (h0 : 0 ≤ i) (h1 : i < xs.length) : ∃ v, v ∈ xs ∧ xs[i.toNat]? = some v ∧ atI (xs.map V.int) i = some (.int v) := by
  obtain ⟨j, rfl⟩ : ∃ j : Nat, i = (j : Int) := ⟨i.toNat, by omega⟩
  have hj : j < xs.length := by omega
  refine ⟨xs[j], List.getElem_mem hj, by simp [hj], atI_nat (j := j) ?_⟩
  rw [List.getElem?_map, List.getElem?_eq_getElem hj]
  rfl
def spWell (K : PySem.W.Frag) : Sp := fun vs H Q _ => ∃ (a : Addr) (ns : List Int) (i : Int), vs = [.ref a, .int i] ∧ SqL K H a (ns.map V.int) ∧ ns.length ≤ 63 ∧ 0 ≤ i ∧ i ≤ 63 ∧
  ∀ (p : Addr) (H' : Hp), H p = none → Same H H' → Well H' p 0 → Q (.ref p) H'
def spNumber : Sp := fun vs H Q _ => ∃ (p : Addr) (n : Nat), vs = [.ref p] ∧ Well H p n ∧ n ≤ 10 ^ 8 ∧
  ∀ (r : Int) (H' : Hp), -10 ^ 30 < r → r < 10 ^ 30 → Fr p H H' → Well H' p (n + 4) → Q (.int r) H'
/-- a list of speeds that a calendar may have -/
structure Paces (xs : List Int) : Prop where
  lo : ∀ v ∈ xs, 0 ≤ v ∧ v ≤ 3
  pos : ∃ v ∈ xs, v ≠ 0
  len0 : 0 < xs.length
  len1 : xs.length ≤ 12
def spPaces : Sp := fun vs H Q _ => ∃ (p : Addr) (n : Nat) (z : Int), vs = [.ref p, .int z] ∧ Well H p n ∧ n ≤ 10 ^ 8 ∧ 1 ≤ z ∧ z ≤ 12 ∧
  ∀ (q : Addr) (xs : List Int) (H' : Hp), Paces xs → (xs.length : Int) = z → H q = none → q ≠ p → H' q = some (.lst (xs.map V.int)) → Fr p H H' → Well H' p (n + 20) → Q (.ref q) H'
section
variable {P : Program} {w : World} {K : PySem.W.Frag} {mg : Str → Option Value} {base : Heap}
theorem scWell : FnScope ["script", "place", "cell", "seed"] ["script", "place"] (defScope sWell) := ⟨rfl, rfl, rfl, by decide +kernel, rfl, by decide +kernel, by decide +kernel⟩
theorem ok_well {f : Addr} {fd : FuncData} (F : Fun K "_law_well" "_law_well" sWell f fd) (T : Blt mg) : FnOk P w K mg base CX0 1 f fd ["script", "place"] (spWell K) := by
  refine F.ok scWell (fun vs H Q E h => ?_) (fun cdv A outer s H vs Q E hr h => ?_)
  · obtain ⟨a, ns, i, rfl, _⟩ := h
    rfl
  · obtain ⟨a, ns, i, rfl, hS, hl, i0, i1, k⟩ := h
    refine ⟨_, pss_cons (ps_set (i := 2) scWell.nd rfl (.inl rfl) pe_int)
      (C8.pss_cut (ps_if (pt_cmpR op_lt (pv 1) (pe_callB call_len_seq (by rfl) T.len PySem.boot_len (pa_cons (pv 0) pa_nil)) (nomark _))
        (pss_one (ps_set (i := 2) scWell.nd rfl (.inl rfl) (pe_ix ix_list (pv 0) (pv 1) (fun _ _ => rfl)))) pss_nil)
      (pss_cons (ps_set (i := 3) scWell.nd rfl (.inl rfl) (pe_op op_mod (pe_callTy call_int1 (by rfl) T.int (by decide +kernel) (pa_cons (pe_op op_add (pe_op op_mul (pe_callB call_abs (by rfl) T.abs (by decide +kernel) (pa_cons (pv 2) pa_nil)) pe_int) (pe_callTy call_int1 (by rfl) T.int (by decide +kernel) (pa_cons (pe_cmpR op_lt (pv 2) pe_int (nomark _)) pa_nil))) pa_nil)) pe_int))
      (pss_one (ps_ret (pe_lst (pa_cons (pe_op op_mul (pv 2) (pe_callTy call_int1 (by rfl) T.int (by decide +kernel) (pa_cons (pe_cmpR op_ge (pv 2) (pe_op op_pow pe_int pe_int) (nomark _)) pa_nil))) (pa_cons (pe_op op_add (pv 3) (pe_op op_mul pe_int (pv 1))) (pa_cons pe_int pa_nil)))))))), ?_⟩
    refine ⟨fun σ H1 => H1 = H ∧ ∃ z : Int, σ = [some (.ref a), some (.int i), some (.int z), none], ?_, ?_⟩
    · refine ⟨_, rfl, _, rfl, a, _, rfl, .inl hS, _, _, rfl, rfl, _, rfl, ite2 (fun hc => ?_) (fun hc => ?_)⟩
      · have hi : i < ns.length := by
          have := of_decide_eq_true hc
          rw [List.length_map] at this
          exact this
        obtain ⟨v, hv, hv2, e⟩ := atI_ints i0 hi
        exact ⟨_, rfl, _, rfl, a, _, i, _, rfl, rfl, hS, e, rfl, v, rfl⟩
      · exact ⟨rfl, 0, rfl⟩
    · rintro σ H1 ⟨rfl, z, rfl⟩
      refine ⟨_, rfl, _, rfl, _, _, rfl, rfl, .inr ⟨by decide, by decide⟩, _, rfl, _, _, rfl, rfl, .inr ⟨_, rfl, _, _, rfl, rfl, .inl ⟨_, rfl, _, _, rfl, rfl, (by show (0 : Int) < 2305843009213693951; decide), ?_⟩⟩⟩
      generalize hx : ((if z < 0 then -z else z) * 2 + (if decide (z < 0) = true then (1 : Int) else 0)) % 2305843009213693951 = x
      have x0 : 0 ≤ x := by rw [← hx]; exact Int.emod_nonneg _ (by decide)
      have x1 : x < 2305843009213693951 := by rw [← hx]; exact Int.emod_lt_of_pos _ (by decide)
      refine ⟨_, rfl, _, rfl, _, _, rfl, rfl, ⟨by decide, by decide, by decide⟩, _, _, rfl, rfl, .inr ⟨_, rfl, _, _, rfl, rfl, .inr ?_, ?_⟩⟩
      · split <;> exact ⟨by decide, by decide⟩
      refine ⟨_, rfl, _, rfl, _, _, rfl, rfl, .inl ⟨by decide, by decide⟩, _, _, rfl, rfl, (by show 3 ≤ sizeLine; decide), fun p hp => ?_⟩
      exact k p _ hp (same_new hp) ⟨_, _, _, upd_same, by omega, by omega, by decide, by decide⟩
theorem scNumber : FnScope ["well", "way", "found"] ["well"] (defScope sNumber) := ⟨rfl, rfl, rfl, by decide +kernel, rfl, by decide +kernel, by decide +kernel⟩
/-- what a law calls to draw -/
structure Tk (P : Program) (w : World) (K : PySem.W.Frag) (mg : Str → Option Value) (base : Heap) (fT : Addr) (fdT : FuncData) : Prop where
  ok : FnOk P w K mg base CX0 1 fT fdT ["well", "many"] spTake
  at_ : mg "_law_take" = some (.ref fT)
  kp : PySem.W.keepIn K (.ref fT) = true
  bi : Binds K fdT ["well", "many"] []
theorem ok_number {f fT : Addr} {fd fdT : FuncData} (F : Fun K "_law_number" "_law_number" sNumber f fd) (T : Blt mg) (L : Tk P w K mg base fT fdT) : FnOk P w K mg base CX0 2 f fd ["well"] spNumber := by
  refine F.ok scNumber (fun vs H Q E h => ?_) (fun cdv A outer s H vs Q E hr h => ?_)
  · obtain ⟨p, n, rfl, _⟩ := h
    rfl
  · obtain ⟨p, n, rfl, hW, hn, k⟩ := h
    refine ⟨_, pss_cons (ps_set (i := 1) scNumber.nd rfl (.inl rfl) (pe_call L.ok hr (by rfl) L.at_ L.kp L.bi .nil pass0 (pa_cons (pv 0) (pa_cons pe_int pa_nil))))
      (pss_cons (ps_set (i := 2) scNumber.nd rfl (.inl rfl) (pe_call L.ok hr (by rfl) L.at_ L.kp L.bi .nil pass0 (pa_cons (pv 0) (pa_cons (pe_ix ix_list (pe_lst (pa_cons pe_int (pa_cons pe_int (pa_cons pe_int (pa_cons (pe_op op_pow pe_int pe_int) pa_nil))))) (pv 1) (fun _ _ => rfl)) pa_nil))))
      (C8.pss_cut (ps_if (pt_cmpR op_eq (pv 1) pe_int (nomark _))
        (pss_one (ps_set (i := 2) scNumber.nd rfl (.inl rfl) (pe_op op_add (pe_op op_mul (pv 2) (pe_op op_pow pe_int pe_int)) (pe_call L.ok hr (by rfl) L.at_ L.kp L.bi .nil pass0 (pa_cons (pv 0) (pa_cons (pe_op op_pow pe_int pe_int) pa_nil)))))) pss_nil)
      (pss_one (ps_ret (pe_op op_mul (pv 2) (pe_op op_sub pe_int (pe_op op_mul pe_int (pe_call L.ok hr (by rfl) L.at_ L.kp L.bi .nil pass0 (pa_cons (pv 0) (pa_cons pe_int pa_nil)))))))))), ?_⟩
    refine ⟨_, rfl, ⟨_, _, _, rfl, hW, (by omega), (by decide), (by decide), fun r H1 r0 r1 f1 w1 => ?_⟩⟩
    refine ⟨_, rfl, _, _, rfl, rfl, ⟨by decide, by decide, by decide⟩, (by show 4 ≤ sizeLine; decide), fun l hl => ⟨_, rfl, ?_⟩⟩
    have w1' := w1.new (o := .lst [.int 13, .int 60, .int 1000, .int (10 ^ (15 : Int).toNat)]) hl
    obtain ⟨v, hv, hv2, he⟩ := atI_ints (xs := [13, 60, 1000, 10 ^ (15 : Int).toNat]) r0 r1
    have v0 : 0 < v ∧ v ≤ 10 ^ 15 := by
      simp only [List.mem_cons, List.not_mem_nil, or_false] at hv
      rcases hv with rfl | rfl | rfl | rfl <;> decide
    refine ⟨l, _, r, _, rfl, rfl, SqL.of upd_same, he, ⟨_, _, _, rfl, w1', (by omega), v0.1, (by omega), fun x H2 x0 x1 f2 w2 => ?_⟩⟩
    have f02 : Fr p H H2 := (f1.trans (Fr.new hl)).trans f2
    refine ⟨fun σ H3 => ∃ z : Int, σ = [some (.ref p), some (.int r), some (.int z)] ∧ 0 ≤ z ∧ z < 10 ^ 30 ∧ Fr p H H3 ∧ Well H3 p (n + 3), ?_, ?_⟩
    · refine ⟨_, rfl, rfl, _, rfl, ite2 (fun hc => ?_) (fun hc => ?_)⟩
      · refine ⟨_, rfl, _, _, rfl, rfl, ⟨by decide, by decide, by decide⟩, _, _, rfl, rfl, .inl ⟨by omega, by omega⟩, _, rfl, _, _, rfl, rfl, ⟨by decide, by decide, by decide⟩, ?_⟩
        refine ⟨_, _, _, rfl, w2, (by omega), (by decide), (by decide), fun y H3 y0 y1 f3 w3 => ⟨_, _, rfl, rfl, ?_⟩⟩
        refine ⟨_, rfl, ?_, ?_, f02.trans f3, w3⟩
        · have : (0 : Int) ≤ x * 10 ^ (15 : Int).toNat := Int.mul_nonneg x0 (by decide)
          omega
        · have e : (10 : Int) ^ (15 : Int).toNat = 10 ^ 15 := by decide
          rw [e] at y1 ⊢
          omega
      · exact ⟨x, rfl, x0, by omega, f02, w2.mono (by omega)⟩
    · rintro σ H3 ⟨z, rfl, z0, z1, f3, w3⟩
      refine ⟨_, rfl, _, rfl, ⟨_, _, _, rfl, w3, (by omega), (by decide), (by decide), fun y H4 y0 y1 f4 w4 => ?_⟩⟩
      refine ⟨_, _, rfl, rfl, .inl ⟨by decide, by decide⟩, _, _, rfl, rfl, _, _, rfl, rfl, .inr ⟨by omega, by omega⟩, ?_⟩
      have hy : y = 0 ∨ y = 1 := by omega
      refine k _ H4 ?_ ?_ (f3.trans f4) w4
      · rcases hy with rfl | rfl <;> omega
      · rcases hy with rfl | rfl <;> omega
end

theorem Fr.put {p q : Addr} {o : HO} {H J : Hp} (h : H q = none) (f : Fr p H J) : Fr p H (upd J q o) := fun b u e g => by
  rw [upd_ne (fun z => by rw [z, h] at e; cases e)]
  exact f b u e g
theorem rep_ints (k : Nat) (x : Int) : (List.replicate k [V.int x]).flatten = (List.replicate k x).map V.int := by
  induction k with
  | zero => rfl
  | succ k ih =>
    rw [List.replicate_succ, List.flatten_cons, ih, List.replicate_succ, List.map_cons]
    rfl
section
variable {P : Program} {w : World} {K : PySem.W.Frag} {mg : Str → Option Value} {base : Heap}
theorem scPaces : FnScope ["well", "size", "way", "found", "spot", "turn"] ["well", "size"] (defScope sPaces) := ⟨rfl, rfl, rfl, by decide +kernel, rfl, by decide +kernel, by decide +kernel⟩
/-- what stands between the statements of _law_paces -/
structure PMid (H : Hp) (p : Addr) (z : Int) (m : Nat) (q : Addr) (xs : List Int) (H1 : Hp) : Prop where
  new : H q = none
  ne : q ≠ p
  at_ : H1 q = some (.lst (xs.map V.int))
  len : (xs.length : Int) = z
  lo : ∀ v ∈ xs, 0 ≤ v ∧ v ≤ 3
  fr : Fr p H H1
  well : Well H1 p m
theorem ok_paces {f fT : Addr} {fd fdT : FuncData} (F : Fun K "_law_paces" "_law_paces" sPaces f fd) (T : Blt mg) (L : Tk P w K mg base fT fdT) : FnOk P w K mg base CX0 2 f fd ["well", "size"] spPaces := by
  refine F.ok scPaces (fun vs H Q E h => ?_) (fun cdv A outer s H vs Q E hr h => ?_)
  · obtain ⟨p, n, z, rfl, _⟩ := h
    rfl
  · obtain ⟨p, n, z, rfl, hW, hn, z0, z1, k⟩ := h
    refine ⟨_, pss_cons (ps_set (i := 2) scPaces.nd rfl (Or.inr rfl) (pe_call L.ok hr (by rfl) L.at_ L.kp L.bi .nil pass0 (pa_cons (pv 0) (pa_cons pe_int pa_nil))))
      (pss_cons (ps_set (i := 3) scPaces.nd rfl (.inl rfl) (pe_op op_rep (pe_lst (pa_cons pe_int pa_nil)) (pv 1)))
      (C8.pss_cut (ps_if (pt_cmpR op_lt (pv 2) pe_int (nomark _))
        (pss_one (ps_setLc (i := 3) (own := [("turn", 5)]) (g := gName 5) (tt := tYes) rfl scPaces.nd rfl rfl (sw_true rfl rfl rfl (by decide +kernel)) (pi_range1 (by rfl) T.range (pa_cons (pv 1) pa_nil))
          (blkOk_by (N := ["well", "size", "way", "found", "spot", "turn"]) (sc := defScope sPaces) (by decide +kernel)) (fun _ _ _ _ _ => pg_name (i := 5) scPaces.nd rfl (Or.inl rfl)) (fun _ _ _ _ _ => pts_nil)
          (fun _ _ _ _ _ => pe_call L.ok hr (by rfl) L.at_ L.kp L.bi .nil pass0 (pa_cons (pv 0) (pa_cons (pe_op op_sub pe_int (pe_op op_mul pe_int (pv 2))) pa_nil))))) pss_nil)
      (C8.pss_cut (ps_if (pt_cmpR op_eq (pv 2) pe_int (nomark _))
        (pss_one (ps_set (i := 3) scPaces.nd rfl (.inl rfl) (pe_op op_rep (pe_lst (pa_cons (pe_op op_add pe_int (pe_call L.ok hr (by rfl) L.at_ L.kp L.bi .nil pass0 (pa_cons (pv 0) (pa_cons pe_int pa_nil)))) pa_nil)) (pv 1)))) pss_nil)
      (C8.pss_cut (ps_if (pt_cmpR op_eq (pe_callB (cr_max rfl) (by rfl) T.max (by decide +kernel) (pa_cons (pv 3) pa_nil)) pe_int (nomark _))
        (pss_cons (ps_set (i := 4) scPaces.nd rfl (.inl rfl) (pe_call L.ok hr (by rfl) L.at_ L.kp L.bi .nil pass0 (pa_cons (pv 0) (pa_cons (pv 1) pa_nil))))
        (pss_one (ps_asg (pe_op op_add pe_int (pe_call L.ok hr (by rfl) L.at_ L.kp L.bi .nil pass0 (pa_cons (pv 0) (pa_cons pe_int pa_nil)))) (pg_sub (pv 3) (pv 4) set_list)))) pss_nil)
      (pss_one (ps_ret (pv 3))))))), ?_⟩
    refine ⟨_, rfl, ⟨_, _, _, rfl, hW, (by omega), (by decide), (by decide), fun r H1 r0 r1 f1 w1 => ?_⟩⟩
    refine ⟨(by show 1 ≤ sizeLine; decide), fun l hl => ⟨_, rfl, l, z, _, rfl, rfl, upd_same, by omega, by omega, by show 1 * z.toNat ≤ sizeLine; rw [sizeLine_eq]; omega, fun q hq => ?_⟩⟩
    rw [rep_ints]
    have hq1 : H1 q = none := by
      have ne : q ≠ l := fun e => by rw [e, upd_same] at hq; cases hq
      rw [upd_ne ne] at hq
      exact hq
    have free : ∀ {c : Addr} {J : Hp}, Fr p H J → Well J p (n + 1) → J c = none → H c = none ∧ c ≠ p := fun {c J} g g2 e => by
      refine ⟨?_, (g2.ne e).symm⟩
      cases e2 : H c with
      | none => rfl
      | some o =>
        rw [g c o e2 (g2.ne e).symm] at e
        cases e
    have hqH := free f1 w1 hq1
    have wL := (w1.new (o := .lst [V.int 0]) hl).new (o := .lst ((List.replicate z.toNat 0).map V.int)) hq
    have fL : Fr p H _ := (f1.trans (Fr.new (o := .lst [V.int 0]) hl)).trans (Fr.new (o := .lst ((List.replicate z.toNat 0).map V.int)) hq)
    have base0 : PMid H p z (n + 1) q (List.replicate z.toNat 0) (upd (upd H1 l (.lst [V.int 0])) q (.lst ((List.replicate z.toNat 0).map V.int))) :=
      ⟨hqH.1, hqH.2, upd_same, by rw [List.length_replicate]; omega, fun v hv => by rw [List.eq_of_mem_replicate hv]; exact ⟨by decide, by decide⟩, fL, wL⟩
    generalize upd (upd H1 l (.lst [V.int 0])) q (.lst ((List.replicate z.toNat 0).map V.int)) = HL at base0
    refine ⟨fun σ J => ∃ (q : Addr) (xs : List Int), σ = [some (.ref p), some (.int z), some (.int r), some (.ref q), none, none] ∧ PMid H p z (n + 13) q xs J, ?_, ?_⟩
    · refine ⟨_, rfl, _, _, rfl, rfl, _, rfl, ite2 (fun hc => ?_) (fun hc => ?_)⟩
      · have hr2 : r < 2 := of_decide_eq_true hc
        refine ⟨_, rfl, z, rfl, by omega, by omega, fun D hD => ?_⟩
        have hDn : D ≠ p := (base0.well.ne hD).symm
        have hDH := free base0.fr base0.well hD
        refine lc_range (lo := 0) (n := z.toNat) (fun i J => ∃ xs : List Int, J D = some (.lst (xs.map V.int)) ∧ xs.length = i ∧ (∀ v ∈ xs, 0 ≤ v ∧ v ≤ 3) ∧ Fr p H J ∧ Well J p (n + 1 + i))
          ⟨[], upd_same, rfl, fun v hv => absurd hv List.not_mem_nil, base0.fr.trans (Fr.new hD), base0.well.new hD⟩ ?_ ?_
        · rintro i J hi ⟨xs, hx, xl, xr, xf, xw⟩
          refine ⟨rfl, _, rfl, _, rfl, _, _, rfl, rfl, .inl ⟨by decide, by decide⟩, _, _, rfl, rfl, ⟨_, _, _, rfl, xw, (by omega), (by omega), (by omega), fun y J2 y0 y1 f2 w2 => ?_⟩⟩
          have hx2 := f2 _ _ hx hDn
          refine ⟨_, hx2, by rw [List.length_map]; exact small1000 (by omega), xs ++ [y], ?_, by simp [xl], ?_, Fr.put hDH.1 (xf.trans f2), (w2.upd_ne hDn.symm).mono (by omega)⟩
          · rw [upd_same, List.map_append]
            rfl
          · intro v hv
            rcases List.mem_append.mp hv with g | g
            · exact xr v g
            · rw [List.mem_singleton.mp g]
              exact ⟨y0, by omega⟩
        · rintro J ⟨xs, hx, xl, xr, xf, xw⟩
          exact ⟨D, xs, rfl, hDH.1, hDH.2, hx, by omega, xr, xf, xw.mono (by omega)⟩
      · exact ⟨q, _, rfl, base0.new, base0.ne, base0.at_, base0.len, base0.lo, base0.fr, base0.well.mono (by omega)⟩
    · rintro σ J ⟨q, xs, rfl, M⟩
      refine ⟨fun σ J => ∃ (q : Addr) (xs : List Int), σ = [some (.ref p), some (.int z), some (.int r), some (.ref q), none, none] ∧ PMid H p z (n + 14) q xs J, ?_, ?_⟩
      · refine ⟨_, rfl, rfl, _, rfl, ite2 (fun hc => ?_) (fun hc => ?_)⟩
        · refine ⟨_, rfl, ⟨_, _, _, rfl, M.well, (by omega), (by decide), (by decide), fun y J2 y0 y1 f2 w2 => ⟨_, _, rfl, rfl, (by show 1 ≤ sizeLine; decide), fun l hl => ?_⟩⟩⟩
          refine ⟨_, rfl, l, z, _, rfl, rfl, upd_same, by omega, by omega, by show 1 * z.toNat ≤ sizeLine; rw [sizeLine_eq]; omega, fun D hD => ?_⟩
          rw [rep_ints]
          have hD2 : J2 D = none := by
            have ne : D ≠ l := fun e => by rw [e, upd_same] at hD; cases hD
            rw [upd_ne ne] at hD
            exact hD
          have g2 := M.fr.trans f2
          refine ⟨D, _, rfl, ?_, (w2.ne hD2).symm, upd_same, by rw [List.length_replicate]; omega, fun v hv => by rw [List.eq_of_mem_replicate hv]; omega, (g2.trans (Fr.new hl)).trans (Fr.new hD), (w2.new hl).new hD⟩
          cases e2 : H D with
          | none => rfl
          | some o =>
            rw [g2 D o e2 (w2.ne hD2).symm] at hD2
            cases hD2
        · exact ⟨q, xs, rfl, M.new, M.ne, M.at_, M.len, M.lo, M.fr, M.well.mono (by omega)⟩
      · rintro σ J ⟨q, xs, rfl, M⟩
        have xl := M.len
        refine ⟨fun σ J => ∃ (q : Addr) (xs : List Int) (y4 : Option V), σ = [some (.ref p), some (.int z), some (.int r), some (.ref q), y4, none] ∧ PMid H p z (n + 20) q xs J ∧ ∃ v ∈ xs, v ≠ 0, ?_, ?_⟩
        · refine ⟨_, rfl, q, xs, rfl, SqL.of M.at_, by omega, fun m hm hmax => ⟨rfl, _, rfl, ite2 (fun hc => ?_) (fun hc => ?_)⟩⟩
          · refine ⟨_, rfl, _, rfl, ⟨_, _, _, rfl, M.well, (by omega), (by omega), (by omega), fun y J2 y0 y1 f2 w2 => ?_⟩⟩
            refine ⟨_, rfl, ⟨_, _, _, rfl, w2, (by omega), (by decide), (by decide), fun x J3 x0 x1 f3 w3 => ⟨_, _, rfl, rfl, ?_⟩⟩⟩
            have h3 := f3 _ _ (f2 _ _ M.at_ M.ne) M.ne
            have hj : ixN (xs.map V.int).length y = some y.toNat := by
              unfold ixN
              rw [if_pos y0, if_pos (by rw [List.length_map]; omega)]
            refine ⟨_, rfl, _, rfl, q, _, y, y.toNat, rfl, rfl, h3, hj, ?_⟩
            refine ⟨q, xs.set y.toNat (1 + x), _, rfl, ⟨M.new, M.ne, ?_, by rw [List.length_set]; exact xl, fun v hv => ?_, Fr.put M.new ((M.fr.trans f2).trans f3), (w3.upd_ne M.ne.symm).mono (by omega)⟩, 1 + x, ?_, by omega⟩
            · rw [upd_same, List.map_set]
            · rcases List.mem_or_eq_of_mem_set hv with g | g
              · exact M.lo v g
              · rw [g]
                omega
            · exact List.mem_set (by omega) _
          · refine ⟨q, xs, _, rfl, ⟨M.new, M.ne, M.at_, M.len, M.lo, M.fr, M.well.mono (by omega)⟩, m, hm, fun e => hc ?_⟩
            rw [e]
            exact decide_eq_true rfl
        · rintro σ J ⟨q, xs, y4, rfl, M, hp⟩
          have xl := M.len
          exact ⟨_, rfl, k q xs J ⟨M.lo, hp, by omega, by omega⟩ M.len M.new M.ne M.at_ M.fr M.well⟩
end

/-! ### the changes that a law draws: tuples of a moment and a speed -/
def Tups (H : Hp) : List Addr → List (Int × Int) → Prop
  | [], [] => True
  | t :: ts, m :: ms => H t = some (.tup [.int m.1, .int m.2]) ∧ Tups H ts ms
  | _, _ => False
theorem Tups.len {H : Hp} : ∀ {ts : List Addr} {ms : List (Int × Int)}, Tups H ts ms → ts.length = ms.length
  | [], [], _ => rfl
  | _ :: _, _ :: _, h => by
    rw [List.length_cons, List.length_cons, Tups.len h.2]
theorem Tups.imp {H H' : Hp} : ∀ {ts : List Addr} {ms : List (Int × Int)}, (∀ t xs, H t = some (.tup xs) → H' t = some (.tup xs)) → Tups H ts ms → Tups H' ts ms
  | [], [], _, _ => trivial
  | _ :: _, _ :: _, f, h => ⟨f _ _ h.1, Tups.imp f h.2⟩
theorem Tups.same {H H' : Hp} {ts : List Addr} {ms : List (Int × Int)} (h : Tups H ts ms) (f : Same H H') : Tups H' ts ms := h.imp fun _ _ e => f _ _ e
theorem Tups.fr {H H' : Hp} {p : Addr} {n : Nat} {ts : List Addr} {ms : List (Int × Int)} (h : Tups H ts ms) (w : Well H p n) (f : Fr p H H') : Tups H' ts ms := h.imp fun t xs e => f _ _ e fun z => by
  obtain ⟨a, b, c, g, _⟩ := w
  rw [z, g] at e
  cases e
theorem Tups.put {H : Hp} {q : Addr} {ys : List V} {o : HO} {ts : List Addr} {ms : List (Int × Int)} (h : Tups H ts ms) (g : H q = some (.lst ys)) : Tups (upd H q o) ts ms := h.imp fun t xs e => by
  rw [upd_ne (fun z => by rw [z, g] at e; cases e)]
  exact e
theorem Tups.snoc {H : Hp} {t : Addr} {m : Int × Int} : ∀ {ts : List Addr} {ms : List (Int × Int)}, Tups H ts ms → H t = some (.tup [.int m.1, .int m.2]) → Tups H (ts ++ [t]) (ms ++ [m])
  | [], [], _, g => ⟨g, trivial⟩
  | _ :: _, _ :: _, h, g => ⟨h.1, Tups.snoc h.2 g⟩
theorem Tups.get {H : Hp} : ∀ {ts : List Addr} {ms : List (Int × Int)} {i : Nat} {t : Addr}, Tups H ts ms → ts[i]? = some t → ∃ m, ms[i]? = some m ∧ H t = some (.tup [.int m.1, .int m.2])
  | _ :: _, m :: _, 0, t, h, e => by
    obtain rfl := Option.some.inj e
    exact ⟨m, rfl, h.1⟩
  | _ :: _, _ :: _, i + 1, t, h, e => Tups.get (i := i) h.2 e
/-- what a calendar takes as changes -/
structure Marks (cap : Int) (ms : List (Int × Int)) : Prop where
  asc : ms.Pairwise fun a b => a.1 < b.1
  val : ∀ m ∈ ms, 0 ≤ m.2 ∧ m.2 ≤ 3
  big : ∀ m ∈ ms, -(2 * 10 ^ 30) < m.1 ∧ m.1 < 2 * 10 ^ 30
  len : (ms.length : Int) ≤ cap
def spMarks : Sp := fun vs H Q _ => ∃ (p : Addr) (n : Nat) (z cap : Int), vs = [.ref p, .int z, .int cap] ∧ Well H p n ∧ n ≤ 10 ^ 7 ∧ 1 ≤ z ∧ z ≤ 1000 ∧ 0 ≤ cap ∧ cap ≤ 3 ∧
  ∀ (q : Addr) (ts : List Addr) (ms : List (Int × Int)) (H' : Hp), Marks cap ms → H q = none → q ≠ p → H' q = some (.lst (ts.map V.ref)) → Tups H' ts ms → (∀ t ∈ ts, H t = none) → Fr p H H' → Well H' p (n + 20) → Q (.ref q) H'
/-- _law_number stands at fN -/
structure Nb (P : Program) (w : World) (K : PySem.W.Frag) (mg : Str → Option Value) (base : Heap) (fN : Addr) (fdN : FuncData) : Prop where
  ok : FnOk P w K mg base CX0 2 fN fdN ["well"] spNumber
  at_ : mg "_law_number" = some (.ref fN)
  kp : PySem.W.keepIn K (.ref fN) = true
  bi : Binds K fdN ["well"] []
section
variable {P : Program} {w : World} {K : PySem.W.Frag} {mg : Str → Option Value} {base : Heap}
theorem scMarks : FnScope ["well", "size", "cap", "found", "many", "at", "turn"] ["well", "size", "cap"] (defScope sMarks) := ⟨rfl, rfl, rfl, by decide +kernel, rfl, by decide +kernel, by decide +kernel⟩
theorem free_of {p c : Addr} {n : Nat} {H J : Hp} (f : Fr p H J) (wl : Well J p n) (e : J c = none) : H c = none ∧ c ≠ p := by
  have g := (wl.ne e).symm
  refine ⟨?_, g⟩
  cases e2 : H c with
  | none => rfl
  | some o =>
    rw [f c o e2 g] at e
    cases e
theorem ok_marks {f fT fN : Addr} {fd fdT fdN : FuncData} (F : Fun K "_law_marks" "_law_marks" sMarks f fd) (T : Blt mg) (L : Tk P w K mg base fT fdT) (B : Nb P w K mg base fN fdN) : FnOk P w K mg base CX0 3 f fd ["well", "size", "cap"] spMarks := by
  refine F.ok scMarks (fun vs H Q E h => ?_) (fun cdv A outer s H vs Q E hr h => ?_)
  · obtain ⟨p, n, z, cap, rfl, _⟩ := h
    rfl
  · obtain ⟨p, n, z, cap, rfl, hW, hn, z0, z1, c0, c1, k⟩ := h
    have hr1 : Room 1 _ := hr.mono (by decide)
    refine ⟨_, pss_cons (ps_set (i := 3) scMarks.nd rfl (.inl rfl) (pe_lst pa_nil))
      (pss_cons (ps_set (i := 4) scMarks.nd rfl (.inl rfl) (pe_call L.ok hr1 (by rfl) L.at_ L.kp L.bi .nil pass0 (pa_cons (pv 0) (pa_cons (pe_op op_add (pv 2) pe_int) pa_nil))))
      (pss_cons (ps_set (i := 5) scMarks.nd rfl (.inl rfl) (pe_call B.ok hr (by rfl) B.at_ B.kp B.bi .nil pass0 (pa_cons (pv 0) pa_nil)))
      (pss_cons (ps_for PassesOwn.never rfl (pi_range1 (by rfl) T.range (pa_cons (pv 4) pa_nil)) (pg_name (i := 6) scMarks.nd rfl (.inl rfl))
        (pss_cons (ps_expr (pe_bm PySem.F.plainAttrs_list PySem.F.slot_list_append PySem.F.type_list_append mt_append (pv 3) (pa_cons (pe_tup (pa_cons (pv 5) (pa_cons (pe_call L.ok hr1 (by rfl) L.at_ L.kp L.bi .nil pass0 (pa_cons (pv 0) (pa_cons pe_int pa_nil))) pa_nil))) pa_nil)))
        (pss_one (ps_set (i := 5) scMarks.nd rfl (.inl rfl) (pe_op op_add (pe_op op_add (pv 5) pe_int) (pe_call L.ok hr1 (by rfl) L.at_ L.kp L.bi .nil pass0 (pa_cons (pv 0) (pa_cons (pe_ix ix_list (pe_lst (pa_cons pe_int (pa_cons pe_int (pa_cons (pe_op op_mul pe_int (pv 1)) (pa_cons (pe_op op_pow pe_int pe_int) pa_nil)))))
          (pe_call L.ok hr1 (by rfl) L.at_ L.kp L.bi .nil pass0 (pa_cons (pv 0) (pa_cons pe_int pa_nil))) (fun _ _ => rfl)) pa_nil))))))))
      (pss_one (ps_ret (pv 3)))))), ?_⟩
    refine ⟨Nat.zero_le _, fun q hq => ?_⟩
    have qp : q ≠ p := (hW.ne hq).symm
    refine ⟨_, rfl, _, rfl, _, _, rfl, rfl, ⟨_, _, _, rfl, hW.new hq, (by omega), (by omega), (by omega), fun m H1 m0 m1 f1 w1 => ?_⟩⟩
    refine ⟨_, rfl, ⟨_, _, rfl, w1, by omega, fun a0 H2 a1 a2 f2 w2 => ?_⟩⟩
    have f02 : Fr p H H2 := ((Fr.new hq).trans f1).trans f2
    have q2 : H2 q = some (.lst []) := f2 _ _ (f1 _ _ upd_same qp) qp
    refine ⟨_, rfl, m, rfl, by omega, by omega, for_range (lo := 0) (n := m.toNat) (fun i σ J => ∃ (ts : List Addr) (ms : List (Int × Int)) (a : Int) (y : Option V), σ = [some (.ref p), some (.int z), some (.int cap), some (.ref q), some (.int m), some (.int a), y] ∧
        J q = some (.lst (ts.map V.ref)) ∧ Tups J ts ms ∧ (∀ t ∈ ts, H t = none) ∧ ms.length = i ∧ (ms.Pairwise fun a b => a.1 < b.1) ∧ (∀ v ∈ ms, 0 ≤ v.2 ∧ v.2 ≤ 3) ∧ (∀ v ∈ ms, -10 ^ 30 < v.1 ∧ v.1 < a) ∧ -10 ^ 30 < a ∧ a < 10 ^ 30 + i * (10 ^ 29 + 1) ∧ Fr p H J ∧ Well J p (n + 5 + i * 3))
      ⟨[], [], a0, none, rfl, q2, trivial, fun t ht => absurd ht List.not_mem_nil, rfl, List.Pairwise.nil, fun v hv => absurd hv List.not_mem_nil, fun v hv => absurd hv List.not_mem_nil, a1, by omega, f02, w2.mono (by omega)⟩ ?_ ?_⟩
    · rintro i σ J hi ⟨ts, ms, a, y, rfl, hq3, tp, tn, ml, asc, val, big, b0, b1, fJ, wJ⟩
      have him : (i : Int) < m := by omega
      have ml3 : i ≤ 3 := by omega
      refine ⟨_, rfl, .inl ⟨rfl, _, SqL.of hq3⟩, _, rfl, _, rfl, ⟨_, _, _, rfl, wJ, (by omega), (by decide), (by decide), fun v J2 v0 v1 f2 w2 => ?_⟩⟩
      have hq4 := f2 _ _ hq3 qp
      have tp2 := tp.fr wJ f2
      refine ⟨(by show 2 ≤ sizeLine; decide), fun t ht => ?_⟩
      have tq : q ≠ t := ne_of_none hq4 ht
      have ft := free_of (fJ.trans f2) w2 ht
      have w3 := w2.new (o := .tup [.int a, .int v]) ht
      have hq5 : (upd J2 t (.tup [.int a, .int v])) q = some (.lst (ts.map V.ref)) := by rw [upd_ne tq]; exact hq4
      have tl := tp.len
      refine ⟨q, _, .ref t, rfl, rfl, hq5, by rw [List.length_map]; exact small1000 (by omega), ?_⟩
      have tp3 : Tups (upd (upd J2 t (.tup [.int a, .int v])) q (.lst (ts.map V.ref ++ [.ref t]))) (ts ++ [t]) (ms ++ [(a, v)]) :=
        ((tp2.same (same_new ht)).snoc (m := (a, v)) upd_same).put hq5
      have w4 := w3.upd_ne (o := .lst (ts.map V.ref ++ [.ref t])) qp.symm
      have f4 : Fr p H (upd (upd J2 t (.tup [.int a, .int v])) q (.lst (ts.map V.ref ++ [.ref t]))) := Fr.put (by exact (free_of (Fr.refl p H) hW hq).1) (Fr.put ft.1 (fJ.trans f2))
      have hq6 : (upd (upd J2 t (.tup [.int a, .int v])) q (.lst (ts.map V.ref ++ [.ref t]))) q = some (.lst ((ts ++ [t]).map V.ref)) := by rw [upd_same, List.map_append]; rfl
      generalize upd (upd J2 t (.tup [.int a, .int v])) q (.lst (ts.map V.ref ++ [.ref t])) = J4 at tp3 w4 f4 hq6
      refine ⟨_, rfl, _, _, rfl, rfl, _, rfl, _, rfl, _, _, rfl, rfl, .inl ⟨by decide, by decide⟩, _, _, rfl, rfl, ⟨by decide, by decide, by decide⟩, (by show 4 ≤ sizeLine; decide), fun l hl => ?_⟩
      have w5 := w4.new (o := .lst [.int 1, .int 4, .int (3 * z), .int (10 ^ (29 : Int).toNat)]) hl
      have lp := (w4.ne hl).symm
      refine ⟨_, rfl, ⟨_, _, _, rfl, w5, (by omega), (by decide), (by decide), fun x J6 x0 x1 f6 w6 => ?_⟩⟩
      obtain ⟨d, hd, hd2, he⟩ := atI_ints (xs := [1, 4, 3 * z, 10 ^ (29 : Int).toNat]) x0 x1
      have d0 : 0 < d ∧ d ≤ 10 ^ 29 := by
        have e : (10 : Int) ^ (29 : Int).toNat = 10 ^ 29 := by decide
        rw [e] at hd
        simp only [List.mem_cons, List.not_mem_nil, or_false] at hd
        rcases hd with rfl | rfl | rfl | rfl <;> omega
      refine ⟨l, _, x, _, rfl, rfl, SqL.of (f6 _ _ upd_same lp), he, ⟨_, _, _, rfl, w6, (by omega), d0.1, (by omega), fun u J7 u0 u1 f7 w7 => ?_⟩⟩
      have f47 : Fr p J4 J7 := ((Fr.new hl).trans f6).trans f7
      refine ⟨_, _, rfl, rfl, ts ++ [t], ms ++ [(a, v)], a + 1 + u, _, rfl, f47 _ _ hq6 qp, tp3.fr w4 f47, ?_, by simp [ml], ?_, ?_, ?_, by omega, by omega, f4.trans f47, w7.mono (by omega)⟩
      · intro t' ht'
        rcases List.mem_append.mp ht' with g | g
        · exact tn t' g
        · rw [List.mem_singleton.mp g]
          exact ft.1
      · rw [List.pairwise_append]
        refine ⟨asc, List.pairwise_singleton _ _, fun a1 h1 b1 h2 => ?_⟩
        rw [List.mem_singleton.mp h2]
        exact (big a1 h1).2
      · intro v' hv'
        rcases List.mem_append.mp hv' with g | g
        · exact val v' g
        · rw [List.mem_singleton.mp g]
          exact ⟨v0, by omega⟩
      · intro v' hv'
        rcases List.mem_append.mp hv' with g | g
        · have := big v' g
          omega
        · rw [List.mem_singleton.mp g]
          omega
    · rintro σ J ⟨ts, ms, a, y, rfl, hq3, tp, tn, ml, asc, val, big, b0, b1, fJ, wJ⟩
      have hm : m ≤ cap := by omega
      have ml3 : m.toNat ≤ 3 := by omega
      exact ⟨_, rfl, k q ts ms J ⟨asc, val, fun v hv => by have := big v hv; omega, by omega⟩ (free_of (Fr.refl p H) hW hq).1 qp hq3 tp tn fJ (wJ.mono (by omega))⟩
end

/-! ### the calendar: what its constructor asks, and what it leaves -/
structure Con (mg : Str → Option Value) : Prop where
  gw : ∃ t, mg "GREATEST_WEEK" = some (.int 12 t)
  gs : ∃ t, mg "GREATEST_SPEED" = some (.int 3 t)
  enum : mg "enumerate" = none
def spIsSpeed : Sp := fun vs H Q _ => ∃ v : Int, vs = [.int v] ∧ Q (.bl (decide (0 ≤ v ∧ v ≤ 3))) H
def spChkS (K : PySem.W.Frag) : Sp := fun vs H Q _ => ∃ (a : Addr) (ps : List Int), vs = [.ref a] ∧ SqL K H a (ps.map V.int) ∧ Paces ps ∧ ∀ H', Same H H' → Q .non H'
/-- changes that are right -/
structure Fit (ms : List (Int × Int)) : Prop where
  asc : ms.Pairwise fun a b => a.1 < b.1
  val : ∀ m ∈ ms, 0 ≤ m.2 ∧ m.2 ≤ 3
  len : ms.length ≤ 1000
def spChkC (K : PySem.W.Frag) : Sp := fun vs H Q _ => ∃ (a : Addr) (ts : List Addr) (ms : List (Int × Int)), vs = [.ref a] ∧ SqL K H a (ts.map V.ref) ∧ Tups H ts ms ∧ Fit ms ∧ ∀ H', Same H H' → Q .non H'
/-- whether a change stands behind the one ahead of it -/
def behind (ms : List (Int × Int)) (i : Nat) : Bool := decide (i = 0) || decide ((ms.getD (i - 1) (0, 0)).1 < (ms.getD i (0, 0)).1)
def spChkW : Sp := fun vs H Q _ => ∃ n : Int, vs = [.int n] ∧ 1 ≤ n ∧ n ≤ 12 ∧ Q .non H
def spBehind (K : PySem.W.Frag) : Sp := fun vs H Q _ => ∃ (a : Addr) (ts : List Addr) (ms : List (Int × Int)) (i : Nat), vs = [.ref a, .int (i : Int)] ∧ SqL K H a (ts.map V.ref) ∧ Tups H ts ms ∧ i < ms.length ∧ Q (.bl (behind ms i)) H
/-- a def of the program stands under a name of its module -/
structure At (P : Program) (w : World) (K : PySem.W.Frag) (mg : Str → Option Value) (base : Heap) (k : Nat) (x : Str) (ps : List Str) (sp : Sp) (f : Addr) (fd : FuncData) : Prop where
  ok : FnOk P w K mg base CX0 k f fd ps sp
  at_ : mg x = some (.ref f)
  kp : PySem.W.keepIn K (.ref f) = true
  bi : Binds K fd ps []
section
variable {P : Program} {w : World} {K : PySem.W.Frag} {mg : Str → Option Value} {base : Heap}
theorem scIsSpeed : FnScope ["number"] ["number"] (defScope sIsSpeed) := ⟨rfl, rfl, rfl, by decide +kernel, rfl, by decide +kernel, by decide +kernel⟩
theorem ok_isSpeed {f : Addr} {fd : FuncData} (F : Fun K "is_speed" "is_speed" sIsSpeed f fd) (C : Con mg) : FnOk P w K mg base CX0 1 f fd ["number"] spIsSpeed := by
  refine F.ok scIsSpeed (fun vs H Q E h => ?_) (fun cdv A outer s H vs Q E hr h => ?_)
  · obtain ⟨v, rfl, _⟩ := h
    rfl
  · obtain ⟨v, rfl, q⟩ := h
    obtain ⟨t, ht⟩ := C.gs
    refine ⟨_, pss_one (ps_ret (pe_chain op_le op_le pe_int (pv 0) (pe_glob (v := .int 3) (by rfl) ht ⟨t, rfl⟩))), ?_⟩
    refine ⟨_, rfl, _, _, rfl, rfl, _, rfl, ite2 (fun h => ?_) (fun h => ?_)⟩
    · refine ⟨_, _, rfl, rfl, ?_⟩
      have h0 : 0 ≤ v := of_decide_eq_true h
      have e : decide (0 ≤ v ∧ v ≤ 3) = decide (v ≤ 3) := by
        rw [decide_eq_decide]
        omega
      rw [e] at q
      exact q
    · have h0 : ¬ 0 ≤ v := fun g => h (decide_eq_true g)
      have e : decide (0 ≤ v ∧ v ≤ 3) = false := decide_eq_false fun g => h0 g.1
      rw [e] at q
      exact q
theorem scChkW : FnScope ["number"] ["number"] (defScope sChkWeek) := ⟨rfl, rfl, rfl, by decide +kernel, rfl, by decide +kernel, by decide +kernel⟩
theorem ok_chkW {f : Addr} {fd : FuncData} (F : Fun K "check_week" "check_week" sChkWeek f fd) (C : Con mg) : FnOk P w K mg base CX0 1 f fd ["number"] spChkW := by
  refine F.ok scChkW (fun vs H Q E h => ?_) (fun cdv A outer s H vs Q E hr h => ?_)
  · obtain ⟨n, rfl, _⟩ := h
    rfl
  · obtain ⟨n, rfl, n1, n2, q⟩ := h
    obtain ⟨t, ht⟩ := C.gw
    refine ⟨_, pss_one (ps_if (pt_not (pt_chain op_le op_le pe_int (pv 0) (pe_glob (v := .int 12) (by rfl) ht ⟨t, rfl⟩))) (pss_one ps_never) pss_nil), ?_⟩
    refine ⟨_, rfl, _, _, rfl, rfl, _, rfl, ite2 (fun g => ?_) (fun g => absurd (decide_eq_true (by omega)) g)⟩
    refine ⟨_, _, rfl, rfl, _, rfl, ite2 (fun g2 => absurd g2 ?_) (fun _ => q)⟩
    rw [decide_eq_true (by omega)]
    decide
theorem scBehind : FnScope ["changes", "index"] ["changes", "index"] (defScope sBehind) := ⟨rfl, rfl, rfl, by decide +kernel, rfl, by decide +kernel, by decide +kernel⟩
theorem behind_fit {ms : List (Int × Int)} {i : Nat} (h : ms.Pairwise fun a b => a.1 < b.1) (hi : i < ms.length) : behind ms i = true := by
  unfold behind
  cases i with
  | zero => rfl
  | succ j =>
    have lt := List.pairwise_iff_getElem.mp h j (j + 1) (by omega) hi (by omega)
    simp only [Nat.add_sub_cancel]
    rw [List.getD_eq_getElem?_getD, List.getD_eq_getElem?_getD, List.getElem?_eq_getElem hi, List.getElem?_eq_getElem (by omega : j < ms.length)]
    simp [lt]
theorem ok_behind {f : Addr} {fd : FuncData} (F : Fun K "is_behind" "is_behind" sBehind f fd) : FnOk P w K mg base CX0 1 f fd ["changes", "index"] (spBehind K) := by
  refine F.ok scBehind (fun vs H Q E h => ?_) (fun cdv A outer s H vs Q E hr h => ?_)
  · obtain ⟨a, ts, ms, i, rfl, _⟩ := h
    rfl
  · obtain ⟨a, ts, ms, i, rfl, hS, tp, hi, q⟩ := h
    refine ⟨_, pss_one (ps_ret (pe_or (pe_cmpR op_eq (pv 1) pe_int (nomark _)) (pe_one (pe_cmpR op_lt
      (pe_ix ix_tup (pe_ix ix_list (pv 0) (pe_op op_sub (pv 1) pe_int) (fun _ _ => rfl)) pe_int (fun _ _ => rfl))
      (pe_ix ix_tup (pe_ix ix_list (pv 0) (pv 1) (fun _ _ => rfl)) pe_int (fun _ _ => rfl)) (nomark _))))), ?_⟩
    have tl := tp.len
    have ez : decide (V.int (i : Int) = V.int 0) = decide (i = 0) := by
      rw [decide_eq_decide]
      exact ⟨fun e => by injection e with e; omega, fun e => by rw [e]; rfl⟩
    refine ⟨_, rfl, rfl, _, rfl, ?_⟩
    rw [ez]
    cases i with
    | zero => exact q
    | succ j =>
      have hj : j < ts.length := by omega
      have hj1 : j + 1 < ts.length := by omega
      obtain ⟨m', hm', hm2'⟩ := tp.get (List.getElem?_eq_getElem hj)
      obtain ⟨m, hm, hm2⟩ := tp.get (List.getElem?_eq_getElem hj1)
      have ej : (((j + 1 : Nat) : Int) - 1) = (j : Nat) := by omega
      refine ⟨_, rfl, _, rfl, _, _, rfl, rfl, a, _, _, _, rfl, rfl, hS, at_of (j := j) (v := V.ref ts[j]) ej (by rw [List.getElem?_map, List.getElem?_eq_getElem hj]; rfl), ts[j], _, 0, _, rfl, rfl, SqT.of hm2', atI_nat (j := 0) rfl,
        _, rfl, _, rfl, a, _, _, _, rfl, rfl, hS, atI_nat (j := j + 1) (v := V.ref ts[j + 1]) (by rw [List.getElem?_map, List.getElem?_eq_getElem hj1]; rfl), ts[j + 1], _, 0, _, rfl, rfl, SqT.of hm2, atI_nat (j := 0) rfl, _, _, rfl, rfl, ?_⟩
      have e : behind ms (j + 1) = decide (m'.1 < m.1) := by
        unfold behind
        simp only [Nat.add_sub_cancel]
        rw [List.getD_eq_getElem?_getD, List.getD_eq_getElem?_getD, hm, hm']
        simp
      rw [e] at q
      exact q
theorem scChkS : FnScope ["speeds", "index", "speed"] ["speeds"] (defScope sChkSpeeds) := ⟨rfl, rfl, rfl, by decide +kernel, rfl, by decide +kernel, by decide +kernel⟩
theorem ok_chkS {f fI fW : Addr} {fd fdI fdW : FuncData} (F : Fun K "check_speeds" "check_speeds" sChkSpeeds f fd) (C : Con mg) (T : Blt mg) (I : At P w K mg base 1 "is_speed" ["number"] spIsSpeed fI fdI) (W : At P w K mg base 1 "check_week" ["number"] spChkW fW fdW) :
    FnOk P w K mg base CX0 2 f fd ["speeds"] (spChkS K) := by
  refine F.ok scChkS (fun vs H Q E h => ?_) (fun cdv A outer s H vs Q E hr h => ?_)
  · obtain ⟨a, ps, rfl, _⟩ := h
    rfl
  · obtain ⟨a, ps, rfl, hS, hp, k⟩ := h
    refine ⟨_, pss_cons (ps_expr (pe_call W.ok hr (by rfl) W.at_ W.kp W.bi .nil pass0 (pa_cons (pe_callB call_len_seq (by rfl) T.len PySem.boot_len (pa_cons (pv 0) pa_nil)) pa_nil)))
      (pss_cons (ps_for PassesOwn.never rfl (pi_enum (by rfl) C.enum (pa_cons (pv 0) pa_nil)) (pg_tup rfl (pgs_cons (pg_name (i := 1) scChkS.nd rfl (.inl rfl)) (pgs_cons (pg_name (i := 2) scChkS.nd rfl (.inl rfl)) pgs_nil)))
        (pss_one (ps_if (pt_not (pt_val (pe_call I.ok hr (by rfl) I.at_ I.kp I.bi .nil pass0 (pa_cons (pv 2) pa_nil)))) (pss_one ps_never) pss_nil)))
      (pss_one (ps_if (pt_cmpR op_eq (pe_callB (cr_max rfl) (by rfl) T.max (by decide +kernel) (pa_cons (pv 0) pa_nil)) pe_int (nomark _)) (pss_one ps_never) pss_nil))), ?_⟩
    have l0 := hp.len0
    have l1 := hp.len1
    have hlen : (((ps.map V.int).length : Nat) : Int) = ps.length := by rw [List.length_map]
    refine ⟨_, rfl, a, _, rfl, .inl hS, ⟨_, rfl, by rw [hlen]; omega, by rw [hlen]; omega, ?_⟩⟩
    refine ⟨_, rfl, a, _, rfl, hS, for_it (walk_enum (K := K) (a := a) (xs := ps.map V.int)) (fun i σ J => ∃ y1 y2 : Option V, σ = [some (.ref a), y1, y2] ∧ Same H J) ⟨none, none, rfl, Same.refl H⟩ (fun i σ J _ ⟨_, _, _, g⟩ => g.seq hS) ?_ ?_⟩
    · rintro i x σ J J' hi ⟨y1, y2, rfl, hs⟩ ⟨T', x1, x2, rfl, nT, rfl, e1, e2⟩
      obtain rfl := Option.some.inj e1
      have hi' : i < ps.length := by simpa using hi
      replace e2 : (List.map _ _)[i]? = some x2 := e2
      rw [List.getElem?_map, List.getElem?_eq_getElem hi'] at e2
      obtain rfl := Option.some.inj e2
      refine ⟨T', _, rfl, .inl (.inl upd_same), rfl, _, _, rfl, _, [], rfl, rfl, ?_⟩
      have hv := hp.lo _ (List.getElem_mem hi')
      refine ⟨_, rfl, _, rfl, _, rfl, ?_⟩
      rw [decide_eq_true hv]
      exact ⟨_, _, rfl, hs.trans (same_new nT)⟩
    · rintro σ J ⟨y1, y2, rfl, hs⟩
      refine ⟨_, rfl, a, ps, rfl, hs.seq hS, l0, fun m hm hmax => ⟨rfl, _, rfl, ite2 (fun g => ?_) (fun _ => k J hs)⟩⟩
      have g2 : m = 0 := by
        have := of_decide_eq_true g
        injection this
      obtain ⟨v, hv, v0⟩ := hp.pos
      have := hmax v hv
      have := hp.lo v hv
      omega
theorem scChkC : FnScope ["changes", "index", "_", "speed"] ["changes"] (defScope sChkChanges) := ⟨rfl, rfl, rfl, by decide +kernel, rfl, by decide +kernel, by decide +kernel⟩
theorem ok_chkC {f fI fB : Addr} {fd fdI fdB : FuncData} (F : Fun K "check_changes" "check_changes" sChkChanges f fd) (C : Con mg) (T : Blt mg) (I : At P w K mg base 1 "is_speed" ["number"] spIsSpeed fI fdI) (B : At P w K mg base 1 "is_behind" ["changes", "index"] (spBehind K) fB fdB) :
    FnOk P w K mg base CX0 2 f fd ["changes"] (spChkC K) := by
  refine F.ok scChkC (fun vs H Q E h => ?_) (fun cdv A outer s H vs Q E hr h => ?_)
  · obtain ⟨a, ts, ms, rfl, _⟩ := h
    rfl
  · obtain ⟨a, ts, ms, rfl, hS, tp, fit, k⟩ := h
    refine ⟨_, pss_one (ps_for PassesOwn.never rfl (pi_enum (by rfl) C.enum (pa_cons (pv 0) pa_nil))
        (pg_tup rfl (pgs_cons (pg_name (i := 1) scChkC.nd rfl (.inl rfl)) (pgs_cons (pg_tup rfl (pgs_cons (pg_name (i := 2) scChkC.nd rfl (.inl rfl)) (pgs_cons (pg_name (i := 3) scChkC.nd rfl (.inl rfl)) pgs_nil))) pgs_nil)))
        (pss_one (ps_if (PW.pt (pw_or (pt_not (pt_val (pe_call I.ok hr (by rfl) I.at_ I.kp I.bi .nil pass0 (pa_cons (pv 3) pa_nil))))
          (pw_or1 (pt_not (pt_val (pe_call B.ok hr (by rfl) B.at_ B.kp B.bi .nil pass0 (pa_cons (pv 0) (pa_cons (pv 1) pa_nil)))))))) (pss_one ps_never) pss_nil))), ?_⟩
    have tl := tp.len
    refine ⟨_, rfl, a, _, rfl, hS, for_it (walk_enum (K := K) (a := a) (xs := ts.map V.ref)) (fun i σ J => ∃ y1 y2 y3 : Option V, σ = [some (.ref a), y1, y2, y3] ∧ Same H J) ⟨none, none, none, rfl, Same.refl H⟩ (fun i σ J _ ⟨_, _, _, _, g⟩ => g.seq hS) ?_ ?_⟩
    · rintro i x σ J J' hi ⟨y1, y2, y3, rfl, hs⟩ ⟨T', x1, x2, rfl, nT, rfl, e1, e2⟩
      obtain rfl := Option.some.inj e1
      have hi' : i < ts.length := by simpa using hi
      replace e2 : (List.map _ _)[i]? = some x2 := e2
      rw [List.getElem?_map, List.getElem?_eq_getElem hi'] at e2
      obtain rfl := Option.some.inj e2
      have s2 := hs.trans (same_new (o := .tup [.int (i : Nat), .ref ts[i]]) nT)
      obtain ⟨m, hm, hm2⟩ := (tp.same s2).get (List.getElem?_eq_getElem hi')
      refine ⟨T', _, rfl, .inl (.inl upd_same), rfl, _, _, rfl, _, [], rfl, ⟨_, _, rfl, .inl (.inl hm2), rfl, _, _, rfl, _, [], rfl, rfl, rfl, ?_⟩⟩
      have hv := fit.val _ (List.mem_of_getElem? hm)
      refine ⟨_, rfl, _, rfl, _, rfl, ?_⟩
      rw [decide_eq_true hv]
      refine ⟨_, rfl, _, rfl, ⟨a, ts, ms, i, rfl, s2.seq hS, tp.same s2, by omega, ?_⟩⟩
      rw [behind_fit fit.asc (by omega)]
      exact ⟨_, rfl, _, _, _, rfl, s2⟩
    · rintro σ J ⟨y1, y2, y3, rfl, hs⟩
      exact k J hs
end

/-- a dict comprehension over anything that is walked -/
theorem dc_it {J : It} {n : Nat} {G : Hp → Prop} {Y : Nat → Hp → V → Hp → Prop} (wk : Walk J n G Y) {g : TG} {tt : TT} {tk tv : TE} {vs : List Nat} {σ : L2.St} {H1 : Hp} {D : Addr} {Qd : Hp → Prop}
    (Pv : Nat → Hp → Prop) (h0 : Pv 0 (upd H1 D (.dK []))) (hG : ∀ i H, i ≤ n → Pv i H → G H)
    (hs : ∀ i x H H', i < n → Pv i H → Y i H x H' → g x (wipe σ vs) H' fun σ2 H2 => wipe σ2 vs = wipe σ vs ∧ tt σ2 H2 fun b H3 =>
      if b = true then tk σ2 H3 fun y H4 => tv σ2 H4 fun z H5 => ∃ kvs k, y = kV k ∧ H5 D = some (.dK kvs) ∧ kvs.length < sizeLine ∧
        Pv (i + 1) (upd H5 D (.dK (putK kvs k z))) else Pv (i + 1) H3) (hd : ∀ H, Pv n H → Qd H) :
    ∃ W : Nat → Nat → Hp → Prop, (∃ m, W 0 m (upd H1 D (.dK []))) ∧ ∀ i m H, W i m H →
      (J.stop i H ∧ Qd H) ∨ (J.go i H ∧ ∃ Nx : Hp → Prop, (∀ H', Nx H' → ∃ m', m' < m ∧ W (i + 1) m' H') ∧
        ∀ x H', J.yld i H x H' → g x (wipe σ vs) H' fun σ2 H2 => wipe σ2 vs = wipe σ vs ∧ tt σ2 H2 fun b H3 =>
          if b = true then tk σ2 H3 fun y H4 => tv σ2 H4 fun z H5 => ∃ kvs k, y = kV k ∧ H5 D = some (.dK kvs) ∧
            kvs.length < sizeLine ∧ Nx (upd H5 D (.dK (putK kvs k z))) else Nx H3) := by
  refine ⟨fun i m H => m = n - i ∧ i ≤ n ∧ Pv i H, ⟨n - 0, rfl, Nat.zero_le _, h0⟩, fun i m H hw => ?_⟩
  obtain ⟨rfl, hle, hp⟩ := hw
  rcases Nat.lt_or_ge i n with hlt | hge
  · refine Or.inr ⟨wk.goes i H hlt (hG i H hle hp), Pv (i + 1), fun H' q => ⟨n - (i + 1), by omega, rfl, hlt, q⟩, fun x H' hy => ?_⟩
    exact hs i x H H' hlt hp (wk.yields i H x H' hlt (hG i H hle hp) hy)
  · obtain rfl : i = n := by omega
    exact Or.inl ⟨wk.stops H (hG i H hle hp), hd H hp⟩
/-- the speed of the bare week -/
def paceOf (ps : List Int) (t : Int) : Int := ps.getD (t % ps.length).toNat 0
/-- the changes that change something -/
def realOf (ps : List Int) (ms : List (Int × Int)) : List (Int × Int) := ms.filter fun m => decide (m.2 ≠ paceOf ps m.1)
def kvP (m : Int × Int) : Key × V := (Sum.inl m.1, V.int m.2)
theorem valV_kvP : ∀ (ms : List (Int × Int)) (t : Int), valV (ms.map kvP) (Sum.inl t : Key) = (ms.find? fun m => decide (m.1 = t)).map fun m => V.int m.2
  | [], _ => rfl
  | m :: ms, t => by
    have ih := valV_kvP ms t
    unfold valV at ih ⊢
    rw [List.map_cons, List.find?_cons, List.find?_cons]
    have e : decide ((kvP m).1 = (Sum.inl t : Key)) = decide (m.1 = t) := by
      rw [decide_eq_decide]
      unfold kvP
      constructor
      · intro h
        injection h
      · intro h
        rw [h]
    rw [e]
    cases decide (m.1 = t) with
    | true => rfl
    | false => exact ih
theorem atI_pace {ps : List Int} {t : Int} (h : 0 < ps.length) : atI (ps.map V.int) (t % ps.length) = some (.int (paceOf ps t)) := by
  have h0 := Int.emod_nonneg t (show (ps.length : Int) ≠ 0 by omega)
  have h1 := Int.emod_lt_of_pos t (show (0 : Int) < ps.length by omega)
  obtain ⟨v, _, e, e2⟩ := atI_ints h0 h1
  rw [e2]
  unfold paceOf
  rw [List.getD_eq_getElem?_getD, e]
  rfl
def calF (l d : Addr) : List (Str × V) := putF "_changes" (.ref d) (putF "_speeds" (.ref l) [])
theorem calNe : ¬ (("_speeds" : Str) = "_changes") := by decide +kernel
theorem calF_s (l d : Addr) : (calF l d).lookup ("_speeds" : Str) = some (.ref l) := by
  unfold calF
  rw [lookup_putF, if_neg calNe, lookup_putF, if_pos rfl]
theorem calF_c (l d : Addr) : (calF l d).lookup ("_changes" : Str) = some (.ref d) := by
  unfold calF
  rw [lookup_putF, if_pos rfl]
theorem calF_no (l d : Addr) {m : Str} (h1 : ¬ m = "_changes") (h2 : ¬ m = "_speeds") : (calF l d).lookup m = none := by
  unfold calF
  rw [lookup_putF, if_neg h1, lookup_putF, if_neg h2]
  rfl
/-- a calendar with these speeds and these changes stands at x; its list at l, its dict at d -/
structure CalAt (C : Addr) (H : Hp) (x l d : Addr) (ps : List Int) (ms : List (Int × Int)) : Prop where
  ob : ∃ dx, H x = some (.ins C dx (calF l d))
  ls : H l = some (.lst (ps.map V.int))
  dc : H d = some (.dK (ms.map kvP))
theorem CalAt.same {C : Addr} {H H' : Hp} {x l d : Addr} {ps : List Int} {ms : List (Int × Int)} (h : CalAt C H x l d ps ms) (f : Same H H') : CalAt C H' x l d ps ms := by
  obtain ⟨⟨dx, h1⟩, h2, h3⟩ := h
  exact ⟨⟨dx, f _ _ h1⟩, f _ _ h2, f _ _ h3⟩
theorem CalAt.put {C : Addr} {H : Hp} {x l d c : Addr} {o : HO} {ps : List Int} {ms : List (Int × Int)} (h : CalAt C H x l d ps ms) (n1 : x ≠ c) (n2 : l ≠ c) (n3 : d ≠ c) : CalAt C (upd H c o) x l d ps ms := by
  obtain ⟨⟨dx, h1⟩, h2, h3⟩ := h
  exact ⟨⟨dx, by rw [upd_ne n1]; exact h1⟩, by rw [upd_ne n2]; exact h2, by rw [upd_ne n3]; exact h3⟩
theorem CalAt.fr {C : Addr} {H H' : Hp} {x l d p : Addr} {ps : List Int} {ms : List (Int × Int)} (h : CalAt C H x l d ps ms) (f : Fr p H H') (n1 : x ≠ p) (n2 : l ≠ p) (n3 : d ≠ p) : CalAt C H' x l d ps ms := by
  obtain ⟨⟨dx, h1⟩, h2, h3⟩ := h
  exact ⟨⟨dx, f _ _ h1 n1⟩, f _ _ h2 n2, f _ _ h3 n3⟩
def spInit (C : Addr) (K : PySem.W.Frag) : Sp := fun vs H Q _ => ∃ (x dx a b : Addr) (ps : List Int) (ts : List Addr) (ms : List (Int × Int)), vs = [.ref x, .ref a, .ref b] ∧ H x = some (.ins C dx []) ∧
  SqL K H a (ps.map V.int) ∧ SqL K H b (ts.map V.ref) ∧ Tups H ts ms ∧ Paces ps ∧ Fit ms ∧ a ≠ x ∧ b ≠ x ∧
  ∀ H' l d, CalAt C H' x l d ps (realOf ps ms) → H l = none → H d = none → (∀ c o, H c = some o → c ≠ x → H' c = some o) → Q .non H'
/-- len of a list or a tuple, told by the written part -/
def rLen (K : PySem.W.Frag) : List V → Hp → VK → Prop := fun vs H Q => ∃ (p : Addr) (ys : List V), vs = [.ref p] ∧
  (SqL K H p ys ∨ SqT K H p ys) ∧ Q (.int (ys.length : Nat)) H
/-- the class of calendars as the top has made it -/
structure Cal (K : PySem.W.Frag) (mg : Str → Option Value) (C : Addr) : Prop where
  cl : Cls K C
  nS : NoAttr K C "_speeds"
  nC : NoAttr K C "_changes"
  at_ : mg "Calendar" = some (.ref C)
section
variable {P : Program} {w : World} {K : PySem.W.Frag} {mg : Str → Option Value} {base : Heap}
theorem scInit : FnScope ["self", "speeds", "changes", "moment", "speed"] ["self", "speeds", "changes"] (defScope sInit) := ⟨rfl, rfl, rfl, by decide +kernel, rfl, by decide +kernel, by decide +kernel⟩
theorem ok_init {f fS fC C : Addr} {fd fdS fdC : FuncData} (F : Fun K "__init__" "Calendar.__init__" sInit f fd) (Z : Cal K mg C) (T : Blt mg)
    (S : At P w K mg base 2 "check_speeds" ["speeds"] (spChkS K) fS fdS) (B : At P w K mg base 2 "check_changes" ["changes"] (spChkC K) fC fdC) :
    FnOk P w K mg base CX0 3 f fd ["self", "speeds", "changes"] (spInit C K) := by
  refine F.ok scInit (fun vs H Q E h => ?_) (fun cdv A outer s H vs Q E hr h => ?_)
  · obtain ⟨x, dx, a, b, ps, ts, ms, rfl, _⟩ := h
    rfl
  · obtain ⟨x, dx, a, b, ps, ts, ms, rfl, hx, ha, hb, tp, hp, fit, ax, bx, k⟩ := h
    refine ⟨_, pss_cons (ps_expr (pe_call S.ok hr (by rfl) S.at_ S.kp S.bi .nil pass0 (pa_cons (pv 1) pa_nil)))
      (pss_cons (ps_expr (pe_call B.ok hr (by rfl) B.at_ B.kp B.bi .nil pass0 (pa_cons (pv 2) pa_nil)))
      (pss_cons (ps_fld (pv 0) (pe_callTy call_list_of (by rfl) T.list (by decide +kernel) (pa_cons (pv 1) pa_nil)) rfl)
      (pss_one (ps_fld (pv 0) (pe_dc (own := [("moment", 3), ("speed", 4)]) (g := gTup K 2 (gCons (gName 3) (gCons (gName 4) gNil))) rfl scInit.nd (pi_list (pv 2)) (blkOk_by (N := ["self", "speeds", "changes", "moment", "speed"]) (sc := defScope sInit) (by decide +kernel))
        (fun _ _ _ _ _ => pg_tup rfl (pgs_cons (pg_name (i := 3) scInit.nd rfl (.inl rfl)) (pgs_cons (pg_name (i := 4) scInit.nd rfl (.inl rfl)) pgs_nil)))
        (fun _ _ _ _ _ => pts_one (pt_cmpR op_ne (pv 4) (pe_ix (r := rIxL K) ix_list (pv 1) (pe_op op_mod (pv 3) (pe_callB (r := rLen K) call_len_seq (by rfl) T.len PySem.boot_len (pa_cons (pv 1) pa_nil))) (fun _ _ => rfl)) (nomark _)))
        (fun _ _ _ _ _ => pv 3) (fun _ _ _ _ _ => pv 4)) rfl)))), ?_⟩
    have l0 := hp.len0
    have l1 := hp.len1
    refine ⟨_, rfl, a, ps, rfl, ha, hp, fun H1 s1 => ?_⟩
    refine ⟨_, rfl, b, ts, ms, rfl, s1.seq hb, tp.same s1, fit, fun H2 s2 => ?_⟩
    have s12 := s1.trans s2
    refine ⟨_, rfl, a, _, rfl, .inl (s12.seq ha), fun l hl => ?_⟩
    have hx2 := s12 _ _ hx
    have xl : x ≠ l := ne_of_none hx2 hl
    refine ⟨_, rfl, x, C, dx, _, rfl, (by rw [upd_ne xl]; exact hx2), Z.cl, Z.nS, (by show 0 < 1000; decide), ?_⟩
    generalize hH3 : upd (upd H2 l (.lst (ps.map V.int))) x (.ins C dx (putF "_speeds" (.ref l) [])) = H3
    have f3 : ∀ c o, H c = some o → c ≠ x → H3 c = some o := fun c o e g => by
      have e2 := s12 _ _ e
      rw [← hH3, upd_ne g, upd_ne (ne_of_none e2 hl)]
      exact e2
    have sq : ∀ {c : Addr} {xs : List V}, c ≠ x → SqL K H c xs → SqL K H3 c xs := fun {c xs} g h => by
      rcases h with (h | ⟨o, h⟩) | h
      · exact .inl (.inl (f3 _ _ h g))
      · exact .inl (.inr ⟨o, f3 _ _ h g⟩)
      · exact .inr h
    have hx3 : H3 x = some (.ins C dx (putF "_speeds" (.ref l) [])) := by rw [← hH3]; exact upd_same
    have hl3 : H3 l = some (.lst (ps.map V.int)) := by rw [← hH3, upd_ne xl.symm]; exact upd_same
    have tp3 : Tups H3 ts ms := tp.imp fun t xs e => f3 _ _ e fun z => by
      rw [z, hx] at e
      cases e
    have tl := tp.len
    refine ⟨_, rfl, b, rfl, ⟨_, sq bx hb⟩, fun D hD => dc_it (walk_list (K := K) (a := b) (xs := ts.map V.ref)) (fun i J => J D = some (.dK ((realOf ps (ms.take i)).map kvP)) ∧ ∀ c o, H3 c = some o → J c = some o) ⟨upd_same, same_new hD⟩
      (fun i J _ h => (show Same H3 J from h.2).seq (sq bx hb)) ?_ ?_⟩
    · rintro i y J J' hi ⟨hJ, sJ⟩ ⟨rfl, hy⟩
      have hi' : i < ts.length := by simpa using hi
      rw [List.getElem?_map, List.getElem?_eq_getElem hi'] at hy
      obtain rfl := Option.some.inj hy
      obtain ⟨m, hm, hm2⟩ := (tp3.same (show Same H3 J' from sJ)).get (List.getElem?_eq_getElem hi')
      have et : ms.take (i + 1) = ms.take i ++ [m] := by rw [List.take_add_one, hm]; rfl
      refine ⟨_, _, rfl, .inl (.inl hm2), rfl, _, _, rfl, _, [], rfl, rfl, rfl, ?_⟩
      have hb' := sq ax ha
      have ha' : SqL K J' a (ps.map V.int) := (show Same H3 J' from sJ).seq hb'
      refine ⟨_, rfl, _, rfl, _, rfl, _, rfl, a, _, rfl, .inl ha', _, _, rfl, rfl, (by rw [List.length_map]; omega), a, _, _, _, rfl, rfl, ha', (by rw [List.length_map]; exact atI_pace l0), rfl, ?_⟩
      have ei : decide (V.int m.2 = V.int (paceOf ps m.1)) = decide (m.2 = paceOf ps m.1) := by
        rw [decide_eq_decide]
        exact ⟨fun e => by injection e, fun e => by rw [e]⟩
      rw [ei]
      by_cases hc : m.2 = paceOf ps m.1
      · rw [decide_eq_true hc]
        refine ⟨false, rfl, ?_, sJ⟩
        rw [et]
        unfold realOf
        rw [List.filter_append]
        have : List.filter (fun m => decide (m.2 ≠ paceOf ps m.1)) [m] = [] := by simp [hc]
        rw [this, List.append_nil]
        exact hJ
      · rw [decide_eq_false hc]
        have hr' : ((realOf ps (ms.take i)).map kvP).length < sizeLine := by
          rw [List.length_map]
          refine small1000 (Nat.le_trans (List.length_filter_le _ _) ?_)
          rw [List.length_take]
          have := fit.len
          omega
        have hv : valV ((realOf ps (ms.take i)).map kvP) (Sum.inl m.1 : Key) = none := by
          rw [valV_kvP, List.find?_eq_none.mpr]
          · rfl
          · intro m' hm' e'
            have h1 := (List.mem_filter.mp hm').1
            obtain ⟨j, hj, e⟩ := List.getElem_of_mem h1
            rw [List.length_take] at hj
            rw [List.getElem_take] at e
            have hi2 : i < ms.length := by omega
            have hlt := List.pairwise_iff_getElem.mp fit.asc j i (by omega) hi2 (by omega)
            rw [List.getElem?_eq_getElem hi2] at hm
            have := Option.some.inj hm
            have e3 : m'.1 = m.1 := by simpa using e'
            rw [e, this, e3] at hlt
            omega
        refine ⟨true, rfl, _, rfl, _, rfl, _, Sum.inl m.1, rfl, hJ, hr', ?_, fun c o e => ?_⟩
        · rw [upd_same, putK_new _ hv, et]
          unfold realOf
          rw [List.filter_append]
          have : List.filter (fun m => decide (m.2 ≠ paceOf ps m.1)) [m] = [m] := by simp [hc]
          rw [this, List.map_append]
          rfl
        · rw [upd_ne (ne_of_none e hD)]
          exact sJ c o e
    · rintro J ⟨hJ, sJ⟩
      rw [List.length_map, tl, List.take_length] at hJ
      refine ⟨_, rfl, x, C, dx, _, rfl, sJ _ _ hx3, Z.cl, Z.nC, (by show 1 < 1000; decide), ?_⟩
      have xD : x ≠ D := ne_of_none hx3 hD
      refine k _ l D ⟨⟨dx, upd_same⟩, ?_, ?_⟩ (s12.free hl) ?_ fun c o e g => ?_
      · rw [upd_ne xl.symm]
        exact sJ _ _ hl3
      · rw [upd_ne xD.symm]
        exact hJ
      · cases e : H D with
        | none => rfl
        | some o =>
          rw [f3 D o e (fun z => xD z.symm)] at hD
          cases hD
      · rw [upd_ne g]
        exact sJ _ _ (f3 c o e g)
end

/-! ### what a calendar tells: week, speeds, changes -/
def spWeek (C : Addr) : Sp := fun vs H Q _ => ∃ (x l d : Addr) (ps : List Int) (ms : List (Int × Int)), vs = [.ref x] ∧ CalAt C H x l d ps ms ∧ Q (.int (ps.length : Nat)) H
def spSpeeds (C : Addr) : Sp := fun vs H Q _ => ∃ (x l d : Addr) (ps : List Int) (ms : List (Int × Int)), vs = [.ref x] ∧ CalAt C H x l d ps ms ∧
  ∀ q, H q = none → Q (.ref q) (upd H q (.lst (ps.map V.int)))
def spChanges (C : Addr) : Sp := fun vs H Q _ => ∃ (x l d : Addr) (ps : List Int) (ms : List (Int × Int)), vs = [.ref x] ∧ CalAt C H x l d ps ms ∧
  ∀ (H' : Hp) (q : Addr) (ts : List Addr), Same H H' → H q = none → (∀ t ∈ ts, H t = none) → q ∉ ts → H' q = some (.lst (ts.map V.ref)) → Tups H' ts ms → Q (.ref q) H'
theorem tups_paired {H : Hp} : ∀ {ts : List Addr} {ms : List (Int × Int)}, Paired (fun (t : Addr) (q : Key × V) => H t = some (.tup [kV q.1, q.2])) ts (ms.map kvP) → Tups H ts ms
  | [], [], _ => trivial
  | [], m :: ms, h => nomatch h
  | t :: ts, [], h => nomatch h
  | t :: ts, m :: ms, h => by
    have h' : Paired (fun (t : Addr) (q : Key × V) => H t = some (.tup [kV q.1, q.2])) (t :: ts) (kvP m :: ms.map kvP) := h
    cases h' with
    | cons a b => exact ⟨a, tups_paired b⟩
section
variable {P : Program} {w : World} {K : PySem.W.Frag} {mg : Str → Option Value} {base : Heap}
theorem scGet1 : FnScope ["self"] ["self"] (defScope sWeek) := ⟨rfl, rfl, rfl, by decide +kernel, rfl, by decide +kernel, by decide +kernel⟩
theorem scGet2 : FnScope ["self"] ["self"] (defScope sSpeeds) := ⟨rfl, rfl, rfl, by decide +kernel, rfl, by decide +kernel, by decide +kernel⟩
theorem scGet3 : FnScope ["self"] ["self"] (defScope sChanges) := ⟨rfl, rfl, rfl, by decide +kernel, rfl, by decide +kernel, by decide +kernel⟩
theorem ok_week {f C : Addr} {fd : FuncData} (F : Fun K "week" "Calendar.week" sWeek f fd) (Z : Cal K mg C) (T : Blt mg) : FnOk P w K mg base CX0 1 f fd ["self"] (spWeek C) := by
  refine F.ok scGet1 (fun vs H Q E h => ?_) (fun cdv A outer s H vs Q E hr h => ?_)
  · obtain ⟨x, l, d, ps, ms, rfl, _⟩ := h
    rfl
  · obtain ⟨x, l, d, ps, ms, rfl, ⟨⟨dx, hx⟩, hl, hd⟩, k⟩ := h
    refine ⟨_, pss_one (ps_ret (pe_callB call_len_seq (by rfl) T.len PySem.boot_len (pa_cons (pe_fld (pv 0) rfl) pa_nil))), ?_⟩
    refine ⟨_, rfl, x, C, dx, _, _, rfl, hx, Z.cl, Z.nS, calF_s l d, l, _, rfl, .inl (SqL.of hl), ?_⟩
    rw [List.length_map]
    exact k
theorem ok_speeds {f C : Addr} {fd : FuncData} (F : Fun K "speeds" "Calendar.speeds" sSpeeds f fd) (Z : Cal K mg C) (T : Blt mg) : FnOk P w K mg base CX0 1 f fd ["self"] (spSpeeds C) := by
  refine F.ok scGet2 (fun vs H Q E h => ?_) (fun cdv A outer s H vs Q E hr h => ?_)
  · obtain ⟨x, l, d, ps, ms, rfl, _⟩ := h
    rfl
  · obtain ⟨x, l, d, ps, ms, rfl, ⟨⟨dx, hx⟩, hl, hd⟩, k⟩ := h
    refine ⟨_, pss_one (ps_ret (pe_callTy call_list_of (by rfl) T.list (by decide +kernel) (pa_cons (pe_fld (pv 0) rfl) pa_nil))), ?_⟩
    exact ⟨_, rfl, x, C, dx, _, _, rfl, hx, Z.cl, Z.nS, calF_s l d, l, _, rfl, .inl (SqL.of hl), k⟩
theorem ok_changes {f C : Addr} {fd : FuncData} (F : Fun K "changes" "Calendar.changes" sChanges f fd) (Z : Cal K mg C) (T : Blt mg) : FnOk P w K mg base CX0 1 f fd ["self"] (spChanges C) := by
  refine F.ok scGet3 (fun vs H Q E h => ?_) (fun cdv A outer s H vs Q E hr h => ?_)
  · obtain ⟨x, l, d, ps, ms, rfl, _⟩ := h
    rfl
  · obtain ⟨x, l, d, ps, ms, rfl, ⟨⟨dx, hx⟩, hl, hd⟩, k⟩ := h
    refine ⟨_, pss_one (ps_ret (LiI.pe_listItems rfl (pe_fld (pv 0) rfl) (by rfl) T.list (by decide +kernel))), ?_⟩
    exact ⟨_, rfl, x, C, dx, _, _, rfl, hx, Z.cl, Z.nC, calF_c l d, d, _, rfl, hd, fun H' q ts s1 nq nt qt hq hp => k H' q ts s1 nq nt qt hq (tups_paired hp)⟩
end
/-- a property of the calendars, by its getter -/
structure Pp (P : Program) (w : World) (K : PySem.W.Frag) (mg : Str → Option Value) (base : Heap) (C : Addr) (x : Str) (sp : Sp) (p g : Addr) (fd : FuncData) : Prop where
  of : PropOf K C x p g
  ok : FnOk P w K mg base CX0 1 g fd ["self"] sp
  bi : Binds K fd ["self"] []

/-! ### data whose repr is short -/
structure Rp (d : PyData) (n k : Nat) : Prop where
  lv : d.leavesShort 42 = true
  sh : d.showable = true
  nd : d.hasDict = false
  dp : d.depth ≤ k
  bk : d.bulk ≤ n
structure RpA (xs : List PyData) (n k : Nat) : Prop where
  lv : PyData.leavesShortAll 42 xs = true
  sh : PyData.showableAll xs = true
  nd : PyData.hasDictAll xs = false
  dp : PyData.depthAll xs ≤ k
  bk : PyData.bulkAll xs ≤ n
theorem Rp.int {i : Int} (h0 : -10 ^ 40 < i) (h1 : i < 10 ^ 40) : Rp (.int i) 0 0 := by
  have h : i.natAbs < 10 ^ 40 := by omega
  refine ⟨?_, ?_, rfl, Nat.le_refl _, Nat.le_refl _⟩
  · refine decide_eq_true ?_
    have e := int_text_length_le10 (k := 40) (by decide) h
    show (Str.ofString (toString i)).length ≤ 42
    rw [PySem.ofString_length]
    omega
  · refine decide_eq_true ?_
    by_cases z : i.natAbs = 0
    · rw [z]
      decide
    · have : i.natAbs < 2 ^ 1920 := Nat.lt_trans h (by decide)
      exact (Nat.log2_lt z).mpr this
theorem Rp.bool (b : Bool) : Rp (.bool b) 0 0 := ⟨rfl, rfl, rfl, Nat.le_refl _, Nat.le_refl _⟩
theorem Rp.none : Rp .none 0 0 := ⟨rfl, rfl, rfl, Nat.le_refl _, Nat.le_refl _⟩
theorem Rp.mono {d : PyData} {n k n' k' : Nat} (h : Rp d n k) (g1 : n ≤ n') (g2 : k ≤ k') : Rp d n' k' := ⟨h.lv, h.sh, h.nd, Nat.le_trans h.dp g2, Nat.le_trans h.bk g1⟩
theorem RpA.mono {d : List PyData} {n k n' k' : Nat} (h : RpA d n k) (g1 : n ≤ n') (g2 : k ≤ k') : RpA d n' k' := ⟨h.lv, h.sh, h.nd, Nat.le_trans h.dp g2, Nat.le_trans h.bk g1⟩
theorem Rp.list {xs : List PyData} {n k : Nat} (h : RpA xs n k) : Rp (.list xs) n (k + 1) :=
  ⟨by simp only [PyData.leavesShort, h.lv], by simp only [PyData.showable, h.sh], by simp only [PyData.hasDict, h.nd], by simp only [PyData.depth]; have := h.dp; omega, by simp only [PyData.bulk]; exact h.bk⟩
theorem Rp.tup {xs : List PyData} {n k : Nat} (h : RpA xs n k) : Rp (.tuple xs) n (k + 1) :=
  ⟨by simp only [PyData.leavesShort, h.lv], by simp only [PyData.showable, h.sh], by simp only [PyData.hasDict, h.nd], by simp only [PyData.depth]; have := h.dp; omega, by simp only [PyData.bulk]; exact h.bk⟩
theorem RpA.nil : RpA [] 0 0 := ⟨rfl, rfl, rfl, Nat.le_refl _, Nat.le_refl _⟩
theorem RpA.cons {d : PyData} {xs : List PyData} {n k m j : Nat} (h : Rp d n k) (g : RpA xs m j) : RpA (d :: xs) (n + 1 + m) (k + j) :=
  ⟨by simp only [PyData.leavesShortAll, h.lv, g.lv, Bool.and_self], by simp only [PyData.showableAll, h.sh, g.sh, Bool.and_self], by simp only [PyData.hasDictAll, h.nd, g.nd, Bool.or_self],
    by simp only [PyData.depthAll]; have := h.dp; have := g.dp; omega, by simp only [PyData.bulkAll]; have := h.bk; have := g.bk; omega⟩
theorem RpA.all {n k : Nat} : ∀ {xs : List PyData}, (∀ d ∈ xs, Rp d n k) → RpA xs (xs.length * (n + 1)) k
  | [], _ => RpA.nil.mono (Nat.zero_le _) (Nat.zero_le _)
  | d :: xs, h => by
    have h1 := h d List.mem_cons_self
    have h2 := RpA.all (xs := xs) fun e he => h e (List.mem_cons_of_mem _ he)
    refine ⟨by simp only [PyData.leavesShortAll, h1.lv, h2.lv, Bool.and_self], by simp only [PyData.showableAll, h1.sh, h2.sh, Bool.and_self], by simp only [PyData.hasDictAll, h1.nd, h2.nd, Bool.or_self], ?_, ?_⟩
    · simp only [PyData.depthAll]
      have := h1.dp
      have := h2.dp
      omega
    · simp only [PyData.bulkAll]
      have := h1.bk
      have := h2.bk
      rw [List.length_cons, Nat.add_mul]
      omega
theorem Rp.fits {d : PyData} {n k : Nat} (h : Rp d n k) (g : n ≤ 300000) : d.shown.length ≤ sizeLine := by
  have e := PyData.shown_le_bulk 42 (by decide) d h.lv
  have := h.bk
  rw [sizeLine_eq]
  omega
def rRep2 (K : PySem.W.Frag) : List V → Hp → VK → Prop := fun xs H Q => ∃ (a : Addr) (d : PyData) (n k : Nat), xs = [.ref a] ∧ Dp K H (.ref a) d ∧ Rp d n k ∧ k ≤ 60 ∧ n ≤ 300000 ∧ Q (.str d.shown) H
theorem call_rep2 {X : Cx} (hgd : X.A.guards = some []) (hu : X.A.units + 64 < cLine) : CallR X (.builtin "repr") (rRep2 X.K) := by
  intro pins s σ H xs us Q I r h
  obtain ⟨a, d, n, k, e, hd, hr, hk, hn, q⟩ := h
  exact call_repr hgd hu pins s σ H xs us Q I r ⟨a, d, e, hd, hr.sh, hr.nd, Nat.le_trans hr.dp hk, hr.fits hn, q⟩
/-! ### which data stand where -/
def dInts (xs : List Int) : PyData := .list (xs.map PyData.int)
def dMarks (ms : List (Int × Int)) : PyData := .list (ms.map fun m => PyData.tuple [.int m.1, .int m.2])
theorem dpAll_ints {K : PySem.W.Frag} {H : Hp} : ∀ xs : List Int, DpAll K H (xs.map V.int) (xs.map PyData.int)
  | [] => .nil
  | x :: xs => .cons (.int x) (dpAll_ints xs)
theorem dp_ints {K : PySem.W.Frag} {H : Hp} {a : Addr} {xs : List Int} (h : SqL K H a (xs.map V.int)) : Dp K H (.ref a) (dInts xs) := .lst h (dpAll_ints xs)
theorem dpAll_marks {K : PySem.W.Frag} {H : Hp} : ∀ {ts : List Addr} {ms : List (Int × Int)}, Tups H ts ms → DpAll K H (ts.map V.ref) (ms.map fun m => PyData.tuple [.int m.1, .int m.2])
  | [], [], _ => .nil
  | _ :: _, m :: _, h => .cons (.tup (SqT.of h.1) (.cons (.int m.1) (.cons (.int m.2) .nil))) (dpAll_marks h.2)
theorem dp_marks {K : PySem.W.Frag} {H : Hp} {a : Addr} {ts : List Addr} {ms : List (Int × Int)} (h : SqL K H a (ts.map V.ref)) (g : Tups H ts ms) : Dp K H (.ref a) (dMarks ms) := .lst h (dpAll_marks g)
theorem rp_ints {xs : List Int} (h : ∀ v ∈ xs, -10 ^ 40 < v ∧ v < 10 ^ 40) : Rp (dInts xs) xs.length 1 := by
  have := RpA.all (xs := xs.map PyData.int) (n := 0) (k := 0) fun d hd => by
    obtain ⟨v, hv, rfl⟩ := List.mem_map.mp hd
    exact Rp.int (h v hv).1 (h v hv).2
  refine (Rp.list this).mono ?_ (Nat.le_refl _)
  rw [List.length_map]
  omega
theorem rp_marks {ms : List (Int × Int)} (h : ∀ m ∈ ms, -10 ^ 40 < m.1 ∧ m.1 < 10 ^ 40 ∧ -10 ^ 40 < m.2 ∧ m.2 < 10 ^ 40) : Rp (dMarks ms) (ms.length * 3) 2 := by
  have := RpA.all (xs := ms.map fun m => PyData.tuple [.int m.1, .int m.2]) (n := 2) (k := 1) fun d hd => by
    obtain ⟨m, hm, rfl⟩ := List.mem_map.mp hd
    have g := h m hm
    exact (Rp.tup (.cons (Rp.int g.1 g.2.1) (.cons (Rp.int g.2.2.1 g.2.2.2) .nil))).mono (by omega) (by omega)
  refine (Rp.list this).mono ?_ (Nat.le_refl _)
  rw [List.length_map]
  omega

/-! ### operators of own classes -/
section
variable {X : Cx} {k : Nat} {f C : Addr} {fd : FuncData} {ps : List Str} {sp : Sp}
theorem run_in1 {pins : List (Addr × Obj)} {σ : L2.St} {H : Hp} {s : Shared} {Q : VK} {us : List Value} {vs : List V} (F : FnOk X.prog X.w X.K X.mg X.base CX0 k f fd ps sp) (hr : Room (k + 1) X.A)
    (hb : Binds X.K fd ps []) (I : Inv X pins σ H s) (r : Vals vs us) (h : sp vs H Q E0) : wpAny (model X.prog X.w) X.A.in1 (call (.ref f) us) (EP X pins σ Q) X.xe s := by
  have hl : us.length = ps.length := r.length.symm.trans (F.len _ _ _ _ h)
  have bi := hb s us I.kIn (by rw [List.append_nil]; exact hl)
  rw [List.append_nil] at bi
  refine wpAny_call (codeAny_mono (F.run X.A.in1 X.stack s H ⟨us, []⟩ us vs Q E0 hr.in1 I.env0.in1 bi r h) fun res s2 hq => ?_)
  rcases res with er | fl
  · exact False.elim hq
  · rcases fl with _ | _ | _ | u
    iterate 3 exact False.elim hq
    exact I.after hq
theorem run_here {pins : List (Addr × Obj)} {σ : L2.St} {H : Hp} {s : Shared} {Q : VK} {us : List Value} {vs : List V} (F : FnOk X.prog X.w X.K X.mg X.base CX0 k f fd ps sp) (hr : Room k X.A)
    (hb : Binds X.K fd ps []) (I : Inv X pins σ H s) (r : Vals vs us) (h : sp vs H Q E0) : wpAny (model X.prog X.w) X.A (call (.ref f) us) (EP X pins σ Q) X.xe s := by
  have q : sp (vs ++ []) H Q E0 := by rw [List.append_nil]; exact h
  exact run_fn F hr hb .nil pass0 I r q
/-- what stands behind x[i], i in x of an own class -/
structure Own (K : PySem.W.Frag) (C : Addr) (m : Str) (f : Addr) : Prop where
  at_ : PySem.W.findIn K (.ref C) m = some (some (.ref f))
  fn : PySem.W.isFn K (.ref f) = true
  fi : PySem.W.fnIn K f = true
def rOwn (C : Addr) (sp : Sp) : R2 := fun x y H Q => ∃ a dx fs, x = .ref a ∧ H a = some (.ins C dx fs) ∧ sp [.ref a, y] H Q E0
theorem ix_own (o : Own X.K C "__getitem__" f) (F : FnOk X.prog X.w X.K X.mg X.base CX0 k f fd ps sp) (hr : Room (k + 1) X.A) (hb : Binds X.K fd ps [])
    {a b : Expr} {ta tb : TE} {pos : Pos} (ha : PE X a ta) (hi : PE X b tb)
    (hsl : ∀ (x : Addr) (i : Value), subscripted b true (.ref x) i = runValue (.builtin "lifetime.subscript" ⟨[.ref x, i], []⟩) := by intro _ _; with_unfolding_all rfl) :
    PE X (.Subscript a b pos) (tOp (rOwn C sp) ta tb) := by
  refine ⟨fun pins s σ H Q I h => ?_⟩
  refine Subscript_ (binT ha hi I h fun v u s2 x y H2 I2 rx ry q => ?_)
  obtain ⟨p, dx, fs, rfl, ea, hq⟩ := q
  obtain rfl : v = Value.ref p := rx
  obtain ⟨m, fr⟩ := I2.fr
  obtain ⟨mA, O, _⟩ := ins_get I2.hok ea
  obtain ⟨od, J, _⟩ := O.look
  exact PySem.W.sub_K fr I2.ok.mod.kin J o.at_ o.fi o.fn (run_in1 F hr hb I2 (.cons (show L2.RelV (V.ref p) (Value.ref p) from rfl) (.cons ry .nil)) hq) (hsl p u)
def rIn (C : Addr) (sp : Sp) : R2 := fun y x H Q => ∃ a dx fs, x = .ref a ∧ H a = some (.ins C dx fs) ∧ sp [.ref a, y] H (fun r H' => ∃ b, r = .bl b ∧ Q (.bl b) H') E0
theorem op_inOwn (o : Own X.K C "__contains__" f) (F : FnOk X.prog X.w X.K X.mg X.base CX0 k f fd ps sp) (hr : Room k X.A) (hb : Binds X.K fd ps []) : OpR X (compareOp .In) (rIn C sp) := by
  intro pins s σ H y x v u Q I ry rx h
  obtain ⟨p, dx, fs, rfl, ea, hq⟩ := h
  obtain rfl : u = Value.ref p := rx
  obtain ⟨m, fr⟩ := I.fr
  obtain ⟨mA, O, _⟩ := ins_get I.hok ea
  obtain ⟨od, J, _⟩ := O.look
  refine PySem.W.in_K fr I.ok.mod.kin J o.at_ o.fn (thn (run_here F hr hb I (.cons (show L2.RelV (V.ref p) (Value.ref p) from rfl) (.cons ry .nil)) hq) fun r s2 ⟨z, H2, I2, rz, b, eb, q2⟩ => ?_)
  subst eb
  obtain rfl : r = Value.bool b := rz
  exact wpAny_truthy_bool ⟨.bl b, H2, I2, rfl, q2⟩
end
/-- the speed that a calendar has at a moment -/
def speedAt (ps : List Int) (ms : List (Int × Int)) (t : Int) : Int := ((ms.find? fun m => decide (m.1 = t)).map fun m => m.2).getD (paceOf ps t)
def spGet (C : Addr) : Sp := fun vs H Q _ => ∃ (x l d : Addr) (ps : List Int) (ms : List (Int × Int)) (t : Int), vs = [.ref x, .int t] ∧ CalAt C H x l d ps ms ∧ 0 < ps.length ∧ Q (.int (speedAt ps ms t)) H
def spHas (C : Addr) : Sp := fun vs H Q _ => ∃ (x l d : Addr) (ps : List Int) (ms : List (Int × Int)) (t : Int), vs = [.ref x, .int t] ∧ CalAt C H x l d ps ms ∧ 0 < ps.length ∧ Q (.bl (decide (speedAt ps ms t ≠ 0))) H
section
variable {P : Program} {w : World} {K : PySem.W.Frag} {mg : Str → Option Value} {base : Heap}
theorem scGet : FnScope ["self", "at"] ["self", "at"] (defScope sGet) := ⟨rfl, rfl, rfl, by decide +kernel, rfl, by decide +kernel, by decide +kernel⟩
theorem ok_get {f C : Addr} {fd : FuncData} (F : Fun K "__getitem__" "Calendar.__getitem__" sGet f fd) (Z : Cal K mg C) (T : Blt mg) : FnOk P w K mg base CX0 1 f fd ["self", "at"] (spGet C) := by
  refine F.ok scGet (fun vs H Q E h => ?_) (fun cdv A outer s H vs Q E hr h => ?_)
  · obtain ⟨x, l, d, ps, ms, t, rfl, _⟩ := h
    rfl
  · obtain ⟨x, l, d, ps, ms, t, rfl, ⟨⟨dx, hx⟩, hl, hd⟩, l0, k⟩ := h
    have hu := hu_of hr
    refine ⟨_, pss_one (ps_ret (pe_dget2 hu (pe_fld (pv 0) rfl) (pv 1) (pe_ix ix_list (pe_fld (pv 0) rfl) (pe_op op_mod (pv 1) (pe_callB call_len_seq (by rfl) T.len PySem.boot_len (pa_cons (pe_fld (pv 0) rfl) pa_nil))) (fun _ _ => rfl)) ⟨rfl, rfl, rfl, rfl⟩)), ?_⟩
    have hz : (((ps.map V.int).length : Nat) : Int) = ps.length := by rw [List.length_map]
    refine ⟨_, rfl, x, C, dx, _, _, rfl, hx, Z.cl, Z.nC, calF_c l d, d, rfl, .inl ⟨_, .inl hd⟩, _, rfl, _, rfl, x, C, dx, _, _, rfl, hx, Z.cl, Z.nS, calF_s l d, _, rfl, _, rfl, x, C, dx, _, _, rfl, hx, Z.cl, Z.nS, calF_s l d, l, _, rfl, .inl (SqL.of hl), _, _, rfl, rfl, ?_, l, _, _, .int (paceOf ps t), rfl, rfl, SqL.of hl, ?_, ?_⟩
    · rw [hz]
      omega
    · rw [hz]
      exact atI_pace l0
    · refine ⟨_, DGet.k (k := Sum.inl t) hd, ?_⟩
      rw [valV_kvP]
      unfold speedAt at k
      cases e : ms.find? fun m => decide (m.1 = t) with
      | none =>
        rw [e] at k
        exact k
      | some m =>
        rw [e] at k
        exact k
theorem scHas : FnScope ["self", "x"] ["self", "x"] (defScope sHas) := ⟨rfl, rfl, rfl, by decide +kernel, rfl, by decide +kernel, by decide +kernel⟩
theorem ok_has {f g C : Addr} {fd gd : FuncData} (F : Fun K "__contains__" "Calendar.__contains__" sHas f fd) (o : Own K C "__getitem__" g) (G : FnOk P w K mg base CX0 1 g gd ["self", "at"] (spGet C)) (bG : Binds K gd ["self", "at"] []) :
    FnOk P w K mg base CX0 3 f fd ["self", "x"] (spHas C) := by
  refine F.ok scHas (fun vs H Q E h => ?_) (fun cdv A outer s H vs Q E hr h => ?_)
  · obtain ⟨x, l, d, ps, ms, t, rfl, _⟩ := h
    rfl
  · obtain ⟨x, l, d, ps, ms, t, rfl, cal, l0, k⟩ := h
    obtain ⟨dx, hx⟩ := cal.ob
    refine ⟨_, pss_one (ps_ret (pe_cmpR op_ne (ix_own o G hr bG (pv 0) (pv 1)) pe_int (nomark _))), ?_⟩
    refine ⟨_, rfl, _, rfl, x, dx, _, rfl, hx, ⟨x, l, d, ps, ms, t, rfl, cal, l0, rfl, ?_⟩⟩
    have e : (!decide (V.int (speedAt ps ms t) = V.int 0)) = decide (speedAt ps ms t ≠ 0) := by
      by_cases z : speedAt ps ms t = 0
      · rw [z]
        rfl
      · have z2 : ¬ V.int (speedAt ps ms t) = V.int 0 := fun q => z (by injection q)
        rw [decide_eq_false z2, decide_eq_true z]
        rfl
    rw [e]
    exact k
end

/-- a new calendar, by the promise of its __init__ -/
theorem made_ok {K : PySem.W.Frag} {C : Addr} {H : Hp} {x dx a b : Addr} {ps : List Int} {ts : List Addr} {ms : List (Int × Int)} {vs : List V} {R : VK} {E : XK} (hv : vs = [.ref x, .ref a, .ref b]) (nx : H x = none) (ndx : H dx = none)
    (ha : H a = some (.lst (ps.map V.int))) (hb : H b = some (.lst (ts.map V.ref))) (tp : Tups H ts ms) (hp : Paces ps) (fit : Fit ms)
    (k : ∀ H' l d, CalAt C H' x l d ps (realOf ps ms) → H l = none → H d = none → Same H H' → R .non H') :
    spInit C K vs (upd (upd H dx (.own x)) x (.ins C dx [])) R E := by
  have s0 : Same H (upd (upd H dx (.own x)) x (.ins C dx [])) := fun c o e => by
    rw [upd_ne (ne_of_none e nx), upd_ne (ne_of_none e ndx)]
    exact e
  refine ⟨x, dx, a, b, ps, ts, ms, hv, upd_same, SqL.of (s0 _ _ ha), SqL.of (s0 _ _ hb), tp.same s0, hp, fit, ne_of_none ha nx, ne_of_none hb nx, fun H' l d cal nl nd f => ?_⟩
  exact k H' l d cal (s0.free nl) (s0.free nd) (Same.made nx ndx f)
def gKw {α : Type} (z : α) : List α → List α → List α := fun us ws => [us.getD 0 z, ws.getD 1 z, ws.getD 0 z]
theorem kb_init {K : PySem.W.Frag} {f : Addr} {fd : FuncData} (F : Fun K "__init__" "Calendar.__init__" sInit f fd) : KBn K fd ["self", "speeds", "changes"] 1 ["changes", "speeds"] (gKw Value.none) (gKw V.non) := by
  obtain ⟨oc, od, kV, doc, pm, an, cdv, ct, osl, rfl, lk, hcd⟩ := F.ex
  refine ⟨fun s us ws _ l1 l2 => ?_, fun {vs us zs ws} r1 r2 => ?_⟩
  · match us, l1, ws, l2 with
    | [u], _, [c, p], _ => exact .of_eq rfl
  · have get : ∀ {vs : List V} {us : List Value} (i : Nat), Vals vs us → RelV (vs.getD i V.non) (us.getD i Value.none) := by
      intro vs us i r
      induction r generalizing i with
      | nil => cases i <;> exact (rfl : RelV V.non Value.none)
      | cons a _ ih =>
        cases i with
        | zero => exact a
        | succ i => exact ih i
    exact .cons (get 0 r1) (.cons (get 1 r2) (.cons (get 0 r2) .nil))
def spTold (C : Addr) : Sp := fun vs H Q _ => ∃ (x l d : Addr) (ps : List Int) (ms : List (Int × Int)) (way : Int), vs = [.ref x, .int way] ∧ CalAt C H x l d ps ms ∧
  ∀ (H' : Hp) (r a b : Addr) (ts : List Addr), Same H H' → H r = none → H a = none → H b = none → r ≠ a → r ≠ b → a ≠ b → b ∉ ts → H' r = some (.lst [.int (ps.length : Nat), .ref a, .ref b]) → H' a = some (.lst (ps.map V.int)) →
    H' b = some (.lst (ts.map V.ref)) → Tups H' ts ms → Q (.ref r) H'
section
variable {P : Program} {w : World} {K : PySem.W.Frag} {mg : Str → Option Value} {base : Heap}
theorem scTold : FnScope ["made", "way", "found", "last"] ["made", "way"] (defScope sTold) := ⟨rfl, rfl, rfl, by decide +kernel, rfl, by decide +kernel, by decide +kernel⟩
theorem ok_told {f C p1 g1 p2 g2 p3 g3 : Addr} {fd d1 d2 d3 : FuncData} (F : Fun K "_law_told" "_law_told" sTold f fd) (Z : Cal K mg C)
    (W1 : Pp P w K mg base C "week" (spWeek C) p1 g1 d1) (W2 : Pp P w K mg base C "speeds" (spSpeeds C) p2 g2 d2) (W3 : Pp P w K mg base C "changes" (spChanges C) p3 g3 d3) :
    FnOk P w K mg base CX0 3 f fd ["made", "way"] (spTold C) := by
  refine F.ok scTold (fun vs H Q E h => ?_) (fun cdv A outer s H vs Q E hr h => ?_)
  · obtain ⟨x, l, d, ps, ms, way, rfl, _⟩ := h
    rfl
  · obtain ⟨x, l, d, ps, ms, way, rfl, cal, k⟩ := h
    refine ⟨_, pss_cons (ps_if (pt_cmpR op_eq (pv 1) pe_int (nomark _))
        (pss_cons (ps_set (i := 2) scTold.nd rfl (.inl rfl) (pe_lst (pa_cons (pe_prop (pv 0) Z.cl W1.of W1.ok hr W1.bi .nil pass0 rfl) (pa_cons (pe_prop (pv 0) Z.cl W2.of W2.ok hr W2.bi .nil pass0 rfl) pa_nil))))
        (pss_one (ps_ret (pe_op op_cat (pv 2) (pe_lst (pa_cons (pe_prop (pv 0) Z.cl W3.of W3.ok hr W3.bi .nil pass0 rfl) pa_nil)))))) pss_nil)
      (pss_cons (ps_set (i := 3) scTold.nd rfl (.inl rfl) (pe_prop (pv 0) Z.cl W3.of W3.ok hr W3.bi .nil pass0 rfl))
      (pss_one (ps_ret (pe_lst (pa_cons (pe_prop (pv 0) Z.cl W1.of W1.ok hr W1.bi .nil pass0 rfl) (pa_cons (pe_prop (pv 0) Z.cl W2.of W2.ok hr W2.bi .nil pass0 rfl) (pa_cons (pv 3) pa_nil))))))), ?_⟩
    obtain ⟨dx, hx⟩ := cal.ob
    refine ⟨_, rfl, rfl, _, rfl, ite2 (fun _ => ?_) (fun _ => ?_)⟩
    · refine ⟨_, rfl, x, dx, _, rfl, hx, ⟨x, l, d, ps, ms, rfl, cal, ?_⟩⟩
      refine ⟨_, rfl, x, dx, _, rfl, hx, ⟨x, l, d, ps, ms, rfl, cal, fun a na => ?_⟩⟩
      have s1 : Same H (upd H a (.lst (ps.map V.int))) := same_new na
      refine ⟨(by show 2 ≤ sizeLine; decide), fun r0 n0 => ?_⟩
      have s2 := s1.trans (same_new (o := .lst [.int (ps.length : Nat), .ref a]) n0)
      refine ⟨_, rfl, _, rfl, x, dx, _, rfl, s2 _ _ hx, ⟨x, l, d, ps, ms, rfl, cal.same s2, fun H' b ts s3 nb nt bt hb tp => ?_⟩⟩
      refine ⟨(by show 1 ≤ sizeLine; decide), fun r1 n1 => ?_⟩
      have s4 := same_new (o := .lst [.ref b]) n1
      have ha2 : (upd (upd H a (.lst (ps.map V.int))) r0 (.lst [.int (ps.length : Nat), .ref a])) a = some (.lst (ps.map V.int)) := by rw [upd_ne (ne_of_none upd_same n0)]; exact upd_same
      refine ⟨r0, r1, _, _, rfl, rfl, s4 _ _ (s3 _ _ upd_same), upd_same, (by show 2 + 1 ≤ sizeLine; decide), fun r nr => ?_⟩
      have s5 := same_new (o := .lst ([.int (ps.length : Nat), .ref a] ++ [.ref b])) nr
      have ha5 := s5 _ _ (s4 _ _ (s3 _ _ ha2))
      have hb5 := s5 _ _ (s4 _ _ hb)
      exact k _ r a b ts (((s2.trans s3).trans s4).trans s5) (((s2.trans s3).trans s4).free nr) na (s2.free nb) (fun z => by rw [z, s4 _ _ (s3 _ _ ha2)] at nr; cases nr) (fun z => by rw [z, s4 _ _ hb] at nr; cases nr) (fun z => by rw [← z, ha2] at nb; cases nb) bt upd_same ha5 hb5 (tp.same (s4.trans s5))
    · refine ⟨_, rfl, x, dx, _, rfl, hx, ⟨x, l, d, ps, ms, rfl, cal, fun H' b ts s3 nb nt bt hb tp => ?_⟩⟩
      refine ⟨_, rfl, x, dx, _, rfl, s3 _ _ hx, ⟨x, l, d, ps, ms, rfl, cal.same s3, ?_⟩⟩
      refine ⟨_, rfl, x, dx, _, rfl, s3 _ _ hx, ⟨x, l, d, ps, ms, rfl, cal.same s3, fun a na => ?_⟩⟩
      have s1 : Same H' (upd H' a (.lst (ps.map V.int))) := same_new na
      refine ⟨_, rfl, (by show 3 ≤ sizeLine; decide), fun r nr => ?_⟩
      have s5 := same_new (o := .lst [.int (ps.length : Nat), .ref a, .ref b]) nr
      refine k _ r a b ts ((s3.trans s1).trans s5) ((s3.trans s1).free nr) (s3.free na) nb (fun z => by rw [z, upd_same] at nr; cases nr) (fun z => by rw [z, s1 _ _ hb] at nr; cases nr) (fun z => by rw [z, hb] at na; cases na) bt upd_same (s5 _ _ upd_same) (s5 _ _ (s1 _ _ hb)) (tp.same (s1.trans s5))
end

/-! ### the law's own loop -/
def Scr (K : PySem.W.Frag) (H : Hp) (a : Addr) (xs : List V) : Prop := (∃ o, H a = some (.frz o (.lst xs))) ∨ ∀ J : Hp, SqL K J a xs
theorem Scr.seq {K : PySem.W.Frag} {H : Hp} {a : Addr} {xs : List V} (h : Scr K H a xs) : SqL K H a xs := by
  rcases h with ⟨o, h⟩ | h
  · exact .inl (.inr ⟨o, h⟩)
  · exact h H
theorem Scr.of {K : PySem.W.Frag} {H : Hp} {a : Addr} {xs : List V} (o : Only H) (h : SqL K H a xs) : Scr K H a xs := by
  rcases h with (h | ⟨u, h⟩) | h
  · rcases o a with z | ⟨u, ys, z⟩
    · rw [z] at h
      cases h
    · rw [z] at h
      cases h
  · exact .inl ⟨u, h⟩
  · exact .inr fun J => .inr h
theorem Scr.same {K : PySem.W.Frag} {H H' : Hp} {a : Addr} {xs : List V} (h : Scr K H a xs) (f : Same H H') : Scr K H' a xs := by
  rcases h with ⟨o, h⟩ | h
  · exact .inl ⟨o, f _ _ h⟩
  · exact .inr h
theorem Scr.fr {K : PySem.W.Frag} {H H' : Hp} {a p : Addr} {n : Nat} {xs : List V} (h : Scr K H a xs) (g : Well H p n) (f : Fr p H H') : Scr K H' a xs := by
  rcases h with ⟨o, h⟩ | h
  · refine .inl ⟨o, f _ _ h fun z => ?_⟩
    obtain ⟨x, y, u, e, _⟩ := g
    rw [z, e] at h
    cases h
  · exact .inr h
def spFits : Sp := fun vs H Q _ => ∃ (p : Addr) (n : Nat), vs = [.ref p] ∧ Well H p n ∧ n ≤ 10 ^ 6 ∧ ∀ H', Fr p H H' → Well H' p (n + 1000) → Q (.bl true) H'
def spLaw (K : PySem.W.Frag) : Sp := fun vs H Q _ => ∃ (a : Addr) (ns : List Int), vs = [.ref a] ∧ Scr K H a (ns.map V.int) ∧ ns.length ≤ 63 ∧ ∀ H', Q (.bl true) H'
/-- the turns of the inner loop -/
def turns : Nat := match defBody sLaw with
  | .For _ _ (_ :: .For _ (.Call _ (.Constant (.int n) _ _ :: _) _ _) _ _ _ :: _) _ _ :: _ => n.toNat
  | _ => 0
section
variable {P : Program} {w : World} {K : PySem.W.Frag} {mg : Str → Option Value} {base : Heap}
theorem scLaw : FnScope ["script", "place", "well", "turn"] ["script"] (defScope sLaw) := ⟨rfl, rfl, rfl, by decide +kernel, rfl, by decide +kernel, by decide +kernel⟩
theorem ok_law {f fW fF : Addr} {fd fdW fdF : FuncData} {k : Nat} (hk : 1 ≤ k) (F : Fun K "law" "law" sLaw f fd) (T : Blt mg) (W : At P w K mg base 1 "_law_well" ["script", "place"] (spWell K) fW fdW)
    (G : FnG P w K mg base k fF fdF ["well"] spFits) (gF : mg "_law_fits" = some (.ref fF)) (kF : PySem.W.keepIn K (.ref fF) = true) (bF : Binds K fdF ["well"] []) : FnG P w K mg base (k + 1) f fd ["script"] (spLaw K) := by
  refine okG F scLaw (fun vs H Q E h => ?_) (fun cdv A outer s H vs Q E hgd hr h => ?_)
  · obtain ⟨a, ns, rfl, _⟩ := h
    rfl
  · obtain ⟨a, ns, rfl, hS, hl, q⟩ := h
    have hr1 : Room 1 _ := hr.mono hk
    refine ⟨_, pss_cons (ps_for PassesOwn.never rfl (pi_range1 (by rfl) T.range (pa_cons (pe_callB (call_max2 rfl) (by rfl) T.max (by decide +kernel) (pa_cons pe_int (pa_cons (pe_callB (call_min2 rfl) (by rfl) T.min (by decide +kernel)
          (pa_cons pe_int (pa_cons (pe_callB call_len_seq (by rfl) T.len PySem.boot_len (pa_cons (pv 0) pa_nil)) pa_nil))) pa_nil))) pa_nil)) (pg_name (i := 1) scLaw.nd rfl (.inl rfl))
        (pss_cons (ps_set (i := 2) scLaw.nd rfl (.inl rfl) (pe_call W.ok hr1 (by rfl) W.at_ W.kp W.bi .nil pass0 (pa_cons (pv 0) (pa_cons (pv 1) pa_nil))))
        (pss_one (ps_for PassesOwn.never rfl (pi_range1 (by rfl) T.range (pa_cons pe_int pa_nil)) (pg_name (i := 3) scLaw.nd rfl (.inl rfl))
          (pss_one (ps_if (pt_not (pt_val (pe_callG G hgd hr (by rfl) gF kF bF (pa_cons (pv 2) pa_nil)))) (pss_one (ps_ret pe_bl)) pss_nil))))))
      (pss_one (ps_ret pe_bl)), ?_⟩
    refine ⟨_, rfl, a, _, rfl, .inl hS.seq, 63, _, rfl, 1, _, rfl, ?_⟩
    generalize hm : (if (if (((ns.map V.int).length : Nat) : Int) < 63 then (((ns.map V.int).length : Nat) : Int) else 63) > 1 then (if (((ns.map V.int).length : Nat) : Int) < 63 then (((ns.map V.int).length : Nat) : Int) else 63) else 1) = m
    have m1 : 1 ≤ m ∧ m ≤ 63 := by
      rw [← hm]
      split <;> split <;> omega
    refine ⟨m, rfl, by omega, by omega, for_range (lo := 0) (n := m.toNat) (fun i σ J => ∃ y1 y2 y3 : Option V, σ = [some (.ref a), y1, y2, y3] ∧ Scr K J a (ns.map V.int)) ⟨none, none, none, rfl, hS⟩ ?_ ?_⟩
    · rintro i σ J hi ⟨y1, y2, y3, rfl, hJ⟩
      refine ⟨_, rfl, _, rfl, ⟨a, ns, _, rfl, hJ.seq, hl, by omega, by omega, fun p J1 np s1 w1 => ?_⟩⟩
      refine ⟨turns, rfl, by decide +kernel, by decide +kernel, for_range (lo := 0) (n := turns) (fun j σ J2 => ∃ y3 : Option V, σ = [some (.ref a), some (.int (0 + i)), some (.ref p), y3] ∧ Scr K J2 a (ns.map V.int) ∧ Well J2 p (j * 1000)) ⟨_, rfl, hJ.same s1, w1.mono (by omega)⟩ ?_ ?_⟩
      · rintro j σ J2 hj ⟨y3, rfl, hJ2, w2⟩
        have tb : turns ≤ 100 := by decide +kernel
        refine ⟨_, rfl, ⟨p, _, rfl, w2, by omega, fun J3 f3 w3 => ⟨_, rfl, ?_⟩⟩⟩
        exact ⟨_, rfl, hJ2.fr w2 f3, w3.mono (by omega)⟩
      · rintro σ J2 ⟨y3, rfl, hJ2, w2⟩
        exact ⟨_, _, _, rfl, hJ2⟩
    · rintro σ J ⟨y1, y2, y3, rfl, hJ⟩
      exact q J
end

theorem Paces.fits {ps : List Int} (h : Paces ps) : ∀ v ∈ ps, -10 ^ 40 < v ∧ v < 10 ^ 40 := fun v hv => by have := h.lo v hv; omega
theorem Marks.fit {cap : Int} {ms : List (Int × Int)} (h : Marks cap ms) (g : cap ≤ 3) : Fit ms := ⟨h.asc, h.val, by have := h.len; omega⟩
theorem Marks.rp {cap : Int} {ms : List (Int × Int)} (h : Marks cap ms) (g : cap ≤ 3) : Rp (dMarks ms) 9 2 := by
  refine (rp_marks fun m hm => ?_).mono (by have := h.len; omega) (Nat.le_refl _)
  have := h.big m hm
  have := h.val m hm
  omega
theorem real_rp {cap : Int} {ps : List Int} {ms : List (Int × Int)} (h : Marks cap ms) (g : cap ≤ 3) : Rp (dMarks (realOf ps ms)) 9 2 := by
  refine (rp_marks fun m hm => ?_).mono ?_ (Nat.le_refl _)
  · have hm2 := (List.mem_filter.mp hm).1
    have := h.big m hm2
    have := h.val m hm2
    omega
  · have := h.len
    have := List.length_filter_le (fun m => decide (m.2 ≠ paceOf ps m.1)) ms
    unfold realOf
    omega
theorem pace_rep {k : Nat} {v t : Int} (h : 0 < k) : paceOf (List.replicate k v) t = v := by
  unfold paceOf
  rw [List.length_replicate]
  have h0 := Int.emod_nonneg t (show (k : Int) ≠ 0 by omega)
  have h1 := Int.emod_lt_of_pos t (show (0 : Int) < k by omega)
  rw [List.getD_eq_getElem?_getD, List.getElem?_replicate, if_pos (by omega)]
  rfl
theorem CalAt.ne_new {C : Addr} {H : Hp} {x l d c : Addr} {ps : List Int} {ms : List (Int × Int)} (h : CalAt C H x l d ps ms) (e : H c = none) : x ≠ c ∧ l ≠ c ∧ d ≠ c := by
  obtain ⟨⟨dx, h1⟩, h2, h3⟩ := h
  exact ⟨ne_of_none h1 e, ne_of_none h2 e, ne_of_none h3 e⟩
section
variable {P : Program} {w : World} {K : PySem.W.Frag} {mg : Str → Option Value} {base : Heap}
theorem scFits : FnScope ["well", "size", "way", "odd", "paces", "marks", "passed", "pairs", "made", "stay", "real", "want", "other", "first", "right", "at", "pace"] ["well"] (defScope sFits) := ⟨rfl, rfl, rfl, by decide +kernel, rfl, by decide +kernel, by decide +kernel⟩
theorem ok_fits {f fT fP fM fI fL C : Addr} {fd dT dP dM dI dL : FuncData} (F : Fun K "_law_fits" "_law_fits" sFits f fd) (T : Blt mg) (Z : Cal K mg C) (L : Tk P w K mg base fT dT)
    (Pa : At P w K mg base 2 "_law_paces" ["well", "size"] spPaces fP dP) (Ma : At P w K mg base 3 "_law_marks" ["well", "size", "cap"] spMarks fM dM)
    (MK : Mk K C fI) (GI : FnOk P w K mg base CX0 3 fI dI ["self", "speeds", "changes"] (spInit C K)) (bI : Binds K dI ["self", "speeds", "changes"] []) (kI : KBn K dI ["self", "speeds", "changes"] 1 ["changes", "speeds"] (gKw Value.none) (gKw V.non))
    (To : At P w K mg base 3 "_law_told" ["made", "way"] (spTold C) fL dL) : FnG P w K mg base 5 f fd ["well"] spFits := by
  refine okG F scFits (fun vs H Q E h => ?_) (fun cdv A outer s H vs Q E hgd hr h => ?_)
  · obtain ⟨p, n, rfl, _⟩ := h
    rfl
  · obtain ⟨p, n, rfl, hW, hn, k⟩ := h
    have hr1 : Room 1 _ := hr.mono (by decide)
    have hr2 : Room 2 _ := hr.mono (by decide)
    have hr3 : Room 3 _ := hr.mono (by decide)
    have hu := hr.units
    refine ⟨_, pss_cons (ps_asg (pe_tup (pa_cons (pe_op op_add pe_int (pe_call L.ok hr1 (by rfl) L.at_ L.kp L.bi .nil pass0 (pa_cons (pv 0) (pa_cons pe_int pa_nil)))) (pa_cons (pe_call L.ok hr1 (by rfl) L.at_ L.kp L.bi .nil pass0 (pa_cons (pv 0) (pa_cons pe_int pa_nil)))
          (pa_cons (pe_call L.ok hr1 (by rfl) L.at_ L.kp L.bi .nil pass0 (pa_cons (pv 0) (pa_cons pe_int pa_nil))) pa_nil))))
        (pg_tup rfl (pgs_cons (pg_name (i := 1) scFits.nd rfl (.inr rfl)) (pgs_cons (pg_name (i := 2) scFits.nd rfl (.inl rfl)) (pgs_cons (pg_name (i := 3) scFits.nd rfl (.inl rfl)) pgs_nil)))))
      (pss_cons (ps_set (i := 4) scFits.nd rfl (.inr rfl) (pe_call Pa.ok hr2 (by rfl) Pa.at_ Pa.kp Pa.bi .nil pass0 (pa_cons (pv 0) (pa_cons (pv 1) pa_nil))))
      (pss_cons (ps_set (i := 5) scFits.nd rfl (.inl rfl) (pe_call Ma.ok hr3 (by rfl) Ma.at_ Ma.kp Ma.bi .nil pass0 (pa_cons (pv 0) (pa_cons (pv 1) (pa_cons pe_int pa_nil)))))
      (pss_cons (ps_par (i := 6) (j := 7) rfl scFits.nd rfl rfl (by decide) rfl rfl (pa_cons (pe_callTy call_list_of (by rfl) T.list (by decide +kernel) (pa_cons (pv 4) pa_nil)) (pa_cons (pe_callTy call_list_of (by rfl) T.list (by decide +kernel) (pa_cons (pv 5) pa_nil)) pa_nil)) (by rfl))
      (C8.pss_cut (ps_set (i := 8) scFits.nd rfl (.inl rfl) (pe_ifExp (pt_cmpR op_eq (pv 3) pe_int (nomark _)) (pe_make MK GI hr (by rfl) Z.at_ bI .nil pass0 (pa_cons (pv 6) (pa_cons (pv 7) pa_nil))) (pe_makeK0 MK GI hr (by rfl) Z.at_ kI pass0 (pk_cons (pv 7) (pk_cons (pv 6) pk_nil)))))
      (pss_cons (ps_set (i := 9) scFits.nd rfl (.inl rfl) (pe_cmpR op_eq (pe_callB (call_rep2 hgd hu) (by rfl) T.repr (by decide +kernel) (pa_cons (pe_lst (pa_cons (pv 6) (pa_cons (pv 7) pa_nil))) pa_nil)) (pe_callB (call_rep2 hgd hu) (by rfl) T.repr (by decide +kernel) (pa_cons (pe_lst (pa_cons (pv 4) (pa_cons (pv 5) pa_nil))) pa_nil)) (nomark _)))
      (pss_cons (ps_setLc (i := 10) (own := [("at", 15), ("pace", 16)]) (g := gTup K 2 (gCons (gName 15) (gCons (gName 16) gNil))) rfl scFits.nd rfl rfl (sw_true rfl rfl rfl (by decide +kernel)) (pi_list (pv 5))
          (blkOk_by (N := ["well", "size", "way", "odd", "paces", "marks", "passed", "pairs", "made", "stay", "real", "want", "other", "first", "right", "at", "pace"]) (sc := defScope sFits) (by decide +kernel))
          (fun _ _ _ _ _ => pg_tup rfl (pgs_cons (pg_name (i := 15) scFits.nd rfl (.inl rfl)) (pgs_cons (pg_name (i := 16) scFits.nd rfl (.inl rfl)) pgs_nil)))
          (fun _ _ _ _ _ => pts_one (pt_cmpR op_ne (pe_ix (r := rIxL K) ix_list (pv 4) (pe_op op_mod (pe_callTy call_int1 (by rfl) T.int (by decide +kernel) (pa_cons (pv 15) pa_nil)) (pv 1)) (fun _ _ => rfl)) (pv 16) (nomark _)))
          (fun _ _ _ _ _ => pe_tup (pa_cons (pv 15) (pa_cons (pv 16) pa_nil))))
      (pss_cons (ps_set (i := 11) scFits.nd rfl (.inl rfl) (pe_callB (call_rep2 hgd hu) (by rfl) T.repr (by decide +kernel) (pa_cons (pe_lst (pa_cons (pv 1) (pa_cons (pv 4) (pa_cons (pv 10) pa_nil)))) pa_nil)))
      (pss_cons (ps_set (i := 12) scFits.nd rfl (.inl rfl) (pe_make MK GI hr (by rfl) Z.at_ bI .nil pass0 (pa_cons (pe_op op_rep (pe_lst (pa_cons (pe_op op_add pe_int (pv 3)) pa_nil)) (pe_op op_add pe_int (pv 2))) (pa_cons (pe_lst (pa_cons (pe_tup (pa_cons pe_int (pa_cons pe_int pa_nil))) pa_nil)) pa_nil))))
      (pss_cons (ps_expr (pe_bm PySem.F.plainAttrs_list PySem.F.slot_list_append PySem.F.type_list_append mt_append (pv 6) (pa_cons pe_int pa_nil)))
      (pss_cons (ps_expr (pe_bm PySem.F.plainAttrs_list PySem.F.slot_list_append PySem.F.type_list_append mt_append (pv 7) (pa_cons (pe_tup (pa_cons (pe_op op_pow pe_int pe_int) (pa_cons pe_int pa_nil))) pa_nil)))
      (pss_cons (ps_set (i := 13) scFits.nd rfl (.inl rfl) (pe_call To.ok hr3 (by rfl) To.at_ To.kp To.bi .nil pass0 (pa_cons (pv 8) (pa_cons (pv 2) pa_nil))))
      (pss_cons (ps_set (i := 14) scFits.nd rfl (.inl rfl) (pe_cmpR op_eq (pe_callB (call_rep2 hgd hu) (by rfl) T.repr (by decide +kernel) (pa_cons (pv 13) pa_nil)) (pv 11) (nomark _)))
      (pss_cons (ps_expr (pe_bm PySem.F.plainAttrs_list PySem.F.slot_list_append PySem.F.type_list_append mt_append (pe_ix ix_list (pv 13) pe_int (fun _ _ => rfl)) (pa_cons pe_int pa_nil)))
      (pss_cons (ps_expr (pe_bm PySem.F.plainAttrs_list PySem.F.slot_list_insert PySem.F.type_list_insert mt_insert (pe_ix ix_list (pv 13) pe_int (fun _ _ => rfl)) (pa_cons pe_int (pa_cons (pe_tup (pa_cons (pe_un un_neg (pe_op op_pow pe_int pe_int)) (pa_cons pe_int pa_nil))) pa_nil))))
      (pss_cons (ps_if (PW.pt (pw_or (pt_not (pt_val (pv 9))) (pw_or1 (pt_not (pt_val (pv 14)))))) (pss_one (ps_ret pe_bl)) pss_nil)
      (pss_cons (ps_if (pt_cmpR op_ne (pe_callB (call_rep2 hgd hu) (by rfl) T.repr (by decide +kernel) (pa_cons (pe_call To.ok hr3 (by rfl) To.at_ To.kp To.bi .nil pass0 (pa_cons (pv 12) (pa_cons (pv 2) pa_nil))) pa_nil))
          (pe_callB (call_rep2 hgd hu) (by rfl) T.repr (by decide +kernel) (pa_cons (pe_lst (pa_cons (pe_op op_add pe_int (pv 2)) (pa_cons (pe_op op_rep (pe_lst (pa_cons (pe_op op_add pe_int (pv 3)) pa_nil)) (pe_op op_add pe_int (pv 2))) (pa_cons (pe_lst (pa_cons (pe_tup (pa_cons pe_int (pa_cons pe_int pa_nil))) pa_nil)) pa_nil)))) pa_nil)) (nomark _)) (pss_one (ps_ret pe_bl)) pss_nil)
      (pss_one (ps_ret (pe_cmpR op_eq (pe_callB (call_rep2 hgd hu) (by rfl) T.repr (by decide +kernel) (pa_cons (pe_call To.ok hr3 (by rfl) To.at_ To.kp To.bi .nil pass0 (pa_cons (pv 8) (pa_cons (pe_op op_sub pe_int (pv 2)) pa_nil))) pa_nil)) (pv 11) (nomark _)))))))))))))))))))), ?_⟩
    -- the draws
    refine ⟨_, rfl, ⟨_, _, _, rfl, hW, (by omega), (by decide), (by decide), fun z H1 z0 z1 f1 w1 => ⟨_, _, rfl, rfl, ?_⟩⟩⟩
    refine ⟨_, rfl, ⟨_, _, _, rfl, w1, (by omega), (by decide), (by decide), fun way H2 y0 y1 f2 w2 => ?_⟩⟩
    refine ⟨_, rfl, ⟨_, _, _, rfl, w2, (by omega), (by decide), (by decide), fun odd H3 o0 o1 f3 w3 => ?_⟩⟩
    refine ⟨(by show 3 ≤ sizeLine; decide), fun t0 nt0 => ⟨t0, _, rfl, .inl (.inl upd_same), rfl, _, _, rfl, _, _, rfl, _, [], rfl, rfl, ?_⟩⟩
    have w3' := w3.new (o := .tup [.int (1 + z), .int way, .int odd]) nt0
    have f3' : Fr p H _ := ((f1.trans f2).trans f3).trans (Fr.new (o := .tup [.int (1 + z), .int way, .int odd]) nt0)
    generalize upd H3 t0 (.tup [.int (1 + z), .int way, .int odd]) = H3' at w3' f3'
    refine ⟨_, rfl, _, rfl, ⟨p, _, _, rfl, w3', by omega, by omega, by omega, fun aP ps H4 hp pl nP nPp h4 f4 w4 => ?_⟩⟩
    refine ⟨_, rfl, _, rfl, ⟨p, _, _, _, rfl, w4, by omega, by omega, by omega, by decide, by decide, fun aM ts ms H5 hm nM nMp h5 tp nts f5 w5 => ?_⟩⟩
    have hP5 := f5 _ _ h4 nPp
    have f05 : Fr p H H5 := (f3'.trans f4).trans f5
    -- passed, pairs
    refine ⟨_, rfl, aP, _, rfl, .inl (SqL.of hP5), fun aA nA => ?_⟩
    have s6 : Same H5 (upd H5 aA (.lst (ps.map V.int))) := same_new nA
    refine ⟨_, rfl, aM, _, rfl, .inl (SqL.of (s6 _ _ h5)), fun aB nB => ⟨_, _, rfl, ?_⟩⟩
    have s7 := s6.trans (same_new (o := .lst (ts.map V.ref)) nB)
    have hA7 : (upd (upd H5 aA (.lst (ps.map V.int))) aB (.lst (ts.map V.ref))) aA = some (.lst (ps.map V.int)) := by
      rw [upd_ne (fun z => by rw [← z, upd_same] at nB; cases nB)]
      exact upd_same
    have hB7 : (upd (upd H5 aA (.lst (ps.map V.int))) aB (.lst (ts.map V.ref))) aB = some (.lst (ts.map V.ref)) := upd_same
    have nAB : aA ≠ aB := fun e => by
      rw [← e, upd_same] at nB
      cases nB
    generalize upd (upd H5 aA (.lst (ps.map V.int))) aB (.lst (ts.map V.ref)) = H7 at s7 hA7 hB7
    have fA := free_of f05 w5 nA
    have fB := free_of f05 w5 (s6.free nB)
    have tp7 := tp.same s7
    have fit : Fit ms := hm.fit (by decide)
    have rI : Rp (dInts ps) 12 1 := (rp_ints hp.fits).mono hp.len1 (Nat.le_refl _)
    have rM : Rp (dMarks ms) 9 2 := hm.rp (by decide)
    have rR : Rp (dMarks (realOf ps ms)) 9 2 := real_rp hm (by decide)
    -- made
    refine ⟨fun σ J => ∃ x l d : Addr, σ = [some (.ref p), some (.int (1 + z)), some (.int way), some (.int odd), some (.ref aP), some (.ref aM), some (.ref aA), some (.ref aB), some (.ref x), none, none, none, none, none, none, none, none] ∧
      CalAt C J x l d ps (realOf ps ms) ∧ Same H7 J ∧ H7 x = none ∧ H7 l = none ∧ H7 d = none, ?_, ?_⟩
    · refine ⟨_, rfl, rfl, _, rfl, ite2 (fun _ => ?_) (fun _ => ?_)⟩
      · exact ⟨_, rfl, _, rfl, fun x dx nx ndx _ => made_ok rfl nx ndx hA7 hB7 tp7 hp fit fun J l d cal nl nd sm => ⟨rfl, x, l, d, rfl, cal, sm, nx, nl, nd⟩⟩
      · exact ⟨_, rfl, _, rfl, rfl, rfl, fun x dx nx ndx _ => made_ok rfl nx ndx hA7 hB7 tp7 hp fit fun J l d cal nl nd sm => ⟨rfl, x, l, d, rfl, cal, sm, nx, nl, nd⟩⟩
    rintro σ H8 ⟨x, l, d, rfl, cal, s8, nx, nl, nd⟩
    have s58 := s7.trans s8
    -- stay
    refine ⟨_, rfl, _, rfl, (by show 2 ≤ sizeLine; decide), fun L1 nL1 => ?_⟩
    have g1 := same_new (o := .lst [.ref aA, .ref aB]) nL1
    refine ⟨L1, .list [dInts ps, dMarks ms], 30, 4, rfl, .lst (SqL.of upd_same) (.cons (dp_ints (SqL.of (g1 _ _ (s8 _ _ hA7)))) (.cons (dp_marks (SqL.of (g1 _ _ (s8 _ _ hB7))) (tp7.same (s8.trans g1))) .nil)),
      (Rp.list (.cons rI (.cons rM .nil))).mono (by omega) (by omega), by decide, by decide, ?_⟩
    refine ⟨_, rfl, _, rfl, (by show 2 ≤ sizeLine; decide), fun L2 nL2 => ?_⟩
    have g2 := g1.trans (same_new (o := .lst [.ref aP, .ref aM]) nL2)
    refine ⟨L2, .list [dInts ps, dMarks ms], 30, 4, rfl, .lst (SqL.of upd_same) (.cons (dp_ints (SqL.of (g2 _ _ (s58 _ _ hP5)))) (.cons (dp_marks (SqL.of (g2 _ _ (s58 _ _ h5))) (tp.same (s58.trans g2))) .nil)),
      (Rp.list (.cons rI (.cons rM .nil))).mono (by omega) (by omega), by decide, by decide, rfl, ?_⟩
    rw [decide_eq_true rfl]
    have s9 : Same H7 _ := s8.trans g2
    have cal9 := cal.same g2
    generalize upd (upd H8 L1 (.lst [.ref aA, .ref aB])) L2 (.lst [.ref aP, .ref aM]) = H9 at s9 cal9
    have s59 := s7.trans s9
    -- real
    have tl := tp.len
    have l0 := hp.len0
    have hPz : (((ps.map V.int).length : Nat) : Int) = 1 + z := by rw [List.length_map]; exact pl
    refine ⟨_, rfl, aM, rfl, ⟨_, SqL.of (s59 _ _ h5)⟩, fun D hD => lc_list (K := K) (a := aM) (xs := ts.map V.ref) (fun i J => ∃ us : List Addr, J D = some (.lst (us.map V.ref)) ∧ Tups J us (realOf ps (ms.take i)) ∧ ∀ c o, H9 c = some o → J c = some o)
      ⟨[], upd_same, trivial, same_new hD⟩ (fun i J _ ⟨_, _, _, g⟩ => SqL.of (g _ _ (s59 _ _ h5))) ?_ ?_⟩
    · rintro i y J hi ⟨us, hJ, hus, sJ⟩
      have hi' : i < ts.length := by
        have := (List.getElem?_eq_some_iff.mp hi).1
        simpa using this
      rw [List.getElem?_map, List.getElem?_eq_getElem hi'] at hi
      obtain rfl := Option.some.inj hi
      have sJ' : Same H9 J := sJ
      obtain ⟨m, hm', hm2⟩ := (tp.same (s59.trans sJ')).get (List.getElem?_eq_getElem hi')
      have et : ms.take (i + 1) = ms.take i ++ [m] := by rw [List.take_add_one, hm']; rfl
      have ha' : SqL K J aP (ps.map V.int) := SqL.of (sJ' _ _ (s59 _ _ hP5))
      refine ⟨_, _, rfl, .inl (.inl hm2), rfl, _, _, rfl, _, [], rfl, rfl, rfl, ?_⟩
      refine ⟨_, rfl, _, rfl, .inl ⟨_, rfl, _, rfl, _, _, rfl, rfl, (by show 0 < 1 + z; omega), aP, _, _, _, rfl, rfl, ha', (by have := atI_pace (ps := ps) (t := m.1) l0; rw [pl] at this; exact this), _, rfl, rfl, ?_⟩⟩
      have ei : decide (V.int (paceOf ps m.1) = V.int m.2) = decide (m.2 = paceOf ps m.1) := by
        rw [decide_eq_decide]
        exact ⟨fun e => by injection e with e; exact e.symm, fun e => by rw [e]⟩
      rw [ei]
      have sp : realOf ps (ms.take (i + 1)) = realOf ps (ms.take i) ++ realOf ps [m] := by
        rw [et]
        unfold realOf
        rw [List.filter_append]
      by_cases hc : m.2 = paceOf ps m.1
      · rw [decide_eq_true hc]
        refine ⟨false, rfl, us, hJ, ?_, sJ⟩
        have e0 : realOf ps [m] = [] := by unfold realOf; simp [hc]
        rw [sp, e0, List.append_nil]
        exact hus
      · rw [decide_eq_false hc]
        refine ⟨true, rfl, _, rfl, _, rfl, (by show 2 ≤ sizeLine; decide), fun u nu => ?_⟩
        have gu := same_new (o := .tup [.int m.1, .int m.2]) nu
        have ul := hus.len
        have ul2 : (realOf ps (ms.take i)).length ≤ (ms.take i).length := List.length_filter_le _ _
        rw [List.length_take] at ul2
        have := fit.len
        refine ⟨_, gu _ _ hJ, by rw [List.length_map]; exact small1000 (by omega), us ++ [u], ?_, ?_, fun c o e => ?_⟩
        · rw [upd_same, List.map_append]
          rfl
        · have e0 : realOf ps [m] = [m] := by unfold realOf; simp [hc]
          rw [sp, e0]
          exact ((hus.same gu).snoc upd_same).put (gu _ _ hJ)
        · rw [upd_ne (ne_of_none e hD)]
          exact gu _ _ (sJ c o e)
    rintro H10 ⟨us, hR, hus, s10⟩
    rw [List.length_map, tl, List.take_length] at hus
    have s10' : Same H9 H10 := s10
    -- want
    refine ⟨_, rfl, _, rfl, _, rfl, (by show 3 ≤ sizeLine; decide), fun L3 nL3 => ?_⟩
    have g3 := same_new (o := .lst [.int (1 + z), .ref aP, .ref D]) nL3
    have s5g := s59.trans (s10'.trans g3)
    have rW : Rp (.list [.int (1 + z), dInts ps, dMarks (realOf ps ms)]) 40 5 := (Rp.list (.cons (Rp.int (by omega) (by omega)) (.cons rI (.cons rR .nil)))).mono (by omega) (by omega)
    refine ⟨L3, .list [.int (1 + z), dInts ps, dMarks (realOf ps ms)], 40, 5, rfl, .lst (SqL.of upd_same) (.cons (.int _) (.cons (dp_ints (SqL.of (s5g _ _ hP5))) (.cons (dp_marks (SqL.of (g3 _ _ hR)) (hus.same g3)) .nil))),
      rW, by decide, by decide, ?_⟩
    have cal11 := (cal9.same s10').same g3
    have s711 : Same H7 _ := (s9.trans s10').trans g3
    generalize upd H10 L3 (.lst [.int (1 + z), .ref aP, .ref D]) = H11 at s5g cal11 s711
    -- other
    refine ⟨_, rfl, _, _, rfl, rfl, (by show 1 ≤ sizeLine; decide), fun l1 hl1 => ⟨_, rfl, _, _, rfl, rfl, l1, _, _, rfl, rfl, upd_same, by omega, by omega, by show 1 * (1 + way).toNat ≤ sizeLine; rw [sizeLine_eq]; omega, fun q1 nq1 => ?_⟩⟩
    rw [rep_ints]
    have k1 := (same_new (o := .lst [.int (1 + odd)]) hl1).trans (same_new (o := .lst ((List.replicate (1 + way).toNat (1 + odd)).map V.int)) nq1)
    refine ⟨(by show 2 ≤ sizeLine; decide), fun t1 nt1 => ⟨(by show 1 ≤ sizeLine; decide), fun b2 nb2 => ?_⟩⟩
    have k2 := same_new (o := .tup [.int 7, .int 0]) nt1
    have k3 := same_new (o := .lst [.ref t1]) nb2
    have hq3 := k3 _ _ (k2 _ _ (upd_same (H := upd H11 l1 (.lst [.int (1 + odd)])) (a := q1) (o := .lst ((List.replicate (1 + way).toNat (1 + odd)).map V.int))))
    have ht3 := k3 _ _ (upd_same (H := upd (upd H11 l1 (.lst [.int (1 + odd)])) q1 (.lst ((List.replicate (1 + way).toNat (1 + odd)).map V.int))) (a := t1) (o := .tup [.int 7, .int 0]))
    have hp2 : Paces (List.replicate (1 + way).toNat (1 + odd)) := by
      refine ⟨fun v hv => ?_, ⟨1 + odd, List.mem_replicate.mpr ⟨by omega, rfl⟩, by omega⟩, by rw [List.length_replicate]; omega, by rw [List.length_replicate]; omega⟩
      rw [List.eq_of_mem_replicate hv]
      omega
    have hm2 : Fit [((7 : Int), (0 : Int))] := ⟨List.pairwise_singleton _ _, fun m hm => by rw [List.mem_singleton.mp hm]; decide, by decide⟩
    have er2 : realOf (List.replicate (1 + way).toNat (1 + odd)) [((7 : Int), (0 : Int))] = [(7, 0)] := by
      unfold realOf
      have : ¬ (0 : Int) = paceOf (List.replicate (1 + way).toNat (1 + odd)) 7 := by
        rw [pace_rep (by omega)]
        omega
      simp [this]
    have s11x := (k1.trans k2).trans k3
    refine fun x2 dx2 nx2 ndx2 _ => made_ok (a := q1) (b := b2) (ps := List.replicate (1 + way).toNat (1 + odd)) (ts := [t1]) (ms := [(7, 0)]) rfl nx2 ndx2 hq3 upd_same ⟨ht3, trivial⟩ hp2 hm2 fun H12 l2 d2 cal2 nl2 nd2 s12 => ⟨rfl, ?_⟩
    rw [er2] at cal2
    have s1112 := s11x.trans s12
    have nl7 := s711.free ((s11x).free nl2)
    have nd7 := s711.free ((s11x).free nd2)
    have cal12 := cal11.same s1112
    have s712 := s711.trans s1112
    have hA12 := s712 _ _ hA7
    have hB12 := s712 _ _ hB7
    have nx7 := s711.free (s11x.free nx2)
    have xA := ne_of_none hA7 nx
    have lA := ne_of_none hA7 nl
    have dA := ne_of_none hA7 nd
    have xB := ne_of_none hB7 nx
    have lB := ne_of_none hB7 nl
    have dB := ne_of_none hB7 nd
    have x2A := ne_of_none hA7 nx7
    have l2A := ne_of_none hA7 nl7
    have d2A := ne_of_none hA7 nd7
    have x2B := ne_of_none hB7 nx7
    have l2B := ne_of_none hB7 nl7
    have d2B := ne_of_none hB7 nd7
    have AB : aA ≠ aB := nAB
    have f012 : Fr p H H12 := f05.trans (Fr.of (s7.trans s712))
    have w12 : Well H12 p (n + 100) := (w5.same (s7.trans s712)).mono (by omega)
    -- passed.append(2)
    refine ⟨_, rfl, .inl ⟨rfl, _, SqL.of hA12⟩, aA, _, _, rfl, rfl, hA12, by rw [List.length_map]; exact small1000 (by have := hp.len1; omega), ?_⟩
    have cal13 := cal12.put (o := .lst (ps.map V.int ++ [.int 2])) xA.symm lA.symm dA.symm
    have cal2b := cal2.put (o := .lst (ps.map V.int ++ [.int 2])) x2A.symm l2A.symm d2A.symm
    have f13 : Fr p H (upd H12 aA (.lst (ps.map V.int ++ [.int 2]))) := Fr.put fA.1 f012
    have w13 := w12.upd_ne (o := .lst (ps.map V.int ++ [.int 2])) fA.2.symm
    have hB13 : (upd H12 aA (.lst (ps.map V.int ++ [.int 2]))) aB = some (.lst (ts.map V.ref)) := by rw [upd_ne AB.symm]; exact hB12
    generalize upd H12 aA (.lst (ps.map V.int ++ [.int 2])) = H13 at cal13 cal2b f13 w13 hB13
    -- pairs.append((10 ** 31, 1))
    refine ⟨_, rfl, .inl ⟨rfl, _, SqL.of hB13⟩, _, _, rfl, rfl, ⟨by decide, by decide, by decide⟩, (by show 2 ≤ sizeLine; decide), fun t2 nt2 => ?_⟩
    have e13 := same_new (o := .tup [.int (10 ^ (31 : Int).toNat), .int 1]) nt2
    have hB14 := e13 _ _ hB13
    refine ⟨aB, _, _, rfl, rfl, hB14, by rw [List.length_map]; exact small1000 (by have := fit.len; have := hm.len; omega), ?_⟩
    have cal15 := (cal13.same e13).put (o := .lst (ts.map V.ref ++ [.ref t2])) xB.symm lB.symm dB.symm
    have cal2c := (cal2b.same e13).put (o := .lst (ts.map V.ref ++ [.ref t2])) x2B.symm l2B.symm d2B.symm
    have f15 := Fr.put (o := .lst (ts.map V.ref ++ [.ref t2])) fB.1 (f13.trans (Fr.of e13))
    have w15 := (w13.same e13).upd_ne (o := .lst (ts.map V.ref ++ [.ref t2])) fB.2.symm
    generalize upd (upd H13 t2 (.tup [.int (10 ^ (31 : Int).toNat), .int 1])) aB (.lst (ts.map V.ref ++ [.ref t2])) = H15 at cal15 cal2c f15 w15
    -- first
    refine ⟨_, rfl, _, rfl, ⟨x, l, d, ps, _, way, rfl, cal15, fun H16 r a1 b1 ts1 s16 nr na1 nb1 ra rb ab bt hr1 ha1 hb1 tp1 => ?_⟩⟩
    have eqW : (PyData.list [.int (ps.length : Nat), dInts ps, dMarks (realOf ps ms)]).shown = (PyData.list [.int (1 + z), dInts ps, dMarks (realOf ps ms)]).shown := by rw [pl]
    have rW' : Rp (.list [.int (ps.length : Nat), dInts ps, dMarks (realOf ps ms)]) 40 5 := by rw [pl]; exact rW
    -- right
    refine ⟨_, rfl, ⟨r, .list [.int (ps.length : Nat), dInts ps, dMarks (realOf ps ms)], 40, 5, rfl, .lst (SqL.of hr1) (.cons (.int _) (.cons (dp_ints (SqL.of ha1)) (.cons (dp_marks (SqL.of hb1) tp1) .nil))), rW', by decide, by decide, _, rfl, rfl, ?_⟩⟩
    rw [eqW, decide_eq_true rfl]
    -- first[1].append(3)
    refine ⟨_, rfl, r, _, 1, _, rfl, rfl, SqL.of hr1, atI_nat (j := 1) rfl, .inl ⟨rfl, _, SqL.of ha1⟩, a1, _, _, rfl, rfl, ha1, by rw [List.length_map]; exact small1000 (by have := hp.len1; omega), ?_⟩
    have c16 := cal15.same s16
    have c16b := cal2c.same s16
    have z1 := cal15.ne_new na1
    have z2 := cal2c.ne_new na1
    have cal17 := c16.put (o := .lst (ps.map V.int ++ [.int 3])) z1.1 z1.2.1 z1.2.2
    have cal2d := c16b.put (o := .lst (ps.map V.int ++ [.int 3])) z2.1 z2.2.1 z2.2.2
    have fa1 := free_of f15 w15 na1
    have fb1 := free_of f15 w15 nb1
    have f17 := Fr.put (o := .lst (ps.map V.int ++ [.int 3])) fa1.1 (f15.trans (Fr.of s16))
    have w17 := (w15.same s16).upd_ne (o := .lst (ps.map V.int ++ [.int 3])) fa1.2.symm
    have hr17 : (upd H16 a1 (.lst (ps.map V.int ++ [.int 3]))) r = some (.lst [.int (ps.length : Nat), .ref a1, .ref b1]) := by rw [upd_ne ra]; exact hr1
    have hb17 : (upd H16 a1 (.lst (ps.map V.int ++ [.int 3]))) b1 = some (.lst (ts1.map V.ref)) := by rw [upd_ne ab.symm]; exact hb1
    generalize upd H16 a1 (.lst (ps.map V.int ++ [.int 3])) = H17 at cal17 cal2d f17 w17 hr17 hb17
    -- first[2].insert(0, (-10 ** 31, 3))
    refine ⟨_, rfl, r, _, 2, _, rfl, rfl, SqL.of hr17, atI_nat (j := 2) rfl, .inl ⟨rfl, _, SqL.of hb17⟩, _, _, rfl, rfl, ⟨by decide, by decide, by decide⟩, _, rfl, (by show 2 ≤ sizeLine; decide), fun t3 nt3 => ?_⟩
    have e17 := same_new (o := .tup [.int (-(10 ^ (31 : Int).toNat)), .int 3]) nt3
    have tl1 := tp1.len
    refine ⟨b1, _, 0, _, rfl, rfl, e17 _ _ hb17, by rw [List.length_map, tl1]; exact small1000 (by have := List.length_filter_le (fun m => decide (m.2 ≠ paceOf ps m.1)) ms; have := fit.len; unfold realOf; omega), by decide, by decide, ?_⟩
    have y1 := cal15.ne_new nb1
    have y2 := cal2c.ne_new nb1
    generalize hN : (List.take (0 : Int).toNat (ts1.map V.ref) ++ [V.ref t3] ++ List.drop (0 : Int).toNat (ts1.map V.ref)) = nw
    have cal19 := (cal17.same e17).put (o := .lst nw) y1.1 y1.2.1 y1.2.2
    have cal2e := (cal2d.same e17).put (o := .lst nw) y2.1 y2.2.1 y2.2.2
    have f19 := Fr.put (o := .lst nw) fb1.1 (f17.trans (Fr.of e17))
    have w19 := (w17.same e17).upd_ne (o := .lst nw) fb1.2.symm
    generalize upd (upd H17 t3 (.tup [.int (-(10 ^ (31 : Int).toNat)), .int 3])) b1 (.lst nw) = H19 at cal19 cal2e f19 w19
    -- if not stay or not right
    refine ⟨_, rfl, true, rfl, _, rfl, true, rfl, ?_⟩
    -- the other one
    refine ⟨_, rfl, _, rfl, ⟨x2, l2, d2, _, _, way, rfl, cal2e, fun H20 r2 a2 b3 ts2 s20 nr2 na2 nb3 ra2 rb2 ab2 bt2 hr2 ha2 hb3 tp2 => ?_⟩⟩
    have rq : ∀ v ∈ List.replicate (1 + way).toNat (1 + odd), -10 ^ 40 < v ∧ v < 10 ^ 40 := fun v hv => by rw [List.eq_of_mem_replicate hv]; omega
    have rI2 : Rp (dInts (List.replicate (1 + way).toNat (1 + odd))) 2 1 := (rp_ints rq).mono (by rw [List.length_replicate]; omega) (Nat.le_refl _)
    have rM2 : Rp (dMarks [((7 : Int), (0 : Int))]) 3 2 := rp_marks fun m hm => by rw [List.mem_singleton.mp hm]; decide
    have len2 : ((List.replicate (1 + way).toNat (1 + odd)).length : Int) = 1 + way := by rw [List.length_replicate]; omega
    have rO : Rp (.list [.int (1 + way), dInts (List.replicate (1 + way).toNat (1 + odd)), dMarks [((7 : Int), (0 : Int))]]) 20 6 := (Rp.list (.cons (Rp.int (by omega) (by omega)) (.cons rI2 (.cons rM2 .nil)))).mono (by omega) (by omega)
    rw [len2] at hr2
    refine ⟨r2, .list [.int (1 + way), dInts (List.replicate (1 + way).toNat (1 + odd)), dMarks [((7 : Int), (0 : Int))]], 20, 6, rfl, .lst (SqL.of hr2) (.cons (.int _) (.cons (dp_ints (SqL.of ha2)) (.cons (dp_marks (SqL.of hb3) tp2) .nil))), rO, by decide, by decide, ?_⟩
    refine ⟨_, rfl, _, _, rfl, rfl, _, rfl, _, _, rfl, rfl, (by show 1 ≤ sizeLine; decide), fun l5 nl5 => ⟨_, rfl, _, _, rfl, rfl, l5, _, _, rfl, rfl, upd_same, by omega, by omega, by show 1 * (1 + way).toNat ≤ sizeLine; rw [sizeLine_eq]; omega, fun q5 nq5 => ?_⟩⟩
    rw [rep_ints]
    have v1 := (same_new (o := .lst [.int (1 + odd)]) nl5).trans (same_new (o := .lst ((List.replicate (1 + way).toNat (1 + odd)).map V.int)) nq5)
    refine ⟨(by show 2 ≤ sizeLine; decide), fun t5 nt5 => ⟨(by show 1 ≤ sizeLine; decide), fun b5 nb5 => ⟨(by show 3 ≤ sizeLine; decide), fun r5 nr5 => ?_⟩⟩⟩
    have v2 := same_new (o := .tup [.int 7, .int 0]) nt5
    have v3 := same_new (o := .lst [.ref t5]) nb5
    have v4 := same_new (o := .lst [.int (1 + way), .ref q5, .ref b5]) nr5
    have hq5 := v4 _ _ (v3 _ _ (v2 _ _ (upd_same (H := upd H20 l5 (.lst [.int (1 + odd)])) (a := q5) (o := .lst ((List.replicate (1 + way).toNat (1 + odd)).map V.int)))))
    have ht5 := v4 _ _ (v3 _ _ (upd_same (H := upd (upd H20 l5 (.lst [.int (1 + odd)])) q5 (.lst ((List.replicate (1 + way).toNat (1 + odd)).map V.int))) (a := t5) (o := .tup [.int 7, .int 0])))
    have hb5 := v4 _ _ (upd_same (H := upd (upd (upd H20 l5 (.lst [.int (1 + odd)])) q5 (.lst ((List.replicate (1 + way).toNat (1 + odd)).map V.int))) t5 (.tup [.int 7, .int 0])) (a := b5) (o := .lst [.ref t5]))
    refine ⟨r5, .list [.int (1 + way), dInts (List.replicate (1 + way).toNat (1 + odd)), dMarks [((7 : Int), (0 : Int))]], 20, 6, rfl, .lst (SqL.of upd_same) (.cons (.int _) (.cons (dp_ints (SqL.of hq5)) (.cons (dp_marks (ts := [t5]) (SqL.of hb5) ⟨ht5, trivial⟩) .nil))), rO, by decide, by decide, rfl, _, rfl, ?_⟩
    rw [decide_eq_true rfl]
    refine ite2 (fun g => absurd g (by decide)) (fun _ => ?_)
    have s25 := s20.trans (((v1.trans v2).trans v3).trans v4)
    have cal25 := cal19.same s25
    -- the first one again
    refine ⟨_, rfl, _, rfl, _, _, rfl, rfl, ⟨x, l, d, ps, _, _, rfl, cal25, fun H26 r6 a6 b6 ts6 s26 nr6 na6 nb6 ra6 rb6 ab6 bt6 hr6 ha6 hb6 tp6 => ?_⟩⟩
    refine ⟨r6, .list [.int (ps.length : Nat), dInts ps, dMarks (realOf ps ms)], 40, 5, rfl, .lst (SqL.of hr6) (.cons (.int _) (.cons (dp_ints (SqL.of ha6)) (.cons (dp_marks (SqL.of hb6) tp6) .nil))), rW', by decide, by decide, _, rfl, rfl, ?_⟩
    rw [eqW, decide_eq_true rfl]
    have sF := s25.trans s26
    exact k H26 (f19.trans (Fr.of sF)) ((w19.same sF).mono (by omega))
end

section
theorem all_mk {l : PySem.W.OpenLaw} {w : World} {K : PySem.W.Frag} {h : Heap} {mg : Str → Option Value} {fa C f0 f1 f2 f3 f4 f5 f6 f7 f8 f9 f10 f11 f12 f13 f14 p14 f15 p15 f16 p16 : Addr} (X : K.In h) (G : h.Ns mainGlobals mg) (hfa : mg "law" = some (.ref fa))
    {oc0 kV0 dc0 pm0 cd0 ct0 : Value} {od0 an0 : Option Addr} {sl0 : Array (Option Value)}
    {oc1 kV1 dc1 pm1 cd1 ct1 : Value} {od1 an1 : Option Addr} {sl1 : Array (Option Value)}
    {oc2 kV2 dc2 pm2 cd2 ct2 : Value} {od2 an2 : Option Addr} {sl2 : Array (Option Value)}
    {oc3 kV3 dc3 pm3 cd3 ct3 : Value} {od3 an3 : Option Addr} {sl3 : Array (Option Value)}
    {oc4 kV4 dc4 pm4 cd4 ct4 : Value} {od4 an4 : Option Addr} {sl4 : Array (Option Value)}
    {oc5 kV5 dc5 pm5 cd5 ct5 : Value} {od5 an5 : Option Addr} {sl5 : Array (Option Value)}
    {oc6 kV6 dc6 pm6 cd6 ct6 : Value} {od6 an6 : Option Addr} {sl6 : Array (Option Value)}
    {oc7 kV7 dc7 pm7 cd7 ct7 : Value} {od7 an7 : Option Addr} {sl7 : Array (Option Value)}
    {oc8 kV8 dc8 pm8 cd8 ct8 : Value} {od8 an8 : Option Addr} {sl8 : Array (Option Value)}
    {oc9 kV9 dc9 pm9 cd9 ct9 : Value} {od9 an9 : Option Addr} {sl9 : Array (Option Value)}
    {oc10 kV10 dc10 pm10 cd10 ct10 : Value} {od10 an10 : Option Addr} {sl10 : Array (Option Value)}
    {oc11 kV11 dc11 pm11 cd11 ct11 : Value} {od11 an11 : Option Addr} {sl11 : Array (Option Value)}
    {oc12 kV12 dc12 pm12 cd12 ct12 : Value} {od12 an12 : Option Addr} {sl12 : Array (Option Value)}
    {oc13 kV13 dc13 pm13 cd13 ct13 : Value} {od13 an13 : Option Addr} {sl13 : Array (Option Value)}
    {rs14 : List Value}
    {oc14 kV14 dc14 pm14 cd14 ct14 : Value} {od14 an14 : Option Addr} {sl14 : Array (Option Value)}
    {rs15 : List Value}
    {oc15 kV15 dc15 pm15 cd15 ct15 : Value} {od15 an15 : Option Addr} {sl15 : Array (Option Value)}
    {rs16 : List Value}
    {oc16 kV16 dc16 pm16 cd16 ct16 : Value} {od16 an16 : Option Addr} {sl16 : Array (Option Value)}
    {t_GREATEST_WEEK : Tok}
    {t_GREATEST_SPEED : Tok}
    (aC : PySem.W.nsIn K mainGlobals "Calendar" = some (some (.ref C)))
    (a0 : PySem.W.nsIn K mainGlobals "is_behind" = some (some (.ref f0)))
    (l0 : K.lookup f0 = some ⟨oc0, od0, .func (PySem.W.fnOf "is_behind" "is_behind" (defArgs sBehind) (defBody sBehind) (defScope sBehind) .none kV0 dc0 pm0 an0 cd0 ct0), sl0⟩)
    (c0 : PySem.W.codeIn K cd0 "is_behind" = true)
    (k0 : PySem.W.keepIn K (.ref f0) = true)
    (a1 : PySem.W.nsIn K mainGlobals "check_week" = some (some (.ref f1)))
    (l1 : K.lookup f1 = some ⟨oc1, od1, .func (PySem.W.fnOf "check_week" "check_week" (defArgs sChkWeek) (defBody sChkWeek) (defScope sChkWeek) .none kV1 dc1 pm1 an1 cd1 ct1), sl1⟩)
    (c1 : PySem.W.codeIn K cd1 "check_week" = true)
    (k1 : PySem.W.keepIn K (.ref f1) = true)
    (a2 : PySem.W.nsIn K mainGlobals "is_speed" = some (some (.ref f2)))
    (l2 : K.lookup f2 = some ⟨oc2, od2, .func (PySem.W.fnOf "is_speed" "is_speed" (defArgs sIsSpeed) (defBody sIsSpeed) (defScope sIsSpeed) .none kV2 dc2 pm2 an2 cd2 ct2), sl2⟩)
    (c2 : PySem.W.codeIn K cd2 "is_speed" = true)
    (k2 : PySem.W.keepIn K (.ref f2) = true)
    (a3 : PySem.W.nsIn K mainGlobals "check_speeds" = some (some (.ref f3)))
    (l3 : K.lookup f3 = some ⟨oc3, od3, .func (PySem.W.fnOf "check_speeds" "check_speeds" (defArgs sChkSpeeds) (defBody sChkSpeeds) (defScope sChkSpeeds) .none kV3 dc3 pm3 an3 cd3 ct3), sl3⟩)
    (c3 : PySem.W.codeIn K cd3 "check_speeds" = true)
    (k3 : PySem.W.keepIn K (.ref f3) = true)
    (a4 : PySem.W.nsIn K mainGlobals "check_changes" = some (some (.ref f4)))
    (l4 : K.lookup f4 = some ⟨oc4, od4, .func (PySem.W.fnOf "check_changes" "check_changes" (defArgs sChkChanges) (defBody sChkChanges) (defScope sChkChanges) .none kV4 dc4 pm4 an4 cd4 ct4), sl4⟩)
    (c4 : PySem.W.codeIn K cd4 "check_changes" = true)
    (k4 : PySem.W.keepIn K (.ref f4) = true)
    (a5 : PySem.W.nsIn K mainGlobals "_law_well" = some (some (.ref f5)))
    (l5 : K.lookup f5 = some ⟨oc5, od5, .func (PySem.W.fnOf "_law_well" "_law_well" (defArgs sWell) (defBody sWell) (defScope sWell) .none kV5 dc5 pm5 an5 cd5 ct5), sl5⟩)
    (c5 : PySem.W.codeIn K cd5 "_law_well" = true)
    (k5 : PySem.W.keepIn K (.ref f5) = true)
    (a6 : PySem.W.nsIn K mainGlobals "_law_take" = some (some (.ref f6)))
    (l6 : K.lookup f6 = some ⟨oc6, od6, .func (PySem.W.fnOf "_law_take" "_law_take" (defArgs sTake) (defBody sTake) (defScope sTake) .none kV6 dc6 pm6 an6 cd6 ct6), sl6⟩)
    (c6 : PySem.W.codeIn K cd6 "_law_take" = true)
    (k6 : PySem.W.keepIn K (.ref f6) = true)
    (a7 : PySem.W.nsIn K mainGlobals "_law_number" = some (some (.ref f7)))
    (l7 : K.lookup f7 = some ⟨oc7, od7, .func (PySem.W.fnOf "_law_number" "_law_number" (defArgs sNumber) (defBody sNumber) (defScope sNumber) .none kV7 dc7 pm7 an7 cd7 ct7), sl7⟩)
    (c7 : PySem.W.codeIn K cd7 "_law_number" = true)
    (k7 : PySem.W.keepIn K (.ref f7) = true)
    (a8 : PySem.W.nsIn K mainGlobals "_law_paces" = some (some (.ref f8)))
    (l8 : K.lookup f8 = some ⟨oc8, od8, .func (PySem.W.fnOf "_law_paces" "_law_paces" (defArgs sPaces) (defBody sPaces) (defScope sPaces) .none kV8 dc8 pm8 an8 cd8 ct8), sl8⟩)
    (c8 : PySem.W.codeIn K cd8 "_law_paces" = true)
    (k8 : PySem.W.keepIn K (.ref f8) = true)
    (a9 : PySem.W.nsIn K mainGlobals "_law_marks" = some (some (.ref f9)))
    (l9 : K.lookup f9 = some ⟨oc9, od9, .func (PySem.W.fnOf "_law_marks" "_law_marks" (defArgs sMarks) (defBody sMarks) (defScope sMarks) .none kV9 dc9 pm9 an9 cd9 ct9), sl9⟩)
    (c9 : PySem.W.codeIn K cd9 "_law_marks" = true)
    (k9 : PySem.W.keepIn K (.ref f9) = true)
    (a10 : PySem.W.nsIn K mainGlobals "_law_told" = some (some (.ref f10)))
    (l10 : K.lookup f10 = some ⟨oc10, od10, .func (PySem.W.fnOf "_law_told" "_law_told" (defArgs sTold) (defBody sTold) (defScope sTold) .none kV10 dc10 pm10 an10 cd10 ct10), sl10⟩)
    (c10 : PySem.W.codeIn K cd10 "_law_told" = true)
    (k10 : PySem.W.keepIn K (.ref f10) = true)
    (a11 : PySem.W.nsIn K mainGlobals "_law_fits" = some (some (.ref f11)))
    (l11 : K.lookup f11 = some ⟨oc11, od11, .func (PySem.W.fnOf "_law_fits" "_law_fits" (defArgs sFits) (defBody sFits) (defScope sFits) .none kV11 dc11 pm11 an11 cd11 ct11), sl11⟩)
    (c11 : PySem.W.codeIn K cd11 "_law_fits" = true)
    (k11 : PySem.W.keepIn K (.ref f11) = true)
    (a12 : PySem.W.nsIn K mainGlobals "law" = some (some (.ref f12)))
    (l12 : K.lookup f12 = some ⟨oc12, od12, .func (PySem.W.fnOf "law" "law" (defArgs sLaw) (defBody sLaw) (defScope sLaw) .none kV12 dc12 pm12 an12 cd12 ct12), sl12⟩)
    (c12 : PySem.W.codeIn K cd12 "law" = true)
    (k12 : PySem.W.keepIn K (.ref f12) = true)
    (a13 : PySem.W.findIn K (.ref C) "__init__" = some (some (.ref f13)))
    (i13 : PySem.W.isFn K (.ref f13) = true)
    (j13 : PySem.W.fnIn K f13 = true)
    (l13 : K.lookup f13 = some ⟨oc13, od13, .func (PySem.W.fnOf "__init__" "Calendar.__init__" (defArgs sInit) (defBody sInit) (defScope sInit) .none kV13 dc13 pm13 an13 cd13 ct13), sl13⟩)
    (c13 : PySem.W.codeIn K cd13 "Calendar.__init__" = true)
    (k13 : PySem.W.keepIn K (.ref f13) = true)
    (a14 : PySem.W.findIn K (.ref C) "week" = some (some (.ref p14)))
    (g14 : PySem.W.specialIn K (.ref p14) "__get__" = some (some (.builtin "property.__get__")))
    (t14 : PySem.W.takesIn K (.ref p14) = some true)
    (r14 : PySem.W.recIn K p14 "property" = some (.ref f14 :: rs14))
    (l14 : K.lookup f14 = some ⟨oc14, od14, .func (PySem.W.fnOf "week" "Calendar.week" (defArgs sWeek) (defBody sWeek) (defScope sWeek) .none kV14 dc14 pm14 an14 cd14 ct14), sl14⟩)
    (c14 : PySem.W.codeIn K cd14 "Calendar.week" = true)
    (k14 : PySem.W.keepIn K (.ref f14) = true)
    (a15 : PySem.W.findIn K (.ref C) "speeds" = some (some (.ref p15)))
    (g15 : PySem.W.specialIn K (.ref p15) "__get__" = some (some (.builtin "property.__get__")))
    (t15 : PySem.W.takesIn K (.ref p15) = some true)
    (r15 : PySem.W.recIn K p15 "property" = some (.ref f15 :: rs15))
    (l15 : K.lookup f15 = some ⟨oc15, od15, .func (PySem.W.fnOf "speeds" "Calendar.speeds" (defArgs sSpeeds) (defBody sSpeeds) (defScope sSpeeds) .none kV15 dc15 pm15 an15 cd15 ct15), sl15⟩)
    (c15 : PySem.W.codeIn K cd15 "Calendar.speeds" = true)
    (k15 : PySem.W.keepIn K (.ref f15) = true)
    (a16 : PySem.W.findIn K (.ref C) "changes" = some (some (.ref p16)))
    (g16 : PySem.W.specialIn K (.ref p16) "__get__" = some (some (.builtin "property.__get__")))
    (t16 : PySem.W.takesIn K (.ref p16) = some true)
    (r16 : PySem.W.recIn K p16 "property" = some (.ref f16 :: rs16))
    (l16 : K.lookup f16 = some ⟨oc16, od16, .func (PySem.W.fnOf "changes" "Calendar.changes" (defArgs sChanges) (defBody sChanges) (defScope sChanges) .none kV16 dc16 pm16 an16 cd16 ct16), sl16⟩)
    (c16 : PySem.W.codeIn K cd16 "Calendar.changes" = true)
    (k16 : PySem.W.keepIn K (.ref f16) = true)
    (z_int : PySem.W.nsIn K mainGlobals "int" = some none)
    (z_len : PySem.W.nsIn K mainGlobals "len" = some none)
    (z_abs : PySem.W.nsIn K mainGlobals "abs" = some none)
    (z_max : PySem.W.nsIn K mainGlobals "max" = some none)
    (z_min : PySem.W.nsIn K mainGlobals "min" = some none)
    (z_range : PySem.W.nsIn K mainGlobals "range" = some none)
    (z_repr : PySem.W.nsIn K mainGlobals "repr" = some none)
    (z_list : PySem.W.nsIn K mainGlobals "list" = some none)
    (z_enumerate : PySem.W.nsIn K mainGlobals "enumerate" = some none)
    (q_GREATEST_WEEK : PySem.W.nsIn K mainGlobals "GREATEST_WEEK" = some (some (.int 12 t_GREATEST_WEEK)))
    (q_GREATEST_SPEED : PySem.W.nsIn K mainGlobals "GREATEST_SPEED" = some (some (.int 3 t_GREATEST_SPEED)))
    (pgC : PySem.W.plainGet K C Str.empty = true)
    (hdC : PySem.W.hasDictIn K C = true)
    (poC : PySem.W.plainOver K C = true)
    (saC : PySem.W.findIn K (.ref C) "__setattr__" = some (some (.builtin "object.__setattr__")))
    (mkC : PySem.W.makesIn K C = true)
    (kcC : PySem.W.keepIn K (.ref C) = true)
    (n_speeds : PySem.W.findIn K (.ref C) "_speeds" = some none)
    (n_changes : PySem.W.findIn K (.ref C) "_changes" = some none) :
    ∃ fd : FuncData, (∀ (s : Shared) (v : Value), BindsTo s fd ⟨[v], []⟩ [("script", v)]) ∧ ∀ base : Heap, K.In base → base.Ns mainGlobals mg → FnG l.prog w K mg base 6 fa fd ["script"] (spLaw K) := by
  have e := hfa.symm.trans (PySem.W.mg_of X G a12)
  cases e
  have F_sBehind := fun_mk (st := sBehind) l0 c0 k0
  have b_sBehind := F_sBehind.binds (ps := ["changes", "index"]) fun _ _ _ _ _ _ us hl => match us, hl with | [_, _], _ => rfl
  have m_sBehind := PySem.W.mg_of X G a0
  have k_sBehind := k0
  have F_sChkWeek := fun_mk (st := sChkWeek) l1 c1 k1
  have b_sChkWeek := F_sChkWeek.binds (ps := ["number"]) fun _ _ _ _ _ _ us hl => match us, hl with | [_], _ => rfl
  have m_sChkWeek := PySem.W.mg_of X G a1
  have k_sChkWeek := k1
  have F_sIsSpeed := fun_mk (st := sIsSpeed) l2 c2 k2
  have b_sIsSpeed := F_sIsSpeed.binds (ps := ["number"]) fun _ _ _ _ _ _ us hl => match us, hl with | [_], _ => rfl
  have m_sIsSpeed := PySem.W.mg_of X G a2
  have k_sIsSpeed := k2
  have F_sChkSpeeds := fun_mk (st := sChkSpeeds) l3 c3 k3
  have b_sChkSpeeds := F_sChkSpeeds.binds (ps := ["speeds"]) fun _ _ _ _ _ _ us hl => match us, hl with | [_], _ => rfl
  have m_sChkSpeeds := PySem.W.mg_of X G a3
  have k_sChkSpeeds := k3
  have F_sChkChanges := fun_mk (st := sChkChanges) l4 c4 k4
  have b_sChkChanges := F_sChkChanges.binds (ps := ["changes"]) fun _ _ _ _ _ _ us hl => match us, hl with | [_], _ => rfl
  have m_sChkChanges := PySem.W.mg_of X G a4
  have k_sChkChanges := k4
  have F_sWell := fun_mk (st := sWell) l5 c5 k5
  have b_sWell := F_sWell.binds (ps := ["script", "place"]) fun _ _ _ _ _ _ us hl => match us, hl with | [_, _], _ => rfl
  have m_sWell := PySem.W.mg_of X G a5
  have k_sWell := k5
  have F_sTake := fun_mk (st := sTake) l6 c6 k6
  have b_sTake := F_sTake.binds (ps := ["well", "many"]) fun _ _ _ _ _ _ us hl => match us, hl with | [_, _], _ => rfl
  have m_sTake := PySem.W.mg_of X G a6
  have k_sTake := k6
  have F_sNumber := fun_mk (st := sNumber) l7 c7 k7
  have b_sNumber := F_sNumber.binds (ps := ["well"]) fun _ _ _ _ _ _ us hl => match us, hl with | [_], _ => rfl
  have m_sNumber := PySem.W.mg_of X G a7
  have k_sNumber := k7
  have F_sPaces := fun_mk (st := sPaces) l8 c8 k8
  have b_sPaces := F_sPaces.binds (ps := ["well", "size"]) fun _ _ _ _ _ _ us hl => match us, hl with | [_, _], _ => rfl
  have m_sPaces := PySem.W.mg_of X G a8
  have k_sPaces := k8
  have F_sMarks := fun_mk (st := sMarks) l9 c9 k9
  have b_sMarks := F_sMarks.binds (ps := ["well", "size", "cap"]) fun _ _ _ _ _ _ us hl => match us, hl with | [_, _, _], _ => rfl
  have m_sMarks := PySem.W.mg_of X G a9
  have k_sMarks := k9
  have F_sTold := fun_mk (st := sTold) l10 c10 k10
  have b_sTold := F_sTold.binds (ps := ["made", "way"]) fun _ _ _ _ _ _ us hl => match us, hl with | [_, _], _ => rfl
  have m_sTold := PySem.W.mg_of X G a10
  have k_sTold := k10
  have F_sFits := fun_mk (st := sFits) l11 c11 k11
  have b_sFits := F_sFits.binds (ps := ["well"]) fun _ _ _ _ _ _ us hl => match us, hl with | [_], _ => rfl
  have m_sFits := PySem.W.mg_of X G a11
  have k_sFits := k11
  have F_sLaw := fun_mk (st := sLaw) l12 c12 k12
  have b_sLaw := F_sLaw.binds (ps := ["script"]) fun _ _ _ _ _ _ us hl => match us, hl with | [_], _ => rfl
  have m_sLaw := PySem.W.mg_of X G a12
  have k_sLaw := k12
  have o_sInit : Own K C "__init__" f13 := ⟨a13, i13, j13⟩
  have F_sInit := fun_mk (st := sInit) l13 c13 k13
  have b_sInit := F_sInit.binds (ps := ["self", "speeds", "changes"]) fun _ _ _ _ _ _ us hl => match us, hl with | [_, _, _], _ => rfl
  have h_sInit : Meth K C "__init__" f13 := ⟨a13, i13, k13⟩
  have MK : Mk K C f13 := ⟨mkC, a13, i13, kcC⟩
  have F_sWeek := fun_mk (st := sWeek) l14 c14 k14
  have b_sWeek := F_sWeek.binds (ps := ["self"]) fun _ _ _ _ _ _ us hl => match us, hl with | [_], _ => rfl
  have P_sWeek : PropOf K C "week" p14 f14 := ⟨a14, g14, t14, _, r14⟩
  have F_sSpeeds := fun_mk (st := sSpeeds) l15 c15 k15
  have b_sSpeeds := F_sSpeeds.binds (ps := ["self"]) fun _ _ _ _ _ _ us hl => match us, hl with | [_], _ => rfl
  have P_sSpeeds : PropOf K C "speeds" p15 f15 := ⟨a15, g15, t15, _, r15⟩
  have F_sChanges := fun_mk (st := sChanges) l16 c16 k16
  have b_sChanges := F_sChanges.binds (ps := ["self"]) fun _ _ _ _ _ _ us hl => match us, hl with | [_], _ => rfl
  have P_sChanges : PropOf K C "changes" p16 f16 := ⟨a16, g16, t16, _, r16⟩
  have n_int : mg "int" = none := PySem.W.mg_none_of X G z_int
  have n_len : mg "len" = none := PySem.W.mg_none_of X G z_len
  have n_abs : mg "abs" = none := PySem.W.mg_none_of X G z_abs
  have n_max : mg "max" = none := PySem.W.mg_none_of X G z_max
  have n_min : mg "min" = none := PySem.W.mg_none_of X G z_min
  have n_range : mg "range" = none := PySem.W.mg_none_of X G z_range
  have n_repr : mg "repr" = none := PySem.W.mg_none_of X G z_repr
  have n_list : mg "list" = none := PySem.W.mg_none_of X G z_list
  have n_enumerate : mg "enumerate" = none := PySem.W.mg_none_of X G z_enumerate
  have v_GREATEST_WEEK := PySem.W.mg_of X G q_GREATEST_WEEK
  have v_GREATEST_SPEED := PySem.W.mg_of X G q_GREATEST_SPEED
  have mgC := PySem.W.mg_of X G aC
  have clC : Cls K C := ⟨pgC, hdC, poC, saC⟩
  refine ⟨PySem.W.fnOf "law" "law" (defArgs sLaw) (defBody sLaw) (defScope sLaw) .none kV12 dc12 pm12 an12 cd12 ct12, fun s v => .of_eq rfl, fun base _ _ => ?_⟩
  have T : Blt mg := ⟨n_int, n_len, n_abs, n_max, n_min, n_range, n_repr, n_list⟩
  have Q : Con mg := ⟨⟨_, v_GREATEST_WEEK⟩, ⟨_, v_GREATEST_SPEED⟩, n_enumerate⟩
  have Z : Cal K mg C := ⟨clC, n_speeds, n_changes, mgC⟩
  have IS : At l.prog w K mg base 1 "is_speed" ["number"] spIsSpeed _ _ := ⟨ok_isSpeed F_sIsSpeed Q, m_sIsSpeed, k_sIsSpeed, b_sIsSpeed⟩
  have S1 : At l.prog w K mg base 2 "check_speeds" ["speeds"] (spChkS K) _ _ := ⟨ok_chkS F_sChkSpeeds Q T IS ⟨ok_chkW F_sChkWeek Q, m_sChkWeek, k_sChkWeek, b_sChkWeek⟩, m_sChkSpeeds, k_sChkSpeeds, b_sChkSpeeds⟩
  have S2 : At l.prog w K mg base 2 "check_changes" ["changes"] (spChkC K) _ _ := ⟨ok_chkC F_sChkChanges Q T IS ⟨ok_behind F_sBehind, m_sBehind, k_sBehind, b_sBehind⟩, m_sChkChanges, k_sChkChanges, b_sChkChanges⟩
  have GI : FnOk l.prog w K mg base CX0 3 _ _ ["self", "speeds", "changes"] (spInit C K) := ok_init F_sInit Z T S1 S2
  have L : Tk l.prog w K mg base _ _ := ⟨ok_take F_sTake T, m_sTake, k_sTake, b_sTake⟩
  have B : Nb l.prog w K mg base _ _ := ⟨ok_number F_sNumber T L, m_sNumber, k_sNumber, b_sNumber⟩
  have W : At l.prog w K mg base 1 "_law_well" ["script", "place"] (spWell K) _ _ := ⟨ok_well F_sWell T, m_sWell, k_sWell, b_sWell⟩
  have Pa : At l.prog w K mg base 2 "_law_paces" ["well", "size"] spPaces _ _ := ⟨ok_paces F_sPaces T L, m_sPaces, k_sPaces, b_sPaces⟩
  have Ma : At l.prog w K mg base 3 "_law_marks" ["well", "size", "cap"] spMarks _ _ := ⟨ok_marks F_sMarks T L B, m_sMarks, k_sMarks, b_sMarks⟩
  have W1 : Pp l.prog w K mg base C "week" (spWeek C) _ _ _ := ⟨P_sWeek, ok_week F_sWeek Z T, b_sWeek⟩
  have W2 : Pp l.prog w K mg base C "speeds" (spSpeeds C) _ _ _ := ⟨P_sSpeeds, ok_speeds F_sSpeeds Z T, b_sSpeeds⟩
  have W3 : Pp l.prog w K mg base C "changes" (spChanges C) _ _ _ := ⟨P_sChanges, ok_changes F_sChanges Z T, b_sChanges⟩
  have To : At l.prog w K mg base 3 "_law_told" ["made", "way"] (spTold C) _ _ := ⟨ok_told F_sTold Z W1 W2 W3, m_sTold, k_sTold, b_sTold⟩
  have GF : FnG l.prog w K mg base 5 _ _ ["well"] spFits := ok_fits F_sFits T Z L Pa Ma MK GI b_sInit (kb_init F_sInit) To
  exact ok_law (by decide) F_sLaw T W GF m_sFits k_sFits b_sFits
end
end DK
open PySem PySem.W PyProof.Rows
set_option maxRecDepth 100000 in
set_option maxHeartbeats 0 in
theorem PySem.Challenge.cw_dueclocks_k02_calendars_as_constructed_holds : PySem.Challenge.rw_dueclocks_k02_calendars_as_constructed.Holds := by
  w_on; o_law; k_head; (case hw => w_witness2)
  k_fill
  refine DK.walkG (l := PySem.Challenge.rw_dueclocks_k02_calendars_as_constructed) (n := 63) (k := 6) (x := "script") (sp := DK.spLaw) rfl (by decide) rfl ⟨rfl, by decide, by decide⟩ (fun w h Y => PySem.W.kIn_of Y) ?F (fun J H a ns hl hO hS => ⟨a, ns, rfl, DK.Scr.of hO hS, hl, fun _ => rfl⟩)
  case F =>
    intro w mg fa h KX G hmg
    refine' DK.all_mk KX G hmg ?aC ?a0 ?l0 ?c0 ?k0 ?a1 ?l1 ?c1 ?k1 ?a2 ?l2 ?c2 ?k2 ?a3 ?l3 ?c3 ?k3 ?a4 ?l4 ?c4 ?k4 ?a5 ?l5 ?c5 ?k5 ?a6 ?l6 ?c6 ?k6 ?a7 ?l7 ?c7 ?k7 ?a8 ?l8 ?c8 ?k8 ?a9 ?l9 ?c9 ?k9 ?a10 ?l10 ?c10 ?k10 ?a11 ?l11 ?c11 ?k11 ?a12 ?l12 ?c12 ?k12 ?a13 ?i13 ?j13 ?l13 ?c13 ?k13 ?a14 ?g14 ?t14 ?r14 ?l14 ?c14 ?k14 ?a15 ?g15 ?t15 ?r15 ?l15 ?c15 ?k15 ?a16 ?g16 ?t16 ?r16 ?l16 ?c16 ?k16 ?z_int ?z_len ?z_abs ?z_max ?z_min ?z_range ?z_repr ?z_list ?z_enumerate ?q_GREATEST_WEEK ?q_GREATEST_SPEED ?pgC ?hdC ?poC ?saC ?mkC ?kcC ?n_speeds ?n_changes
    (case aC => k_is)
    (case a0 => k_is)
    (case l0 => k_is)
    (case c0 => k_is)
    (case k0 => k_is)
    (case a1 => k_is)
    (case l1 => k_is)
    (case c1 => k_is)
    (case k1 => k_is)
    (case a2 => k_is)
    (case l2 => k_is)
    (case c2 => k_is)
    (case k2 => k_is)
    (case a3 => k_is)
    (case l3 => k_is)
    (case c3 => k_is)
    (case k3 => k_is)
    (case a4 => k_is)
    (case l4 => k_is)
    (case c4 => k_is)
    (case k4 => k_is)
    (case a5 => k_is)
    (case l5 => k_is)
    (case c5 => k_is)
    (case k5 => k_is)
    (case a6 => k_is)
    (case l6 => k_is)
    (case c6 => k_is)
    (case k6 => k_is)
    (case a7 => k_is)
    (case l7 => k_is)
    (case c7 => k_is)
    (case k7 => k_is)
    (case a8 => k_is)
    (case l8 => k_is)
    (case c8 => k_is)
    (case k8 => k_is)
    (case a9 => k_is)
    (case l9 => k_is)
    (case c9 => k_is)
    (case k9 => k_is)
    (case a10 => k_is)
    (case l10 => k_is)
    (case c10 => k_is)
    (case k10 => k_is)
    (case a11 => k_is)
    (case l11 => k_is)
    (case c11 => k_is)
    (case k11 => k_is)
    (case a12 => k_is)
    (case l12 => k_is)
    (case c12 => k_is)
    (case k12 => k_is)
    (case a13 => k_is)
    (case i13 => k_is)
    (case j13 => k_is)
    (case l13 => k_is)
    (case c13 => k_is)
    (case k13 => k_is)
    (case a14 => k_is)
    (case g14 => k_is)
    (case t14 => k_is)
    (case r14 => k_is)
    (case l14 => k_is)
    (case c14 => k_is)
    (case k14 => k_is)
    (case a15 => k_is)
    (case g15 => k_is)
    (case t15 => k_is)
    (case r15 => k_is)
    (case l15 => k_is)
    (case c15 => k_is)
    (case k15 => k_is)
    (case a16 => k_is)
    (case g16 => k_is)
    (case t16 => k_is)
    (case r16 => k_is)
    (case l16 => k_is)
    (case c16 => k_is)
    (case k16 => k_is)
    (case z_int => k_is)
    (case z_len => k_is)
    (case z_abs => k_is)
    (case z_max => k_is)
    (case z_min => k_is)
    (case z_range => k_is)
    (case z_repr => k_is)
    (case z_list => k_is)
    (case z_enumerate => k_is)
    (case q_GREATEST_WEEK => k_is)
    (case q_GREATEST_SPEED => k_is)
    (case pgC => k_is)
    (case hdC => k_is)
    (case poC => k_is)
    (case saC => k_is)
    (case mkC => k_is)
    (case kcC => k_is)
    (case n_speeds => k_is)
    (case n_changes => k_is)

