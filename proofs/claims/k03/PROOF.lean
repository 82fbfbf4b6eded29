import PyProof.Rows.All
import Wide.All
import OpenK.AllK
import Wide.FinOn
import HandS.ForMost
import HandS.Codes
import HandS.Walk
import HandS.DictComp
import HandS.ListItems
import HandS.Property
import HandS.Wide
import HandS.Style
import HandS.More
import HandS.Defaults
import HandS.MakeKwOnly
import HandS.IsInst
import HandS.OwnEq
import HandS.DeepEq
import HandS.RaiseMore
import HandS.ExcInit
import HandS.ExcIs
import HandS.WordsExc
import HandS.ExcOwn
import HandS.SetBool
import HandS.Strs
import HandS.TryOnly
import HandS.Zip
import KE.DatumOrd
import KE.KDictZip
import HandS.SetFor
import PySem.Challenge.RW_dueclocks_k03_errors_of_calendars
set_option Elab.async false
set_option linter.all false
set_option maxRecDepth 100000
set_option maxHeartbeats 4000000
namespace DK
open PySem PySem.Spec PyProof.Rows L2

/-- a def that is only run where no repr is under way -/
structure FnG (P : Program) (w : World) (K : PySem.W.Frag) (mg : Str → Option Value) (b0 : Heap) (k : Nat) (f : Addr)
    (fd : FuncData) (ps : List Str) (sp : Sp) : Prop where
  size : ∀ vs H Q E, sp vs H Q E → vs.length = ps.length
  go : ∀ (B : Around) (stk : List Env) (s : Shared) (H : Hp) (ar : Args) (us : List Value) (vs : List V) (Q : VK) (E : XK),
    B.guards = some [] → Room k B → Env0 P w K mg b0 B stk s H → BindsTo s fd ar (ps.zip us) → Vals vs us → sp vs H Q E →
      codeAny (model P w) B (.call (.ref f) ar) (CR CX0 stk P w H s Q E) s

section
variable {P : Program} {w : World} {K : PySem.W.Frag} {mg : Str → Option Value} {b0 : Heap}

theorem okG {x qual : Str} {st : Stmt} {f : Addr} {fd : FuncData} {N ps : List Str} {k : Nat} {sp : Sp}
    (F : Fun K x qual st f fd) (S : FnScope N ps (defScope st)) (size : ∀ vs H Q E, sp vs H Q E → vs.length = ps.length)
    (body : ∀ (cdv : Value) (B : Around) (stk : List Env) (s : Shared) (H : Hp) (vs : List V) (Q : VK) (E : XK),
      B.guards = some [] → Room k (B.deeper (envOfC qual (defScope st) s.heap.objs.size f cdv)) → sp vs H Q E →
      ∃ t, PSs (cxOf CX0 P w K mg b0 N qual (defScope st) f cdv B stk s H E).nox (defBody st) t ∧
        t { nx := fun _ J => Q .non J, rt := Q } (start N vs) H) : FnG P w K mg b0 (k + 1) f fd ps sp := by
  obtain ⟨oc, od, kV, dc, pm, an, cv, ct, osl, rfl, hf, hcode⟩ := F.ex
  refine ⟨size, fun B stk s H ar us vs Q E hgd hr env hbi hv hs => ?_⟩
  have hlen := size _ _ _ _ hs
  have inK : K.In s.heap := env.mod.kin.keeps fun c u g => (env.bs c u g).1
  have noL : s.heap.NoLimit := env.mod.nolimit.keeps fun c u g => (env.bs c u g).1
  have kinds : ∀ z ∈ ps.zip us, (defScope st).names.lookup z.1 = some .local ∨
      ((defScope st).names.lookup z.1 = some .cell ∧
        ((cellsFrom (s.heap.objs.size + 1) (defScope st).names []).lookup z.1).isSome = true) := by
    rintro ⟨n, v⟩ hz
    rcases S.par n (List.of_mem_zip hz).1 with g | g
    · exact Or.inl g
    · exact Or.inr ⟨g, PySem.W.cellsFrom_some _ _ _ (Or.inl g)⟩
  refine codeAny_call_function hr.depth (inK _ _ hf) rfl S.co S.gen rfl (PySem.W.codeRec_of inK hcode) (hbi _ _ _ _ ?_)
  refine wpAny_newFunctionEnv_cells S.kind kinds fun en hen s2 inc => ?_
  subst hen
  refine ⟨noL.keeps inc.toInCall.keep, codeAny_func ?_⟩
  obtain ⟨t, ht0, hq⟩ := body cv B stk s H vs Q E hgd (hr.deeper _) hs
  have ht := ht0.nox
  have I : Inv (cxOf CX0 P w K mg b0 N qual (defScope st) f cv B stk s H E) [] (start N vs) H s2 := inv_start S hr.hd env hlen hv inc
  refine wpAny_mono (ht.run [] s2 (start N vs) H _ I hq) (fun fl s3 h3 => ?_) fun e s3 h3 => h3
  have close : ∀ {τ : L2.St} {J : Hp} {v : V} {u : Value}, Inv (cxOf CX0 P w K mg b0 N qual (defScope st) f cv B stk s H E) [] τ J s3 →
      RelV v u → Q v J → CE stk P w H s Q u s3 := fun {τ J v u} I3 rv q => ⟨v, J, I3.os, I3.bare, I3.base, I3.hok, rv, q⟩
  cases fl with
  | next =>
    obtain ⟨τ, J, I3, q⟩ := h3
    exact close (v := V.non) (u := Value.none) I3 rfl q
  | ret u =>
    obtain ⟨v, τ, J, I3, rv, q⟩ := h3
    exact close I3 rv q
  | cont =>
    obtain ⟨_, _, _, q⟩ := h3
    exact q.elim
  | brk =>
    obtain ⟨_, _, _, q⟩ := h3
    exact q.elim
end

section
variable {X : Cx}
/-- f(e, ..) of such a def -/
theorem pe_callG {k : Nat} {f : Addr} {fd : FuncData} {ps : List Str} {sp : Sp} {x : Str} {p pos : Pos} {e : Expr} {es : List Expr} {t : TA}
    (F : FnG X.prog X.w X.K X.mg X.base k f fd ps sp) (hgd : X.A.guards = some []) (hr : Room k X.A) (hg : Gl X x)
    (hm : X.mg x = some (.ref f)) (hk : PySem.W.keepIn X.K (.ref f) = true) (hb : Binds X.K fd ps []) (ha : PA X (e :: es) t)
    (hdb : (x == ("__debug__" : Str)) = false := by decide)
    (he : starEach (e :: es) X.env = (false, eval e X.env) :: starEach es X.env := by rfl)
    (hpl : (backTo pos (starEach es X.env)).any (·.1) = false := by rfl) :
    PE X (.Call (.Name x p) (e :: es) [] pos) (tCall sp [] E0 t) := by
  refine ⟨fun pins s σ H Q I h => ?_⟩
  refine wpAny_Call_Name_kw (ld_glob I hg hm ?_ hdb)
  refine PySem.W.callWith_K (h₀ := X.base) I.ok.mod.kin hk (thn (ha.run pos pins s σ H _ I h) fun us s1 hh => ?_) he hpl
  obtain ⟨vs, J, I1, r, q⟩ := hh
  refine ⟨I1.kIn, ?_⟩
  rw [List.append_nil] at q
  have hl : us.length = ps.length := r.length.symm.trans (F.size _ _ _ _ q)
  have bi := hb s1 us I1.kIn (by rw [List.append_nil]; exact hl)
  rw [List.append_nil] at bi
  refine wpAny_call (codeAny_mono (F.go X.A X.stack s1 J ⟨us, []⟩ us vs Q E0 hgd hr I1.env0 bi r q) fun res s2 hq => ?_)
  cases res with
  | error er => exact False.elim hq
  | ok fl =>
    cases fl with
    | ret u => exact I1.after hq
    | next => exact False.elim hq
    | brk => exact False.elim hq
    | cont => exact False.elim hq

/-- repr(x), x a list or a tuple of data -/
def rRepr (K : PySem.W.Frag) : List V → Hp → VK → Prop := fun xs H Q => ∃ (a : Addr) (d : PyData), xs = [.ref a] ∧ Dp K H (.ref a) d ∧
  d.showable = true ∧ d.hasDict = false ∧ d.depth ≤ 60 ∧ d.shown.length ≤ sizeLine ∧ Q (.str d.shown) H
theorem call_repr (hgd : X.A.guards = some []) (hu : X.A.units + 64 < cLine) : CallR X (.builtin "repr") (rRepr X.K) := by
  intro pins s σ H xs us Q I r h
  obtain ⟨a, d, rfl, hd, hs, hn, hdp, hz, q⟩ := h
  cases r with
  | cons r1 r2 =>
    cases r2
    rename_i u
    obtain rfl : u = Value.ref a := r1
    obtain ⟨as, rd⟩ := Dp.reads I d _ _ hd (show RelV (V.ref a) (Value.ref a) from rfl)
    refine repr_of_reads' rd hs (PyData.noDict_hsm hn) hgd (by omega) (fun _ _ e => e) (fun h' u tk hk => ?_) hz
    exact ⟨.str d.shown, H, I.kept hk, ⟨u, rfl⟩, q⟩
end

/-- what is hidden of the heap behind the top: the script alone, where it is not the module's own -/
structure Veil (P : Program) (w : World) (K : PySem.W.Frag) (h : Heap) (a : Addr) (ns : List Int) (H : Hp) : Prop where
  only : Only H
  at_ : SqL K H a (ns.map V.int)
  ok : HOk P w H h
  one : ∀ c, H c ≠ none → c = a
  out : H a ≠ none → K.lookup a = none

theorem veil_of {P : Program} {w : World} {K : PySem.W.Frag} {h : Heap} {a : Addr} {us : List Value} {ns : List Int} (inK : K.In h)
    (ha : h.get? a = some { cls := .type "list", data := .seq us.toArray }) (hi : IntsAre us ns) (hz : ns.length ≤ sizeLine) :
    ∃ H, Veil P w K h a ns H := by
  have rv := vals_ints hi
  cases hk : K.lookup a with
  | some o =>
    have e := (inK a o hk).symm.trans ha
    cases e
    refine ⟨fun _ => none, fun _ => Or.inl rfl, Or.inr ⟨_, us.toArray, _, hk, rfl, rfl, rfl, ?_, ?_⟩, fun c u z => ?_, fun c z => absurd rfl z, fun z => absurd rfl z⟩
    · rw [List.size_toArray, hi.length]
      exact hz
    · simpa using rv
    · exact nomatch (show (none : Option HO) = some u from z)
  | none =>
    let O : Obj := { cls := .type "list", data := .seq us.toArray }
    let H : Hp := fun c => if c = a then some (.frz O (.lst (ns.map V.int))) else none
    have hA : H a = some (.frz O (.lst (ns.map V.int))) := if_pos rfl
    have hN : ∀ c, c ≠ a → H c = none := fun c g => if_neg g
    refine ⟨H, fun c => ?_, Or.inl (Or.inr ⟨O, hA⟩), fun c u z => ?_, fun c z => ?_, fun _ => hk⟩
    · by_cases g : c = a
      · subst g
        exact Or.inr ⟨_, _, hA⟩
      · exact Or.inl (hN c g)
    · by_cases g : c = a
      · subst g
        have z2 := hA.symm.trans z
        cases z2
        refine ⟨ha, ?_, us, _, rv, ha⟩
        rw [List.length_map]
        exact hz
      · exact nomatch (hN c g).symm.trans z
    · by_cases g : c = a
      · exact g
      · exact absurd (hN c g) z

theorem lawG {P : Program} {w : World} {K : PySem.W.Frag} {mg mb : Str → Option Value} {k : Nat} {fa a : Addr} {fd : FuncData} {x : Str} {sp : Sp} {s : Shared} {us : List Value} {ns : List Int}
    (inK : K.In s.heap) (hmg : s.heap.Ns mainGlobals mg) (hmb : s.heap.Ns builtinsNs mb) (hbo : ∀ y : Str, y ≠ "__name__" → mb y = bootBuiltins y)
    (noL : s.heap.NoLimit) (gen : s.gens = #[]) (ha : s.heap.get? a = some { cls := .type "list", data := .seq us.toArray })
    (hi : IntsAre us ns) (hz : ns.length ≤ sizeLine) (hr : Room k callerA)
    (F : ∀ b0 : Heap, K.In b0 → b0.Ns mainGlobals mg → FnG P w K mg b0 k fa fd [x] sp)
    (bind : ∀ (t : Shared) (u : Value), BindsTo t fd ⟨[u], []⟩ [(x, u)])
    (hsp : ∀ H : Hp, Only H → SqL K H a (ns.map V.int) → sp [.ref a] H (fun v _ => v = .bl true) E0) :
    codeAny (model P w) callerA (.call (.ref fa) ⟨[.ref a], []⟩)
      (fun r t => r = .ok (.ret (.bool true)) ∧ OldK s.heap t.heap ∧ t.os = s.os ∧ AllBare t.gens) s := by
  obtain ⟨H, W⟩ := veil_of (P := P) (w := w) inK ha hi hz
  have through : ∀ {c : Addr} {o : Obj}, s.heap.get? c = some o → H c = none → (hidT s.heap H).get? c = some o := fun g n => hidT_get g n
  have dicts : ∀ {c : Addr} {o : Obj} {es : Array DictEntry} {ep : Nat}, s.heap.get? c = some o → o.data = .dict es ep → H c = none := by
    intro c o es ep g d
    by_cases n : H c = none
    · exact n
    · have := W.one c n
      subst this
      rw [ha] at g
      cases g
      exact nomatch d
  have names : ∀ {c : Addr} {m : Str → Option Value}, s.heap.Ns c m → (hidT s.heap H).Ns c m := fun {c m} ⟨o, es, ep, g, d, r⟩ => ⟨o, es, ep, through g (dicts g d), d, r⟩
  have inB : K.In (hidT s.heap H) := by
    intro c o g
    refine through (inK c o g) ?_
    by_cases n : H c = none
    · exact n
    · have e := W.one c n
      subst e
      rw [W.out n] at g
      exact nomatch g
  have md : Mod K mg (hidT s.heap H) := ⟨inB, names hmg, ⟨mb, names hmb, hbo⟩, noL.elim fun mc q => ⟨mc, names q.1, q.2⟩⟩
  have nil : ∀ c : Addr, c ∉ ([] : List Addr) := fun c q => nomatch q
  have env : Env0 P w K mg (hidT s.heap H) callerA [] s H :=
    ⟨rfl, md, fun c o g => of_hidT g, Nat.le_of_eq (hidT_size _ _), trivial, fun c q => absurd q (nil c), W.ok, .of_eq gen⟩
  refine codeAny_mono ((F _ inB (names hmg)).go callerA [] s H ⟨[.ref a], []⟩ [.ref a] [.ref a] _ _ rfl hr env (bind s (.ref a)) (.cons rfl .nil) (hsp H W.only W.at_)) fun r t q => ?_
  rcases r with er | fl
  · exact False.elim q
  · rcases fl with _ | _ | _ | u
    iterate 3 exact False.elim q
    · obtain ⟨v, H', os, bare, un, ok2, rv, rfl⟩ := q
      obtain rfl : u = Value.bool true := rv
      refine ⟨rfl, OldK.of_keep fun c o g => ?_, os, bare⟩
      by_cases n : H c = none
      · exact un.keep c o g n (fun z => absurd z (nil c)) (nil c)
      · rcases W.only c with z | ⟨O, xs, z⟩
        · exact absurd z n
        · have e1 := (W.ok c _ z).1
          have e2 := (ok2 c _ (un.frzs c O _ z)).1
          rw [g] at e1
          cases e1
          exact e2
/-- the end of a law row -/
theorem walkG {l : PySem.W.OpenLaw} {n k : Nat} {q : Program} {loose : List Str} {XP : (Str → Option Value) → Heap → Prop} {YP : World → Heap → Prop} {d : DefRec} {K : Params → PySem.W.Frag} {sp : PySem.W.Frag → Sp} {x : Str}
    (hn : l.most = some n) (hn2 : n ≤ sizeLine) (hdf : d.params.defaults = []) (hr : Room k callerA)
    (hY : ∀ (w : World) (h : Heap), YP w h → (K w.params).In h)
    (F : ∀ (w : World) (mg : Str → Option Value) (fa : Addr) (h : Heap), (K w.params).In h → h.Ns mainGlobals mg → mg d.name = some (.ref fa) →
      ∃ fd : FuncData, (∀ (t : Shared) (u : Value), BindsTo t fd ⟨[u], []⟩ [(x, u)]) ∧
        ∀ b0 : Heap, (K w.params).In b0 → b0.Ns mainGlobals mg → FnG l.prog w (K w.params) mg b0 k fa fd [x] (sp (K w.params)))
    (hsp : ∀ (J : PySem.W.Frag) (H : Hp) (a : Addr) (ns : List Int), ns.length ≤ n → Only H → SqL J H a (ns.map V.int) → sp J [.ref a] H (fun v _ => v = .bl true) E0) :
    PySem.W.WalkO q loose XP YP l.row.toRowW d [] (fun f vs => PySem.call f vs) := by
  refine Att.attach_call hn hdf fun w s₀ s₁ mg mb fa o pm cd doc a vs ns G Y ho hd hcd hmg hobj hints hlen hg => ?_
  have inK := hY w _ Y
  obtain ⟨fd, bi, hF⟩ := F w mg fa _ inK G.T.g hmg
  exact lawG inK G.T.g G.T.b G.T.builtins G.T.nolimit hg hobj hints (Nat.le_trans hlen hn2) hr hF bi fun H hO hS => hsp _ H a ns hlen hO hS
def top (i : Nat) : Stmt := PySem.Challenge.pw_dueclocks_k03_errors_of_calendars.main.body.getD i (.Pass ⟨0, 0, 0, 0⟩)
abbrev sWell : Stmt := top 25
abbrev sTake : Stmt := top 26
abbrev sNumber : Stmt := top 27
abbrev sTold : Stmt := top 33
abbrev sFits : Stmt := top 34
abbrev sLaw : Stmt := top 35
abbrev sIsSpeed : Stmt := top 19
abbrev sChkSpeeds : Stmt := top 20
abbrev sChkChanges : Stmt := top 21
abbrev sInit : Stmt := inClass (top 23) 0
abbrev sWeek : Stmt := inClass (top 23) 1
abbrev sSpeeds : Stmt := inClass (top 23) 2
abbrev sChanges : Stmt := inClass (top 23) 3
abbrev sGet : Stmt := inClass (top 23) 4
abbrev sHas : Stmt := inClass (top 23) 6
abbrev sEq : Stmt := inClass (top 23) 10
abbrev sErr : Stmt := inClass (top 2) 0
abbrev sWeeks : Stmt := top 13
abbrev sMoved : Stmt := inClass (top 23) 9
abbrev sOr : Stmt := inClass (top 23) 7
abbrev sAnd : Stmt := inClass (top 23) 8
abbrev sPairs : Stmt := top 22
abbrev sChanged : Stmt := top 16
abbrev sOdd : Stmt := top 28
abbrev sWeeksL : Stmt := top 29
abbrev sPairsL : Stmt := top 30
abbrev sWrong : Stmt := top 31
abbrev sMended : Stmt := top 32
abbrev sChkWeek : Stmt := top 12
abbrev sBehind : Stmt := top 14
/-! ### the well -/
def Fr (p : Addr) (H H' : Hp) : Prop := ∀ b o, H b = some o → b ≠ p → H' b = some o
theorem Fr.refl (p : Addr) (H : Hp) : Fr p H H := fun _ _ h _ => h
theorem Fr.trans {p : Addr} {H H1 H2 : Hp} (a : Fr p H H1) (b : Fr p H1 H2) : Fr p H H2 := fun c o h g => b c o (a c o h g) g
theorem Fr.of {p : Addr} {H H' : Hp} (a : Same H H') : Fr p H H' := fun c o h _ => a c o h
theorem Fr.at_ {p : Addr} {o : HO} {H : Hp} : Fr p H (upd H p o) := fun b u h g => by
  rw [upd_ne g]
  exact h
theorem Fr.new {p q : Addr} {o : HO} {H : Hp} (h : H q = none) : Fr p H (upd H q o) := fun b u e _ => by
  rw [upd_ne (ne_of_none e h)]
  exact e
theorem Fr.seq {K : PySem.W.Frag} {p a : Addr} {H H' : Hp} {xs : List V} (f : Fr p H H') (g : a ≠ p) (h : SqL K H a xs) : SqL K H' a xs := by
  rcases h with (h | ⟨o, h⟩) | h
  · exact .inl (.inl (f _ _ h g))
  · exact .inl (.inr ⟨o, f _ _ h g⟩)
  · exact .inr h
theorem same_new {H : Hp} {q : Addr} {o : HO} (h : H q = none) : Same H (upd H q o) := fun b u e => by
  rw [upd_ne (ne_of_none e h)]
  exact e
/-- a well at p, from which n or fewer draws were mixed -/
def Well (H : Hp) (p : Addr) (n : Nat) : Prop := ∃ a b c : Int, H p = some (.lst [.int a, .int b, .int c]) ∧ 0 ≤ b ∧ b < 2 ^ 62 ∧ 0 ≤ c ∧ c ≤ n
theorem Well.mono {H : Hp} {p : Addr} {n m : Nat} (h : Well H p n) (g : n ≤ m) : Well H p m := by
  obtain ⟨a, b, c, h1, h2, h3, h4, h5⟩ := h
  exact ⟨a, b, c, h1, h2, h3, h4, by omega⟩
theorem Well.same {H H' : Hp} {p : Addr} {n : Nat} (h : Well H p n) (g : Same H H') : Well H' p n := by
  obtain ⟨a, b, c, h1, h2⟩ := h
  exact ⟨a, b, c, g _ _ h1, h2⟩
theorem Well.new {H : Hp} {p q : Addr} {n : Nat} {o : HO} (h : Well H p n) (g : H q = none) : Well (upd H q o) p n := h.same (same_new g)
theorem Well.upd_ne {H : Hp} {p q : Addr} {n : Nat} {o : HO} (h : Well H p n) (g : p ≠ q) : Well (upd H q o) p n := by
  obtain ⟨a, b, c, h1, h2⟩ := h
  exact ⟨a, b, c, by rw [L2.upd_ne g]; exact h1, h2⟩
theorem Well.ne {H : Hp} {p q : Addr} {n : Nat} (h : Well H p n) (g : H q = none) : p ≠ q := by
  obtain ⟨a, b, c, h1, h2⟩ := h
  exact ne_of_none h1 g
def spTake : Sp := fun vs H Q _ => ∃ (p : Addr) (n : Nat) (m : Int), vs = [.ref p, .int m] ∧ Well H p n ∧ n ≤ 10 ^ 9 ∧ 0 < m ∧ m < 2 ^ 200 ∧
  ∀ (r : Int) (H' : Hp), 0 ≤ r → r < m → Fr p H H' → Well H' p (n + 1) → Q (.int r) H'
theorem spTake_ok {p : Addr} {n : Nat} {m : Int} {H : Hp} {Q : VK} {E : XK} (h : Well H p n) (hn : n ≤ 10 ^ 9) (h0 : 0 < m) (h1 : m < 2 ^ 200)
    (q : ∀ (r : Int) (H' : Hp), 0 ≤ r → r < m → Fr p H H' → Well H' p (n + 1) → Q (.int r) H') : spTake [.ref p, .int m] H Q E := ⟨p, n, m, rfl, h, hn, h0, h1, q⟩
/-- the built-in names are still the built-in ones -/
structure Blt (mg : Str → Option Value) : Prop where
  int : mg "int" = none
  len : mg "len" = none
  abs : mg "abs" = none
  max : mg "max" = none
  min : mg "min" = none
  range : mg "range" = none
  repr : mg "repr" = none
  list : mg "list" = none
theorem set0 (a b c v : V) : ([a, b, c] : List V).set 0 v = [v, b, c] := rfl
theorem set2 (a b c v : V) : ([a, b, c] : List V).set 2 v = [a, b, v] := rfl
section
variable {P : Program} {w : World} {K : PySem.W.Frag} {mg : Str → Option Value} {base : Heap}
theorem scTake : FnScope ["well", "many", "taken", "mixed"] ["well", "many"] (defScope sTake) := ⟨rfl, rfl, rfl, by decide +kernel, rfl, by decide +kernel, by decide +kernel⟩
theorem ok_take {f : Addr} {fd : FuncData} (F : Fun K "_law_take" "_law_take" sTake f fd) (T : Blt mg) : FnOk P w K mg base CX0 1 f fd ["well", "many"] spTake := by
  refine F.ok scTake (fun vs H Q E h => ?_) (fun cdv A outer s H vs Q E hr h => ?_)
  · obtain ⟨p, n, m, rfl, _⟩ := h
    rfl
  · obtain ⟨p, n, m, rfl, ⟨a, b, c, hp, b0, b1, c0, c1⟩, hn, m0, m1, k⟩ := h
    refine ⟨_, pss_cons (ps_if (pt_cmpR op_gt (pe_ix ix_list (pv 0) pe_int (fun _ _ => rfl)) pe_int (nomark _))
      (pss_cons (ps_set (i := 2) scTake.nd rfl (.inl rfl) (pe_op op_mod (pe_callTy call_int1 (by rfl) T.int (by decide +kernel) (pa_cons (pe_ix ix_list (pv 0) pe_int (fun _ _ => rfl)) pa_nil)) (pv 1)))
      (pss_cons (ps_asg (pe_op op_fdivW (pe_ix ix_list (pv 0) pe_int (fun _ _ => rfl)) (pv 1)) (pg_sub (pv 0) pe_int set_list))
      (pss_one (ps_ret (pv 2))))) pss_nil)
      (pss_cons (ps_asg (pe_op op_add (pe_ix ix_list (pv 0) pe_int (fun _ _ => rfl)) pe_int) (pg_sub (pv 0) pe_int set_list))
      (pss_cons (ps_set (i := 3) scTake.nd rfl (.inl rfl) (pe_op op_add (pe_op op_pow (pe_op op_add (pe_ix ix_list (pv 0) pe_int (fun _ _ => rfl)) (pe_op op_mul pe_int (pe_ix ix_list (pv 0) pe_int (fun _ _ => rfl)))) pe_int) (pe_op op_mul pe_int (pe_ix ix_list (pv 0) pe_int (fun _ _ => rfl)))))
      (pss_cons (ps_set (i := 3) scTake.nd rfl (.inl rfl) (pe_op op_add (pe_op op_mod (pe_callTy call_int1 (by rfl) T.int (by decide +kernel) (pa_cons (pv 3) pa_nil)) pe_int) (pe_op op_mul pe_int (pe_ix ix_list (pv 0) pe_int (fun _ _ => rfl)))))
      (pss_cons (ps_set (i := 3) scTake.nd rfl (.inl rfl) (pe_op op_mod (pe_callTy call_int1 (by rfl) T.int (by decide +kernel) (pa_cons (pe_op op_pow (pv 3) pe_int) pa_nil)) pe_int))
      (pss_one (ps_ret (pe_op op_mod (pe_callTy call_int1 (by rfl) T.int (by decide +kernel) (pa_cons (pe_op op_fdiv (pv 3) pe_int) pa_nil)) (pv 1)))))))), ?_⟩
    refine ⟨_, rfl, p, _, 0, _, rfl, rfl, SqL.of hp, atI_nat (j := 0) rfl, _, _, rfl, rfl, _, rfl, ite2 (fun hw => ?_) (fun hw => ?_)⟩
    · refine ⟨_, rfl, p, _, 0, _, rfl, rfl, SqL.of hp, atI_nat (j := 0) rfl, .inl ⟨_, rfl, _, rfl, a, m, rfl, rfl, m0, ?_⟩⟩
      refine ⟨_, rfl, p, _, 0, _, rfl, rfl, SqL.of hp, atI_nat (j := 0) rfl, _, rfl, a, m, rfl, rfl, wide_div (b := 200) m0 (by omega) (by decide) (by decide), ?_⟩
      refine ⟨_, rfl, p, _, 0, 0, rfl, rfl, hp, rfl, ?_⟩
      refine ⟨_, rfl, k _ _ (Int.emod_nonneg _ (by omega)) (Int.emod_lt_of_pos _ m0) Fr.at_ ⟨a / m, b, c, upd_same, b0, b1, c0, by omega⟩⟩
    · refine ⟨_, rfl, p, _, 2, _, rfl, rfl, SqL.of hp, atI_nat (j := 2) rfl, _, _, rfl, rfl, ?_⟩
      refine ⟨_, rfl, p, _, 2, 2, rfl, rfl, hp, rfl, ?_⟩
      rw [set2]
      generalize hH : upd H p (.lst [.int a, .int b, .int (c + 1)]) = H1
      have h1 : H1 p = some (.lst [.int a, .int b, .int (c + 1)]) := by rw [← hH]; exact upd_same
      have e1 : (0 : Int) ≤ 6700417 * (c + 1) := by omega
      refine ⟨_, rfl, p, _, 1, _, rfl, rfl, SqL.of h1, atI_nat (j := 1) rfl, _, rfl, p, _, 2, _, rfl, rfl, SqL.of h1, atI_nat (j := 2) rfl, _, _, rfl, rfl, .inl ⟨by decide, by decide⟩, _, _, rfl, rfl, _, _, rfl, rfl, ⟨by decide, by decide, by omega⟩,
        _, rfl, p, _, 2, _, rfl, rfl, SqL.of h1, atI_nat (j := 2) rfl, _, _, rfl, rfl, .inl ⟨by decide, by decide⟩, _, _, rfl, rfl, ?_⟩
      refine ⟨_, rfl, .inl ⟨_, rfl, _, _, rfl, rfl, (by show (0 : Int) < 2305843009213693951; decide), _, rfl, p, _, 2, _, rfl, rfl, SqL.of h1, atI_nat (j := 2) rfl, _, _, rfl, rfl, .inl ⟨by decide, by decide⟩, _, _, rfl, rfl, ?_⟩⟩
      generalize hx : ((b + 6700417 * (c + 1)) ^ (3 : Int).toNat + 97 * (c + 1)) % 2305843009213693951 = x
      have x0 : 0 ≤ x := by rw [← hx]; exact Int.emod_nonneg _ (by decide)
      have x1 : x < 2305843009213693951 := by rw [← hx]; exact Int.emod_lt_of_pos _ (by decide)
      refine ⟨_, rfl, _, _, rfl, rfl, ⟨by decide, by decide, by omega⟩, .inl ⟨_, rfl, _, _, rfl, rfl, (by show (0 : Int) < 618970019642690137449562111; decide), ?_⟩⟩
      refine ⟨_, rfl, _, _, rfl, rfl, ⟨by decide, by decide⟩, .inl ⟨_, rfl, _, rfl, _, _, rfl, rfl, m0, ?_⟩⟩
      refine k _ _ (Int.emod_nonneg _ (by omega)) (Int.emod_lt_of_pos _ m0) ?_ ⟨a, b, c + 1, h1, b0, b1, by omega, by omega⟩
      rw [← hH]
      exact Fr.at_
end

/-! ### the draws of a law -/
theorem atI_ints {xs : List Int} {i : Int} (h0 : 0 ≤ i) (h1 : i < xs.length) : ∃ v, v ∈ xs ∧ xs[i.toNat]? = some v ∧ atI (xs.map V.int) i = some (.int v) := by
  obtain ⟨j, rfl⟩ : ∃ j : Nat, i = (j : Int) := ⟨i.toNat, by omega⟩
  have hj : j < xs.length := by omega
  refine ⟨xs[j], List.getElem_mem hj, by simp [hj], atI_nat (j := j) ?_⟩
  rw [List.getElem?_map, List.getElem?_eq_getElem hj]
  rfl
def spWell (K : PySem.W.Frag) : Sp := fun vs H Q _ => ∃ (a : Addr) (ns : List Int) (i : Int), vs = [.ref a, .int i] ∧ SqL K H a (ns.map V.int) ∧ ns.length ≤ 63 ∧ 0 ≤ i ∧ i ≤ 63 ∧
  ∀ (p : Addr) (H' : Hp), H p = none → Same H H' → Well H' p 0 → Q (.ref p) H'
def spNumber : Sp := fun vs H Q _ => ∃ (p : Addr) (n : Nat), vs = [.ref p] ∧ Well H p n ∧ n ≤ 10 ^ 8 ∧
  ∀ (r : Int) (H' : Hp), -10 ^ 30 < r → r < 10 ^ 30 → Fr p H H' → Well H' p (n + 4) → Q (.int r) H'
/-- a list of speeds that a calendar may have -/
structure Paces (xs : List Int) : Prop where
  lo : ∀ v ∈ xs, 0 ≤ v ∧ v ≤ 3
  pos : ∃ v ∈ xs, v ≠ 0
  len0 : 0 < xs.length
  len1 : xs.length ≤ 12
def spPaces : Sp := fun vs H Q _ => ∃ (p : Addr) (n : Nat) (z : Int), vs = [.ref p, .int z] ∧ Well H p n ∧ n ≤ 10 ^ 8 ∧ 1 ≤ z ∧ z ≤ 12 ∧
  ∀ (q : Addr) (xs : List Int) (H' : Hp), Paces xs → (xs.length : Int) = z → H q = none → q ≠ p → H' q = some (.lst (xs.map V.int)) → Fr p H H' → Well H' p (n + 20) → Q (.ref q) H'
section
variable {P : Program} {w : World} {K : PySem.W.Frag} {mg : Str → Option Value} {base : Heap}
theorem scWell : FnScope ["script", "place", "cell", "seed"] ["script", "place"] (defScope sWell) := ⟨rfl, rfl, rfl, by decide +kernel, rfl, by decide +kernel, by decide +kernel⟩
theorem ok_well {f : Addr} {fd : FuncData} (F : Fun K "_law_well" "_law_well" sWell f fd) (T : Blt mg) : FnOk P w K mg base CX0 1 f fd ["script", "place"] (spWell K) := by
  refine F.ok scWell (fun vs H Q E h => ?_) (fun cdv A outer s H vs Q E hr h => ?_)
  · obtain ⟨a, ns, i, rfl, _⟩ := h
    rfl
  · obtain ⟨a, ns, i, rfl, hS, hl, i0, i1, k⟩ := h
    refine ⟨_, pss_cons (ps_set (i := 2) scWell.nd rfl (.inl rfl) pe_int)
      (C8.pss_cut (ps_if (pt_cmpR op_lt (pv 1) (pe_callB call_len_seq (by rfl) T.len PySem.boot_len (pa_cons (pv 0) pa_nil)) (nomark _))
        (pss_one (ps_set (i := 2) scWell.nd rfl (.inl rfl) (pe_ix ix_list (pv 0) (pv 1) (fun _ _ => rfl)))) pss_nil)
      (pss_cons (ps_set (i := 3) scWell.nd rfl (.inl rfl) (pe_op op_mod (pe_callTy call_int1 (by rfl) T.int (by decide +kernel) (pa_cons (pe_op op_add (pe_op op_mul (pe_callB call_abs (by rfl) T.abs (by decide +kernel) (pa_cons (pv 2) pa_nil)) pe_int) (pe_callTy call_int1 (by rfl) T.int (by decide +kernel) (pa_cons (pe_cmpR op_lt (pv 2) pe_int (nomark _)) pa_nil))) pa_nil)) pe_int))
      (pss_one (ps_ret (pe_lst (pa_cons (pe_op op_mul (pv 2) (pe_callTy call_int1 (by rfl) T.int (by decide +kernel) (pa_cons (pe_cmpR op_ge (pv 2) (pe_op op_pow pe_int pe_int) (nomark _)) pa_nil))) (pa_cons (pe_op op_add (pv 3) (pe_op op_mul pe_int (pv 1))) (pa_cons pe_int pa_nil)))))))), ?_⟩
    refine ⟨fun σ H1 => H1 = H ∧ ∃ z : Int, σ = [some (.ref a), some (.int i), some (.int z), none], ?_, ?_⟩
    · refine ⟨_, rfl, _, rfl, a, _, rfl, .inl hS, _, _, rfl, rfl, _, rfl, ite2 (fun hc => ?_) (fun hc => ?_)⟩
      · have hi : i < ns.length := by
          have := of_decide_eq_true hc
          rw [List.length_map] at this
          exact this
        obtain ⟨v, hv, hv2, e⟩ := atI_ints i0 hi
        exact ⟨_, rfl, _, rfl, a, _, i, _, rfl, rfl, hS, e, rfl, v, rfl⟩
      · exact ⟨rfl, 0, rfl⟩
    · rintro σ H1 ⟨rfl, z, rfl⟩
      refine ⟨_, rfl, _, rfl, _, _, rfl, rfl, .inr ⟨by decide, by decide⟩, _, rfl, _, _, rfl, rfl, .inr ⟨_, rfl, _, _, rfl, rfl, .inl ⟨_, rfl, _, _, rfl, rfl, (by show (0 : Int) < 2305843009213693951; decide), ?_⟩⟩⟩
      generalize hx : ((if z < 0 then -z else z) * 2 + (if decide (z < 0) = true then (1 : Int) else 0)) % 2305843009213693951 = x
      have x0 : 0 ≤ x := by rw [← hx]; exact Int.emod_nonneg _ (by decide)
      have x1 : x < 2305843009213693951 := by rw [← hx]; exact Int.emod_lt_of_pos _ (by decide)
      refine ⟨_, rfl, _, rfl, _, _, rfl, rfl, ⟨by decide, by decide, by decide⟩, _, _, rfl, rfl, .inr ⟨_, rfl, _, _, rfl, rfl, .inr ?_, ?_⟩⟩
      · split <;> exact ⟨by decide, by decide⟩
      refine ⟨_, rfl, _, rfl, _, _, rfl, rfl, .inl ⟨by decide, by decide⟩, _, _, rfl, rfl, (by show 3 ≤ sizeLine; decide), fun p hp => ?_⟩
      exact k p _ hp (same_new hp) ⟨_, _, _, upd_same, by omega, by omega, by decide, by decide⟩
theorem scNumber : FnScope ["well", "way", "found"] ["well"] (defScope sNumber) := ⟨rfl, rfl, rfl, by decide +kernel, rfl, by decide +kernel, by decide +kernel⟩
/-- what a law calls to draw -/
structure Tk (P : Program) (w : World) (K : PySem.W.Frag) (mg : Str → Option Value) (base : Heap) (fT : Addr) (fdT : FuncData) : Prop where
  ok : FnOk P w K mg base CX0 1 fT fdT ["well", "many"] spTake
  at_ : mg "_law_take" = some (.ref fT)
  kp : PySem.W.keepIn K (.ref fT) = true
  bi : Binds K fdT ["well", "many"] []
theorem ok_number {f fT : Addr} {fd fdT : FuncData} (F : Fun K "_law_number" "_law_number" sNumber f fd) (T : Blt mg) (L : Tk P w K mg base fT fdT) : FnOk P w K mg base CX0 2 f fd ["well"] spNumber := by
  refine F.ok scNumber (fun vs H Q E h => ?_) (fun cdv A outer s H vs Q E hr h => ?_)
  · obtain ⟨p, n, rfl, _⟩ := h
    rfl
  · obtain ⟨p, n, rfl, hW, hn, k⟩ := h
    refine ⟨_, pss_cons (ps_set (i := 1) scNumber.nd rfl (.inl rfl) (pe_call L.ok hr (by rfl) L.at_ L.kp L.bi .nil pass0 (pa_cons (pv 0) (pa_cons pe_int pa_nil))))
      (pss_cons (ps_set (i := 2) scNumber.nd rfl (.inl rfl) (pe_call L.ok hr (by rfl) L.at_ L.kp L.bi .nil pass0 (pa_cons (pv 0) (pa_cons (pe_ix ix_list (pe_lst (pa_cons pe_int (pa_cons pe_int (pa_cons pe_int (pa_cons (pe_op op_pow pe_int pe_int) pa_nil))))) (pv 1) (fun _ _ => rfl)) pa_nil))))
      (C8.pss_cut (ps_if (pt_cmpR op_eq (pv 1) pe_int (nomark _))
        (pss_one (ps_set (i := 2) scNumber.nd rfl (.inl rfl) (pe_op op_add (pe_op op_mul (pv 2) (pe_op op_pow pe_int pe_int)) (pe_call L.ok hr (by rfl) L.at_ L.kp L.bi .nil pass0 (pa_cons (pv 0) (pa_cons (pe_op op_pow pe_int pe_int) pa_nil)))))) pss_nil)
      (pss_one (ps_ret (pe_op op_mul (pv 2) (pe_op op_sub pe_int (pe_op op_mul pe_int (pe_call L.ok hr (by rfl) L.at_ L.kp L.bi .nil pass0 (pa_cons (pv 0) (pa_cons pe_int pa_nil)))))))))), ?_⟩
    refine ⟨_, rfl, ⟨_, _, _, rfl, hW, (by omega), (by decide), (by decide), fun r H1 r0 r1 f1 w1 => ?_⟩⟩
    refine ⟨_, rfl, _, _, rfl, rfl, ⟨by decide, by decide, by decide⟩, (by show 4 ≤ sizeLine; decide), fun l hl => ⟨_, rfl, ?_⟩⟩
    have w1' := w1.new (o := .lst [.int 13, .int 60, .int 1000, .int (10 ^ (15 : Int).toNat)]) hl
    obtain ⟨v, hv, hv2, he⟩ := atI_ints (xs := [13, 60, 1000, 10 ^ (15 : Int).toNat]) r0 r1
    have v0 : 0 < v ∧ v ≤ 10 ^ 15 := by
      simp only [List.mem_cons, List.not_mem_nil, or_false] at hv
      rcases hv with rfl | rfl | rfl | rfl <;> decide
    refine ⟨l, _, r, _, rfl, rfl, SqL.of upd_same, he, ⟨_, _, _, rfl, w1', (by omega), v0.1, (by omega), fun x H2 x0 x1 f2 w2 => ?_⟩⟩
    have f02 : Fr p H H2 := (f1.trans (Fr.new hl)).trans f2
    refine ⟨fun σ H3 => ∃ z : Int, σ = [some (.ref p), some (.int r), some (.int z)] ∧ 0 ≤ z ∧ z < 10 ^ 30 ∧ Fr p H H3 ∧ Well H3 p (n + 3), ?_, ?_⟩
    · refine ⟨_, rfl, rfl, _, rfl, ite2 (fun hc => ?_) (fun hc => ?_)⟩
      · refine ⟨_, rfl, _, _, rfl, rfl, ⟨by decide, by decide, by decide⟩, _, _, rfl, rfl, .inl ⟨by omega, by omega⟩, _, rfl, _, _, rfl, rfl, ⟨by decide, by decide, by decide⟩, ?_⟩
        refine ⟨_, _, _, rfl, w2, (by omega), (by decide), (by decide), fun y H3 y0 y1 f3 w3 => ⟨_, _, rfl, rfl, ?_⟩⟩
        refine ⟨_, rfl, ?_, ?_, f02.trans f3, w3⟩
        · have : (0 : Int) ≤ x * 10 ^ (15 : Int).toNat := Int.mul_nonneg x0 (by decide)
          omega
        · have e : (10 : Int) ^ (15 : Int).toNat = 10 ^ 15 := by decide
          rw [e] at y1 ⊢
          omega
      · exact ⟨x, rfl, x0, by omega, f02, w2.mono (by omega)⟩
    · rintro σ H3 ⟨z, rfl, z0, z1, f3, w3⟩
      refine ⟨_, rfl, _, rfl, ⟨_, _, _, rfl, w3, (by omega), (by decide), (by decide), fun y H4 y0 y1 f4 w4 => ?_⟩⟩
      refine ⟨_, _, rfl, rfl, .inl ⟨by decide, by decide⟩, _, _, rfl, rfl, _, _, rfl, rfl, .inr ⟨by omega, by omega⟩, ?_⟩
      have hy : y = 0 ∨ y = 1 := by omega
      refine k _ H4 ?_ ?_ (f3.trans f4) w4
      · rcases hy with rfl | rfl <;> omega
      · rcases hy with rfl | rfl <;> omega
end

/-! ### the changes that a law draws: tuples of a moment and a speed -/
def Tups (H : Hp) : List Addr → List (Int × Int) → Prop
  | [], [] => True
  | t :: ts, m :: ms => H t = some (.tup [.int m.1, .int m.2]) ∧ Tups H ts ms
  | _, _ => False
theorem Tups.len {H : Hp} : ∀ {ts : List Addr} {ms : List (Int × Int)}, Tups H ts ms → ts.length = ms.length
  | [], [], _ => rfl
  | _ :: _, _ :: _, h => by
    rw [List.length_cons, List.length_cons, Tups.len h.2]
theorem Tups.imp {H H' : Hp} : ∀ {ts : List Addr} {ms : List (Int × Int)}, (∀ t xs, H t = some (.tup xs) → H' t = some (.tup xs)) → Tups H ts ms → Tups H' ts ms
  | [], [], _, _ => trivial
  | _ :: _, _ :: _, f, h => ⟨f _ _ h.1, Tups.imp f h.2⟩
theorem Tups.same {H H' : Hp} {ts : List Addr} {ms : List (Int × Int)} (h : Tups H ts ms) (f : Same H H') : Tups H' ts ms := h.imp fun _ _ e => f _ _ e
theorem Tups.fr {H H' : Hp} {p : Addr} {n : Nat} {ts : List Addr} {ms : List (Int × Int)} (h : Tups H ts ms) (w : Well H p n) (f : Fr p H H') : Tups H' ts ms := h.imp fun t xs e => f _ _ e fun z => by
  obtain ⟨a, b, c, g, _⟩ := w
  rw [z, g] at e
  cases e
theorem Tups.put {H : Hp} {q : Addr} {ys : List V} {o : HO} {ts : List Addr} {ms : List (Int × Int)} (h : Tups H ts ms) (g : H q = some (.lst ys)) : Tups (upd H q o) ts ms := h.imp fun t xs e => by
  rw [upd_ne (fun z => by rw [z, g] at e; cases e)]
  exact e
theorem Tups.snoc {H : Hp} {t : Addr} {m : Int × Int} : ∀ {ts : List Addr} {ms : List (Int × Int)}, Tups H ts ms → H t = some (.tup [.int m.1, .int m.2]) → Tups H (ts ++ [t]) (ms ++ [m])
  | [], [], _, g => ⟨g, trivial⟩
  | _ :: _, _ :: _, h, g => ⟨h.1, Tups.snoc h.2 g⟩
theorem Tups.get {H : Hp} : ∀ {ts : List Addr} {ms : List (Int × Int)} {i : Nat} {t : Addr}, Tups H ts ms → ts[i]? = some t → ∃ m, ms[i]? = some m ∧ H t = some (.tup [.int m.1, .int m.2])
  | _ :: _, m :: _, 0, t, h, e => by
    obtain rfl := Option.some.inj e
    exact ⟨m, rfl, h.1⟩
  | _ :: _, _ :: _, i + 1, t, h, e => Tups.get (i := i) h.2 e
/-- what a calendar takes as changes -/
structure Marks (cap : Int) (ms : List (Int × Int)) : Prop where
  asc : ms.Pairwise fun a b => a.1 < b.1
  val : ∀ m ∈ ms, 0 ≤ m.2 ∧ m.2 ≤ 3
  big : ∀ m ∈ ms, -(2 * 10 ^ 30) < m.1 ∧ m.1 < 2 * 10 ^ 30
  len : (ms.length : Int) ≤ cap
def spMarks : Sp := fun vs H Q _ => ∃ (p : Addr) (n : Nat) (z cap : Int), vs = [.ref p, .int z, .int cap] ∧ Well H p n ∧ n ≤ 10 ^ 7 ∧ 1 ≤ z ∧ z ≤ 1000 ∧ 0 ≤ cap ∧ cap ≤ 3 ∧
  ∀ (q : Addr) (ts : List Addr) (ms : List (Int × Int)) (H' : Hp), Marks cap ms → H q = none → q ≠ p → H' q = some (.lst (ts.map V.ref)) → Tups H' ts ms → (∀ t ∈ ts, H t = none) → Fr p H H' → Well H' p (n + 20) → Q (.ref q) H'
/-- _law_number stands at fN -/
structure Nb (P : Program) (w : World) (K : PySem.W.Frag) (mg : Str → Option Value) (base : Heap) (fN : Addr) (fdN : FuncData) : Prop where
  ok : FnOk P w K mg base CX0 2 fN fdN ["well"] spNumber
  at_ : mg "_law_number" = some (.ref fN)
  kp : PySem.W.keepIn K (.ref fN) = true
  bi : Binds K fdN ["well"] []

/-! ### the calendar: what its constructor asks, and what it leaves -/
structure Con (mg : Str → Option Value) : Prop where
  gw : ∃ t, mg "GREATEST_WEEK" = some (.int 12 t)
  gs : ∃ t, mg "GREATEST_SPEED" = some (.int 3 t)
  enum : mg "enumerate" = none
def spIsSpeed : Sp := fun vs H Q _ => ∃ v : Int, vs = [.int v] ∧ Q (.bl (decide (0 ≤ v ∧ v ≤ 3))) H
def spChkS (K : PySem.W.Frag) : Sp := fun vs H Q _ => ∃ (a : Addr) (ps : List Int), vs = [.ref a] ∧ SqL K H a (ps.map V.int) ∧ Paces ps ∧ ∀ H', Same H H' → Q .non H'
/-- changes that are right -/
structure Fit (ms : List (Int × Int)) : Prop where
  asc : ms.Pairwise fun a b => a.1 < b.1
  val : ∀ m ∈ ms, 0 ≤ m.2 ∧ m.2 ≤ 3
  len : ms.length ≤ 1000
def spChkC (K : PySem.W.Frag) : Sp := fun vs H Q _ => ∃ (a : Addr) (ts : List Addr) (ms : List (Int × Int)), vs = [.ref a] ∧ SqL K H a (ts.map V.ref) ∧ Tups H ts ms ∧ Fit ms ∧ ∀ H', Same H H' → Q .non H'
/-- whether a change stands behind the one ahead of it -/
def behind (ms : List (Int × Int)) (i : Nat) : Bool := decide (i = 0) || decide ((ms.getD (i - 1) (0, 0)).1 < (ms.getD i (0, 0)).1)
def spChkW : Sp := fun vs H Q _ => ∃ n : Int, vs = [.int n] ∧ 1 ≤ n ∧ n ≤ 12 ∧ Q .non H
def spBehind (K : PySem.W.Frag) : Sp := fun vs H Q _ => ∃ (a : Addr) (ts : List Addr) (ms : List (Int × Int)) (i : Nat), vs = [.ref a, .int (i : Int)] ∧ SqL K H a (ts.map V.ref) ∧ Tups H ts ms ∧ i < ms.length ∧ Q (.bl (behind ms i)) H
/-- a def of the program stands under a name of its module -/
structure At (P : Program) (w : World) (K : PySem.W.Frag) (mg : Str → Option Value) (base : Heap) (k : Nat) (x : Str) (ps : List Str) (sp : Sp) (f : Addr) (fd : FuncData) : Prop where
  ok : FnOk P w K mg base CX0 k f fd ps sp
  at_ : mg x = some (.ref f)
  kp : PySem.W.keepIn K (.ref f) = true
  bi : Binds K fd ps []
section
variable {P : Program} {w : World} {K : PySem.W.Frag} {mg : Str → Option Value} {base : Heap}
theorem scIsSpeed : FnScope ["number"] ["number"] (defScope sIsSpeed) := ⟨rfl, rfl, rfl, by decide +kernel, rfl, by decide +kernel, by decide +kernel⟩
theorem ok_isSpeed {f : Addr} {fd : FuncData} (F : Fun K "is_speed" "is_speed" sIsSpeed f fd) (C : Con mg) : FnOk P w K mg base CX0 1 f fd ["number"] spIsSpeed := by
  refine F.ok scIsSpeed (fun vs H Q E h => ?_) (fun cdv A outer s H vs Q E hr h => ?_)
  · obtain ⟨v, rfl, _⟩ := h
    rfl
  · obtain ⟨v, rfl, q⟩ := h
    obtain ⟨t, ht⟩ := C.gs
    refine ⟨_, pss_one (ps_ret (pe_chain op_le op_le pe_int (pv 0) (pe_glob (v := .int 3) (by rfl) ht ⟨t, rfl⟩))), ?_⟩
    refine ⟨_, rfl, _, _, rfl, rfl, _, rfl, ite2 (fun h => ?_) (fun h => ?_)⟩
    · refine ⟨_, _, rfl, rfl, ?_⟩
      have h0 : 0 ≤ v := of_decide_eq_true h
      have e : decide (0 ≤ v ∧ v ≤ 3) = decide (v ≤ 3) := by
        rw [decide_eq_decide]
        omega
      rw [e] at q
      exact q
    · have h0 : ¬ 0 ≤ v := fun g => h (decide_eq_true g)
      have e : decide (0 ≤ v ∧ v ≤ 3) = false := decide_eq_false fun g => h0 g.1
      rw [e] at q
      exact q
theorem scChkW : FnScope ["number"] ["number"] (defScope sChkWeek) := ⟨rfl, rfl, rfl, by decide +kernel, rfl, by decide +kernel, by decide +kernel⟩
theorem ok_chkW {f : Addr} {fd : FuncData} (F : Fun K "check_week" "check_week" sChkWeek f fd) (C : Con mg) : FnOk P w K mg base CX0 1 f fd ["number"] spChkW := by
  refine F.ok scChkW (fun vs H Q E h => ?_) (fun cdv A outer s H vs Q E hr h => ?_)
  · obtain ⟨n, rfl, _⟩ := h
    rfl
  · obtain ⟨n, rfl, n1, n2, q⟩ := h
    obtain ⟨t, ht⟩ := C.gw
    refine ⟨_, pss_one (ps_if (pt_not (pt_chain op_le op_le pe_int (pv 0) (pe_glob (v := .int 12) (by rfl) ht ⟨t, rfl⟩))) (pss_one ps_never) pss_nil), ?_⟩
    refine ⟨_, rfl, _, _, rfl, rfl, _, rfl, ite2 (fun g => ?_) (fun g => absurd (decide_eq_true (by omega)) g)⟩
    refine ⟨_, _, rfl, rfl, _, rfl, ite2 (fun g2 => absurd g2 ?_) (fun _ => q)⟩
    rw [decide_eq_true (by omega)]
    decide
theorem scBehind : FnScope ["changes", "index"] ["changes", "index"] (defScope sBehind) := ⟨rfl, rfl, rfl, by decide +kernel, rfl, by decide +kernel, by decide +kernel⟩
theorem behind_fit {ms : List (Int × Int)} {i : Nat} (h : ms.Pairwise fun a b => a.1 < b.1) (hi : i < ms.length) : behind ms i = true := by
  unfold behind
  cases i with
  | zero => rfl
  | succ j =>
    have lt := List.pairwise_iff_getElem.mp h j (j + 1) (by omega) hi (by omega)
    simp only [Nat.add_sub_cancel]
    rw [List.getD_eq_getElem?_getD, List.getD_eq_getElem?_getD, List.getElem?_eq_getElem hi, List.getElem?_eq_getElem (by omega : j < ms.length)]
    simp [lt]
theorem ok_behind {f : Addr} {fd : FuncData} (F : Fun K "is_behind" "is_behind" sBehind f fd) : FnOk P w K mg base CX0 1 f fd ["changes", "index"] (spBehind K) := by
  refine F.ok scBehind (fun vs H Q E h => ?_) (fun cdv A outer s H vs Q E hr h => ?_)
  · obtain ⟨a, ts, ms, i, rfl, _⟩ := h
    rfl
  · obtain ⟨a, ts, ms, i, rfl, hS, tp, hi, q⟩ := h
    refine ⟨_, pss_one (ps_ret (pe_or (pe_cmpR op_eq (pv 1) pe_int (nomark _)) (pe_one (pe_cmpR op_lt
      (pe_ix ix_tup (pe_ix ix_list (pv 0) (pe_op op_sub (pv 1) pe_int) (fun _ _ => rfl)) pe_int (fun _ _ => rfl))
      (pe_ix ix_tup (pe_ix ix_list (pv 0) (pv 1) (fun _ _ => rfl)) pe_int (fun _ _ => rfl)) (nomark _))))), ?_⟩
    have tl := tp.len
    have ez : decide (V.int (i : Int) = V.int 0) = decide (i = 0) := by
      rw [decide_eq_decide]
      exact ⟨fun e => by injection e with e; omega, fun e => by rw [e]; rfl⟩
    refine ⟨_, rfl, rfl, _, rfl, ?_⟩
    rw [ez]
    cases i with
    | zero => exact q
    | succ j =>
      have hj : j < ts.length := by omega
      have hj1 : j + 1 < ts.length := by omega
      obtain ⟨m', hm', hm2'⟩ := tp.get (List.getElem?_eq_getElem hj)
      obtain ⟨m, hm, hm2⟩ := tp.get (List.getElem?_eq_getElem hj1)
      have ej : (((j + 1 : Nat) : Int) - 1) = (j : Nat) := by omega
      refine ⟨_, rfl, _, rfl, _, _, rfl, rfl, a, _, _, _, rfl, rfl, hS, at_of (j := j) (v := V.ref ts[j]) ej (by rw [List.getElem?_map, List.getElem?_eq_getElem hj]; rfl), ts[j], _, 0, _, rfl, rfl, SqT.of hm2', atI_nat (j := 0) rfl,
        _, rfl, _, rfl, a, _, _, _, rfl, rfl, hS, atI_nat (j := j + 1) (v := V.ref ts[j + 1]) (by rw [List.getElem?_map, List.getElem?_eq_getElem hj1]; rfl), ts[j + 1], _, 0, _, rfl, rfl, SqT.of hm2, atI_nat (j := 0) rfl, _, _, rfl, rfl, ?_⟩
      have e : behind ms (j + 1) = decide (m'.1 < m.1) := by
        unfold behind
        simp only [Nat.add_sub_cancel]
        rw [List.getD_eq_getElem?_getD, List.getD_eq_getElem?_getD, hm, hm']
        simp
      rw [e] at q
      exact q
theorem scChkS : FnScope ["speeds", "index", "speed"] ["speeds"] (defScope sChkSpeeds) := ⟨rfl, rfl, rfl, by decide +kernel, rfl, by decide +kernel, by decide +kernel⟩
theorem ok_chkS {f fI fW : Addr} {fd fdI fdW : FuncData} (F : Fun K "check_speeds" "check_speeds" sChkSpeeds f fd) (C : Con mg) (T : Blt mg) (I : At P w K mg base 1 "is_speed" ["number"] spIsSpeed fI fdI) (W : At P w K mg base 1 "check_week" ["number"] spChkW fW fdW) :
    FnOk P w K mg base CX0 2 f fd ["speeds"] (spChkS K) := by
  refine F.ok scChkS (fun vs H Q E h => ?_) (fun cdv A outer s H vs Q E hr h => ?_)
  · obtain ⟨a, ps, rfl, _⟩ := h
    rfl
  · obtain ⟨a, ps, rfl, hS, hp, k⟩ := h
    refine ⟨_, pss_cons (ps_expr (pe_call W.ok hr (by rfl) W.at_ W.kp W.bi .nil pass0 (pa_cons (pe_callB call_len_seq (by rfl) T.len PySem.boot_len (pa_cons (pv 0) pa_nil)) pa_nil)))
      (pss_cons (ps_for PassesOwn.never rfl (pi_enum (by rfl) C.enum (pa_cons (pv 0) pa_nil)) (pg_tup rfl (pgs_cons (pg_name (i := 1) scChkS.nd rfl (.inl rfl)) (pgs_cons (pg_name (i := 2) scChkS.nd rfl (.inl rfl)) pgs_nil)))
        (pss_one (ps_if (pt_not (pt_val (pe_call I.ok hr (by rfl) I.at_ I.kp I.bi .nil pass0 (pa_cons (pv 2) pa_nil)))) (pss_one ps_never) pss_nil)))
      (pss_one (ps_if (pt_cmpR op_eq (pe_callB (cr_max rfl) (by rfl) T.max (by decide +kernel) (pa_cons (pv 0) pa_nil)) pe_int (nomark _)) (pss_one ps_never) pss_nil))), ?_⟩
    have l0 := hp.len0
    have l1 := hp.len1
    have hlen : (((ps.map V.int).length : Nat) : Int) = ps.length := by rw [List.length_map]
    refine ⟨_, rfl, a, _, rfl, .inl hS, ⟨_, rfl, by rw [hlen]; omega, by rw [hlen]; omega, ?_⟩⟩
    refine ⟨_, rfl, a, _, rfl, hS, for_it (walk_enum (K := K) (a := a) (xs := ps.map V.int)) (fun i σ J => ∃ y1 y2 : Option V, σ = [some (.ref a), y1, y2] ∧ Same H J) ⟨none, none, rfl, Same.refl H⟩ (fun i σ J _ ⟨_, _, _, g⟩ => g.seq hS) ?_ ?_⟩
    · rintro i x σ J J' hi ⟨y1, y2, rfl, hs⟩ ⟨T', x1, x2, rfl, nT, rfl, e1, e2⟩
      obtain rfl := Option.some.inj e1
      have hi' : i < ps.length := by simpa using hi
      replace e2 : (List.map _ _)[i]? = some x2 := e2
      rw [List.getElem?_map, List.getElem?_eq_getElem hi'] at e2
      obtain rfl := Option.some.inj e2
      refine ⟨T', _, rfl, .inl (.inl upd_same), rfl, _, _, rfl, _, [], rfl, rfl, ?_⟩
      have hv := hp.lo _ (List.getElem_mem hi')
      refine ⟨_, rfl, _, rfl, _, rfl, ?_⟩
      rw [decide_eq_true hv]
      exact ⟨_, _, rfl, hs.trans (same_new nT)⟩
    · rintro σ J ⟨y1, y2, rfl, hs⟩
      refine ⟨_, rfl, a, ps, rfl, hs.seq hS, l0, fun m hm hmax => ⟨rfl, _, rfl, ite2 (fun g => ?_) (fun _ => k J hs)⟩⟩
      have g2 : m = 0 := by
        have := of_decide_eq_true g
        injection this
      obtain ⟨v, hv, v0⟩ := hp.pos
      have := hmax v hv
      have := hp.lo v hv
      omega
theorem scChkC : FnScope ["changes", "index", "_", "speed"] ["changes"] (defScope sChkChanges) := ⟨rfl, rfl, rfl, by decide +kernel, rfl, by decide +kernel, by decide +kernel⟩
theorem ok_chkC {f fI fB : Addr} {fd fdI fdB : FuncData} (F : Fun K "check_changes" "check_changes" sChkChanges f fd) (C : Con mg) (T : Blt mg) (I : At P w K mg base 1 "is_speed" ["number"] spIsSpeed fI fdI) (B : At P w K mg base 1 "is_behind" ["changes", "index"] (spBehind K) fB fdB) :
    FnOk P w K mg base CX0 2 f fd ["changes"] (spChkC K) := by
  refine F.ok scChkC (fun vs H Q E h => ?_) (fun cdv A outer s H vs Q E hr h => ?_)
  · obtain ⟨a, ts, ms, rfl, _⟩ := h
    rfl
  · obtain ⟨a, ts, ms, rfl, hS, tp, fit, k⟩ := h
    refine ⟨_, pss_one (ps_for PassesOwn.never rfl (pi_enum (by rfl) C.enum (pa_cons (pv 0) pa_nil))
        (pg_tup rfl (pgs_cons (pg_name (i := 1) scChkC.nd rfl (.inl rfl)) (pgs_cons (pg_tup rfl (pgs_cons (pg_name (i := 2) scChkC.nd rfl (.inl rfl)) (pgs_cons (pg_name (i := 3) scChkC.nd rfl (.inl rfl)) pgs_nil))) pgs_nil)))
        (pss_one (ps_if (PW.pt (pw_or (pt_not (pt_val (pe_call I.ok hr (by rfl) I.at_ I.kp I.bi .nil pass0 (pa_cons (pv 3) pa_nil))))
          (pw_or1 (pt_not (pt_val (pe_call B.ok hr (by rfl) B.at_ B.kp B.bi .nil pass0 (pa_cons (pv 0) (pa_cons (pv 1) pa_nil)))))))) (pss_one ps_never) pss_nil))), ?_⟩
    have tl := tp.len
    refine ⟨_, rfl, a, _, rfl, hS, for_it (walk_enum (K := K) (a := a) (xs := ts.map V.ref)) (fun i σ J => ∃ y1 y2 y3 : Option V, σ = [some (.ref a), y1, y2, y3] ∧ Same H J) ⟨none, none, none, rfl, Same.refl H⟩ (fun i σ J _ ⟨_, _, _, _, g⟩ => g.seq hS) ?_ ?_⟩
    · rintro i x σ J J' hi ⟨y1, y2, y3, rfl, hs⟩ ⟨T', x1, x2, rfl, nT, rfl, e1, e2⟩
      obtain rfl := Option.some.inj e1
      have hi' : i < ts.length := by simpa using hi
      replace e2 : (List.map _ _)[i]? = some x2 := e2
      rw [List.getElem?_map, List.getElem?_eq_getElem hi'] at e2
      obtain rfl := Option.some.inj e2
      have s2 := hs.trans (same_new (o := .tup [.int (i : Nat), .ref ts[i]]) nT)
      obtain ⟨m, hm, hm2⟩ := (tp.same s2).get (List.getElem?_eq_getElem hi')
      refine ⟨T', _, rfl, .inl (.inl upd_same), rfl, _, _, rfl, _, [], rfl, ⟨_, _, rfl, .inl (.inl hm2), rfl, _, _, rfl, _, [], rfl, rfl, rfl, ?_⟩⟩
      have hv := fit.val _ (List.mem_of_getElem? hm)
      refine ⟨_, rfl, _, rfl, _, rfl, ?_⟩
      rw [decide_eq_true hv]
      refine ⟨_, rfl, _, rfl, ⟨a, ts, ms, i, rfl, s2.seq hS, tp.same s2, by omega, ?_⟩⟩
      rw [behind_fit fit.asc (by omega)]
      exact ⟨_, rfl, _, _, _, rfl, s2⟩
    · rintro σ J ⟨y1, y2, y3, rfl, hs⟩
      exact k J hs
end

/-- a dict comprehension over anything that is walked -/
theorem dc_it {J : It} {n : Nat} {G : Hp → Prop} {Y : Nat → Hp → V → Hp → Prop} (wk : Walk J n G Y) {g : TG} {tt : TT} {tk tv : TE} {vs : List Nat} {σ : L2.St} {H1 : Hp} {D : Addr} {Qd : Hp → Prop}
    (Pv : Nat → Hp → Prop) (h0 : Pv 0 (upd H1 D (.dK []))) (hG : ∀ i H, i ≤ n → Pv i H → G H)
    (hs : ∀ i x H H', i < n → Pv i H → Y i H x H' → g x (wipe σ vs) H' fun σ2 H2 => wipe σ2 vs = wipe σ vs ∧ tt σ2 H2 fun b H3 =>
      if b = true then tk σ2 H3 fun y H4 => tv σ2 H4 fun z H5 => ∃ kvs k, y = kV k ∧ H5 D = some (.dK kvs) ∧ kvs.length < sizeLine ∧
        Pv (i + 1) (upd H5 D (.dK (putK kvs k z))) else Pv (i + 1) H3) (hd : ∀ H, Pv n H → Qd H) :
    ∃ W : Nat → Nat → Hp → Prop, (∃ m, W 0 m (upd H1 D (.dK []))) ∧ ∀ i m H, W i m H →
      (J.stop i H ∧ Qd H) ∨ (J.go i H ∧ ∃ Nx : Hp → Prop, (∀ H', Nx H' → ∃ m', m' < m ∧ W (i + 1) m' H') ∧
        ∀ x H', J.yld i H x H' → g x (wipe σ vs) H' fun σ2 H2 => wipe σ2 vs = wipe σ vs ∧ tt σ2 H2 fun b H3 =>
          if b = true then tk σ2 H3 fun y H4 => tv σ2 H4 fun z H5 => ∃ kvs k, y = kV k ∧ H5 D = some (.dK kvs) ∧
            kvs.length < sizeLine ∧ Nx (upd H5 D (.dK (putK kvs k z))) else Nx H3) := by
  refine ⟨fun i m H => m = n - i ∧ i ≤ n ∧ Pv i H, ⟨n - 0, rfl, Nat.zero_le _, h0⟩, fun i m H hw => ?_⟩
  obtain ⟨rfl, hle, hp⟩ := hw
  rcases Nat.lt_or_ge i n with hlt | hge
  · refine Or.inr ⟨wk.goes i H hlt (hG i H hle hp), Pv (i + 1), fun H' q => ⟨n - (i + 1), by omega, rfl, hlt, q⟩, fun x H' hy => ?_⟩
    exact hs i x H H' hlt hp (wk.yields i H x H' hlt (hG i H hle hp) hy)
  · obtain rfl : i = n := by omega
    exact Or.inl ⟨wk.stops H (hG i H hle hp), hd H hp⟩
/-- the speed of the bare week -/
def paceOf (ps : List Int) (t : Int) : Int := ps.getD (t % ps.length).toNat 0
/-- the changes that change something -/
def realOf (ps : List Int) (ms : List (Int × Int)) : List (Int × Int) := ms.filter fun m => decide (m.2 ≠ paceOf ps m.1)
def kvP (m : Int × Int) : Key × V := (Sum.inl m.1, V.int m.2)
theorem valV_kvP : ∀ (ms : List (Int × Int)) (t : Int), valV (ms.map kvP) (Sum.inl t : Key) = (ms.find? fun m => decide (m.1 = t)).map fun m => V.int m.2
  | [], _ => rfl
  | m :: ms, t => by
    have ih := valV_kvP ms t
    unfold valV at ih ⊢
    rw [List.map_cons, List.find?_cons, List.find?_cons]
    have e : decide ((kvP m).1 = (Sum.inl t : Key)) = decide (m.1 = t) := by
      rw [decide_eq_decide]
      unfold kvP
      constructor
      · intro h
        injection h
      · intro h
        rw [h]
    rw [e]
    cases decide (m.1 = t) with
    | true => rfl
    | false => exact ih
theorem atI_pace {ps : List Int} {t : Int} (h : 0 < ps.length) : atI (ps.map V.int) (t % ps.length) = some (.int (paceOf ps t)) := by
  have h0 := Int.emod_nonneg t (show (ps.length : Int) ≠ 0 by omega)
  have h1 := Int.emod_lt_of_pos t (show (0 : Int) < ps.length by omega)
  obtain ⟨v, _, e, e2⟩ := atI_ints h0 h1
  rw [e2]
  unfold paceOf
  rw [List.getD_eq_getElem?_getD, e]
  rfl
def calF (l d : Addr) : List (Str × V) := putF "_changes" (.ref d) (putF "_speeds" (.ref l) [])
theorem calNe : ¬ (("_speeds" : Str) = "_changes") := by decide +kernel
theorem calF_s (l d : Addr) : (calF l d).lookup ("_speeds" : Str) = some (.ref l) := by
  unfold calF
  rw [lookup_putF, if_neg calNe, lookup_putF, if_pos rfl]
theorem calF_c (l d : Addr) : (calF l d).lookup ("_changes" : Str) = some (.ref d) := by
  unfold calF
  rw [lookup_putF, if_pos rfl]
theorem calF_no (l d : Addr) {m : Str} (h1 : ¬ m = "_changes") (h2 : ¬ m = "_speeds") : (calF l d).lookup m = none := by
  unfold calF
  rw [lookup_putF, if_neg h1, lookup_putF, if_neg h2]
  rfl
/-- a calendar with these speeds and these changes stands at x; its list at l, its dict at d -/
structure CalAt (C : Addr) (H : Hp) (x l d : Addr) (ps : List Int) (ms : List (Int × Int)) : Prop where
  ob : ∃ dx, H x = some (.ins C dx (calF l d))
  ls : H l = some (.lst (ps.map V.int))
  dc : H d = some (.dK (ms.map kvP))
theorem CalAt.same {C : Addr} {H H' : Hp} {x l d : Addr} {ps : List Int} {ms : List (Int × Int)} (h : CalAt C H x l d ps ms) (f : Same H H') : CalAt C H' x l d ps ms := by
  obtain ⟨⟨dx, h1⟩, h2, h3⟩ := h
  exact ⟨⟨dx, f _ _ h1⟩, f _ _ h2, f _ _ h3⟩
theorem CalAt.put {C : Addr} {H : Hp} {x l d c : Addr} {o : HO} {ps : List Int} {ms : List (Int × Int)} (h : CalAt C H x l d ps ms) (n1 : x ≠ c) (n2 : l ≠ c) (n3 : d ≠ c) : CalAt C (upd H c o) x l d ps ms := by
  obtain ⟨⟨dx, h1⟩, h2, h3⟩ := h
  exact ⟨⟨dx, by rw [upd_ne n1]; exact h1⟩, by rw [upd_ne n2]; exact h2, by rw [upd_ne n3]; exact h3⟩
theorem CalAt.fr {C : Addr} {H H' : Hp} {x l d p : Addr} {ps : List Int} {ms : List (Int × Int)} (h : CalAt C H x l d ps ms) (f : Fr p H H') (n1 : x ≠ p) (n2 : l ≠ p) (n3 : d ≠ p) : CalAt C H' x l d ps ms := by
  obtain ⟨⟨dx, h1⟩, h2, h3⟩ := h
  exact ⟨⟨dx, f _ _ h1 n1⟩, f _ _ h2 n2, f _ _ h3 n3⟩
def spInit (C : Addr) (K : PySem.W.Frag) : Sp := fun vs H Q _ => ∃ (x dx a b : Addr) (ps : List Int) (ts : List Addr) (ms : List (Int × Int)), vs = [.ref x, .ref a, .ref b] ∧ H x = some (.ins C dx []) ∧
  SqL K H a (ps.map V.int) ∧ SqL K H b (ts.map V.ref) ∧ Tups H ts ms ∧ Paces ps ∧ Fit ms ∧ a ≠ x ∧ b ≠ x ∧
  ∀ H' l d, CalAt C H' x l d ps (realOf ps ms) → H l = none → H d = none → (∀ c o, H c = some o → c ≠ x → H' c = some o) → Q .non H'
/-- len of a list or a tuple, told by the written part -/
def rLen (K : PySem.W.Frag) : List V → Hp → VK → Prop := fun vs H Q => ∃ (p : Addr) (ys : List V), vs = [.ref p] ∧
  (SqL K H p ys ∨ SqT K H p ys) ∧ Q (.int (ys.length : Nat)) H
/-- the class of calendars as the top has made it -/
structure Cal (K : PySem.W.Frag) (mg : Str → Option Value) (C : Addr) : Prop where
  cl : Cls K C
  nS : NoAttr K C "_speeds"
  nC : NoAttr K C "_changes"
  at_ : mg "Calendar" = some (.ref C)
section
variable {P : Program} {w : World} {K : PySem.W.Frag} {mg : Str → Option Value} {base : Heap}
theorem scInit : FnScope ["self", "speeds", "changes", "moment", "speed"] ["self", "speeds", "changes"] (defScope sInit) := ⟨rfl, rfl, rfl, by decide +kernel, rfl, by decide +kernel, by decide +kernel⟩
theorem ok_init {f fS fC C : Addr} {fd fdS fdC : FuncData} (F : Fun K "__init__" "Calendar.__init__" sInit f fd) (Z : Cal K mg C) (T : Blt mg)
    (S : At P w K mg base 2 "check_speeds" ["speeds"] (spChkS K) fS fdS) (B : At P w K mg base 2 "check_changes" ["changes"] (spChkC K) fC fdC) :
    FnOk P w K mg base CX0 3 f fd ["self", "speeds", "changes"] (spInit C K) := by
  refine F.ok scInit (fun vs H Q E h => ?_) (fun cdv A outer s H vs Q E hr h => ?_)
  · obtain ⟨x, dx, a, b, ps, ts, ms, rfl, _⟩ := h
    rfl
  · obtain ⟨x, dx, a, b, ps, ts, ms, rfl, hx, ha, hb, tp, hp, fit, ax, bx, k⟩ := h
    refine ⟨_, pss_cons (ps_expr (pe_call S.ok hr (by rfl) S.at_ S.kp S.bi .nil pass0 (pa_cons (pv 1) pa_nil)))
      (pss_cons (ps_expr (pe_call B.ok hr (by rfl) B.at_ B.kp B.bi .nil pass0 (pa_cons (pv 2) pa_nil)))
      (pss_cons (ps_fld (pv 0) (pe_callTy call_list_of (by rfl) T.list (by decide +kernel) (pa_cons (pv 1) pa_nil)) rfl)
      (pss_one (ps_fld (pv 0) (pe_dc (own := [("moment", 3), ("speed", 4)]) (g := gTup K 2 (gCons (gName 3) (gCons (gName 4) gNil))) rfl scInit.nd (pi_list (pv 2)) (blkOk_by (N := ["self", "speeds", "changes", "moment", "speed"]) (sc := defScope sInit) (by decide +kernel))
        (fun _ _ _ _ _ => pg_tup rfl (pgs_cons (pg_name (i := 3) scInit.nd rfl (.inl rfl)) (pgs_cons (pg_name (i := 4) scInit.nd rfl (.inl rfl)) pgs_nil)))
        (fun _ _ _ _ _ => pts_one (pt_cmpR op_ne (pv 4) (pe_ix (r := rIxL K) ix_list (pv 1) (pe_op op_mod (pv 3) (pe_callB (r := rLen K) call_len_seq (by rfl) T.len PySem.boot_len (pa_cons (pv 1) pa_nil))) (fun _ _ => rfl)) (nomark _)))
        (fun _ _ _ _ _ => pv 3) (fun _ _ _ _ _ => pv 4)) rfl)))), ?_⟩
    have l0 := hp.len0
    have l1 := hp.len1
    refine ⟨_, rfl, a, ps, rfl, ha, hp, fun H1 s1 => ?_⟩
    refine ⟨_, rfl, b, ts, ms, rfl, s1.seq hb, tp.same s1, fit, fun H2 s2 => ?_⟩
    have s12 := s1.trans s2
    refine ⟨_, rfl, a, _, rfl, .inl (s12.seq ha), fun l hl => ?_⟩
    have hx2 := s12 _ _ hx
    have xl : x ≠ l := ne_of_none hx2 hl
    refine ⟨_, rfl, x, C, dx, _, rfl, (by rw [upd_ne xl]; exact hx2), Z.cl, Z.nS, (by show 0 < 1000; decide), ?_⟩
    generalize hH3 : upd (upd H2 l (.lst (ps.map V.int))) x (.ins C dx (putF "_speeds" (.ref l) [])) = H3
    have f3 : ∀ c o, H c = some o → c ≠ x → H3 c = some o := fun c o e g => by
      have e2 := s12 _ _ e
      rw [← hH3, upd_ne g, upd_ne (ne_of_none e2 hl)]
      exact e2
    have sq : ∀ {c : Addr} {xs : List V}, c ≠ x → SqL K H c xs → SqL K H3 c xs := fun {c xs} g h => by
      rcases h with (h | ⟨o, h⟩) | h
      · exact .inl (.inl (f3 _ _ h g))
      · exact .inl (.inr ⟨o, f3 _ _ h g⟩)
      · exact .inr h
    have hx3 : H3 x = some (.ins C dx (putF "_speeds" (.ref l) [])) := by rw [← hH3]; exact upd_same
    have hl3 : H3 l = some (.lst (ps.map V.int)) := by rw [← hH3, upd_ne xl.symm]; exact upd_same
    have tp3 : Tups H3 ts ms := tp.imp fun t xs e => f3 _ _ e fun z => by
      rw [z, hx] at e
      cases e
    have tl := tp.len
    refine ⟨_, rfl, b, rfl, ⟨_, sq bx hb⟩, fun D hD => dc_it (walk_list (K := K) (a := b) (xs := ts.map V.ref)) (fun i J => J D = some (.dK ((realOf ps (ms.take i)).map kvP)) ∧ ∀ c o, H3 c = some o → J c = some o) ⟨upd_same, same_new hD⟩
      (fun i J _ h => (show Same H3 J from h.2).seq (sq bx hb)) ?_ ?_⟩
    · rintro i y J J' hi ⟨hJ, sJ⟩ ⟨rfl, hy⟩
      have hi' : i < ts.length := by simpa using hi
      rw [List.getElem?_map, List.getElem?_eq_getElem hi'] at hy
      obtain rfl := Option.some.inj hy
      obtain ⟨m, hm, hm2⟩ := (tp3.same (show Same H3 J' from sJ)).get (List.getElem?_eq_getElem hi')
      have et : ms.take (i + 1) = ms.take i ++ [m] := by rw [List.take_add_one, hm]; rfl
      refine ⟨_, _, rfl, .inl (.inl hm2), rfl, _, _, rfl, _, [], rfl, rfl, rfl, ?_⟩
      have hb' := sq ax ha
      have ha' : SqL K J' a (ps.map V.int) := (show Same H3 J' from sJ).seq hb'
      refine ⟨_, rfl, _, rfl, _, rfl, _, rfl, a, _, rfl, .inl ha', _, _, rfl, rfl, (by rw [List.length_map]; omega), a, _, _, _, rfl, rfl, ha', (by rw [List.length_map]; exact atI_pace l0), rfl, ?_⟩
      have ei : decide (V.int m.2 = V.int (paceOf ps m.1)) = decide (m.2 = paceOf ps m.1) := by
        rw [decide_eq_decide]
        exact ⟨fun e => by injection e, fun e => by rw [e]⟩
      rw [ei]
      by_cases hc : m.2 = paceOf ps m.1
      · rw [decide_eq_true hc]
        refine ⟨false, rfl, ?_, sJ⟩
        rw [et]
        unfold realOf
        rw [List.filter_append]
        have : List.filter (fun m => decide (m.2 ≠ paceOf ps m.1)) [m] = [] := by simp [hc]
        rw [this, List.append_nil]
        exact hJ
      · rw [decide_eq_false hc]
        have hr' : ((realOf ps (ms.take i)).map kvP).length < sizeLine := by
          rw [List.length_map]
          refine small1000 (Nat.le_trans (List.length_filter_le _ _) ?_)
          rw [List.length_take]
          have := fit.len
          omega
        have hv : valV ((realOf ps (ms.take i)).map kvP) (Sum.inl m.1 : Key) = none := by
          rw [valV_kvP, List.find?_eq_none.mpr]
          · rfl
          · intro m' hm' e'
            have h1 := (List.mem_filter.mp hm').1
            obtain ⟨j, hj, e⟩ := List.getElem_of_mem h1
            rw [List.length_take] at hj
            rw [List.getElem_take] at e
            have hi2 : i < ms.length := by omega
            have hlt := List.pairwise_iff_getElem.mp fit.asc j i (by omega) hi2 (by omega)
            rw [List.getElem?_eq_getElem hi2] at hm
            have := Option.some.inj hm
            have e3 : m'.1 = m.1 := by simpa using e'
            rw [e, this, e3] at hlt
            omega
        refine ⟨true, rfl, _, rfl, _, rfl, _, Sum.inl m.1, rfl, hJ, hr', ?_, fun c o e => ?_⟩
        · rw [upd_same, putK_new _ hv, et]
          unfold realOf
          rw [List.filter_append]
          have : List.filter (fun m => decide (m.2 ≠ paceOf ps m.1)) [m] = [m] := by simp [hc]
          rw [this, List.map_append]
          rfl
        · rw [upd_ne (ne_of_none e hD)]
          exact sJ c o e
    · rintro J ⟨hJ, sJ⟩
      rw [List.length_map, tl, List.take_length] at hJ
      refine ⟨_, rfl, x, C, dx, _, rfl, sJ _ _ hx3, Z.cl, Z.nC, (by show 1 < 1000; decide), ?_⟩
      have xD : x ≠ D := ne_of_none hx3 hD
      refine k _ l D ⟨⟨dx, upd_same⟩, ?_, ?_⟩ (s12.free hl) ?_ fun c o e g => ?_
      · rw [upd_ne xl.symm]
        exact sJ _ _ hl3
      · rw [upd_ne xD.symm]
        exact hJ
      · cases e : H D with
        | none => rfl
        | some o =>
          rw [f3 D o e (fun z => xD z.symm)] at hD
          cases hD
      · rw [upd_ne g]
        exact sJ _ _ (f3 c o e g)
end

/-! ### what a calendar tells: week, speeds, changes -/
def spWeek (C : Addr) : Sp := fun vs H Q _ => ∃ (x l d : Addr) (ps : List Int) (ms : List (Int × Int)), vs = [.ref x] ∧ CalAt C H x l d ps ms ∧ Q (.int (ps.length : Nat)) H
def spSpeeds (C : Addr) : Sp := fun vs H Q _ => ∃ (x l d : Addr) (ps : List Int) (ms : List (Int × Int)), vs = [.ref x] ∧ CalAt C H x l d ps ms ∧
  ∀ q, H q = none → Q (.ref q) (upd H q (.lst (ps.map V.int)))
def spChanges (C : Addr) : Sp := fun vs H Q _ => ∃ (x l d : Addr) (ps : List Int) (ms : List (Int × Int)), vs = [.ref x] ∧ CalAt C H x l d ps ms ∧
  ∀ (H' : Hp) (q : Addr) (ts : List Addr), Same H H' → H q = none → (∀ t ∈ ts, H t = none) → q ∉ ts → H' q = some (.lst (ts.map V.ref)) → Tups H' ts ms → Q (.ref q) H'
theorem tups_paired {H : Hp} : ∀ {ts : List Addr} {ms : List (Int × Int)}, Paired (fun (t : Addr) (q : Key × V) => H t = some (.tup [kV q.1, q.2])) ts (ms.map kvP) → Tups H ts ms
  | [], [], _ => trivial
  | [], m :: ms, h => nomatch h
  | t :: ts, [], h => nomatch h
  | t :: ts, m :: ms, h => by
    have h' : Paired (fun (t : Addr) (q : Key × V) => H t = some (.tup [kV q.1, q.2])) (t :: ts) (kvP m :: ms.map kvP) := h
    cases h' with
    | cons a b => exact ⟨a, tups_paired b⟩
section
variable {P : Program} {w : World} {K : PySem.W.Frag} {mg : Str → Option Value} {base : Heap}
theorem scGet1 : FnScope ["self"] ["self"] (defScope sWeek) := ⟨rfl, rfl, rfl, by decide +kernel, rfl, by decide +kernel, by decide +kernel⟩
theorem scGet2 : FnScope ["self"] ["self"] (defScope sSpeeds) := ⟨rfl, rfl, rfl, by decide +kernel, rfl, by decide +kernel, by decide +kernel⟩
theorem scGet3 : FnScope ["self"] ["self"] (defScope sChanges) := ⟨rfl, rfl, rfl, by decide +kernel, rfl, by decide +kernel, by decide +kernel⟩
theorem ok_week {f C : Addr} {fd : FuncData} (F : Fun K "week" "Calendar.week" sWeek f fd) (Z : Cal K mg C) (T : Blt mg) : FnOk P w K mg base CX0 1 f fd ["self"] (spWeek C) := by
  refine F.ok scGet1 (fun vs H Q E h => ?_) (fun cdv A outer s H vs Q E hr h => ?_)
  · obtain ⟨x, l, d, ps, ms, rfl, _⟩ := h
    rfl
  · obtain ⟨x, l, d, ps, ms, rfl, ⟨⟨dx, hx⟩, hl, hd⟩, k⟩ := h
    refine ⟨_, pss_one (ps_ret (pe_callB call_len_seq (by rfl) T.len PySem.boot_len (pa_cons (pe_fld (pv 0) rfl) pa_nil))), ?_⟩
    refine ⟨_, rfl, x, C, dx, _, _, rfl, hx, Z.cl, Z.nS, calF_s l d, l, _, rfl, .inl (SqL.of hl), ?_⟩
    rw [List.length_map]
    exact k
theorem ok_speeds {f C : Addr} {fd : FuncData} (F : Fun K "speeds" "Calendar.speeds" sSpeeds f fd) (Z : Cal K mg C) (T : Blt mg) : FnOk P w K mg base CX0 1 f fd ["self"] (spSpeeds C) := by
  refine F.ok scGet2 (fun vs H Q E h => ?_) (fun cdv A outer s H vs Q E hr h => ?_)
  · obtain ⟨x, l, d, ps, ms, rfl, _⟩ := h
    rfl
  · obtain ⟨x, l, d, ps, ms, rfl, ⟨⟨dx, hx⟩, hl, hd⟩, k⟩ := h
    refine ⟨_, pss_one (ps_ret (pe_callTy call_list_of (by rfl) T.list (by decide +kernel) (pa_cons (pe_fld (pv 0) rfl) pa_nil))), ?_⟩
    exact ⟨_, rfl, x, C, dx, _, _, rfl, hx, Z.cl, Z.nS, calF_s l d, l, _, rfl, .inl (SqL.of hl), k⟩
theorem ok_changes {f C : Addr} {fd : FuncData} (F : Fun K "changes" "Calendar.changes" sChanges f fd) (Z : Cal K mg C) (T : Blt mg) : FnOk P w K mg base CX0 1 f fd ["self"] (spChanges C) := by
  refine F.ok scGet3 (fun vs H Q E h => ?_) (fun cdv A outer s H vs Q E hr h => ?_)
  · obtain ⟨x, l, d, ps, ms, rfl, _⟩ := h
    rfl
  · obtain ⟨x, l, d, ps, ms, rfl, ⟨⟨dx, hx⟩, hl, hd⟩, k⟩ := h
    refine ⟨_, pss_one (ps_ret (LiI.pe_listItems rfl (pe_fld (pv 0) rfl) (by rfl) T.list (by decide +kernel))), ?_⟩
    exact ⟨_, rfl, x, C, dx, _, _, rfl, hx, Z.cl, Z.nC, calF_c l d, d, _, rfl, hd, fun H' q ts s1 nq nt qt hq hp => k H' q ts s1 nq nt qt hq (tups_paired hp)⟩
end
/-- a property of the calendars, by its getter -/
structure Pp (P : Program) (w : World) (K : PySem.W.Frag) (mg : Str → Option Value) (base : Heap) (C : Addr) (x : Str) (sp : Sp) (p g : Addr) (fd : FuncData) : Prop where
  of : PropOf K C x p g
  ok : FnOk P w K mg base CX0 1 g fd ["self"] sp
  bi : Binds K fd ["self"] []

/-! ### data whose repr is short -/
structure Rp (d : PyData) (n k : Nat) : Prop where
  lv : d.leavesShort 42 = true
  sh : d.showable = true
  nd : d.hasDict = false
  dp : d.depth ≤ k
  bk : d.bulk ≤ n
structure RpA (xs : List PyData) (n k : Nat) : Prop where
  lv : PyData.leavesShortAll 42 xs = true
  sh : PyData.showableAll xs = true
  nd : PyData.hasDictAll xs = false
  dp : PyData.depthAll xs ≤ k
  bk : PyData.bulkAll xs ≤ n
theorem Rp.int {i : Int} (h0 : -10 ^ 40 < i) (h1 : i < 10 ^ 40) : Rp (.int i) 0 0 := by
  have h : i.natAbs < 10 ^ 40 := by omega
  refine ⟨?_, ?_, rfl, Nat.le_refl _, Nat.le_refl _⟩
  · refine decide_eq_true ?_
    have e := int_text_length_le10 (k := 40) (by decide) h
    show (Str.ofString (toString i)).length ≤ 42
    rw [PySem.ofString_length]
    omega
  · refine decide_eq_true ?_
    by_cases z : i.natAbs = 0
    · rw [z]
      decide
    · have : i.natAbs < 2 ^ 1920 := Nat.lt_trans h (by decide)
      exact (Nat.log2_lt z).mpr this
theorem Rp.bool (b : Bool) : Rp (.bool b) 0 0 := ⟨rfl, rfl, rfl, Nat.le_refl _, Nat.le_refl _⟩
theorem Rp.none : Rp .none 0 0 := ⟨rfl, rfl, rfl, Nat.le_refl _, Nat.le_refl _⟩
theorem Rp.mono {d : PyData} {n k n' k' : Nat} (h : Rp d n k) (g1 : n ≤ n') (g2 : k ≤ k') : Rp d n' k' := ⟨h.lv, h.sh, h.nd, Nat.le_trans h.dp g2, Nat.le_trans h.bk g1⟩
theorem RpA.mono {d : List PyData} {n k n' k' : Nat} (h : RpA d n k) (g1 : n ≤ n') (g2 : k ≤ k') : RpA d n' k' := ⟨h.lv, h.sh, h.nd, Nat.le_trans h.dp g2, Nat.le_trans h.bk g1⟩
theorem Rp.list {xs : List PyData} {n k : Nat} (h : RpA xs n k) : Rp (.list xs) n (k + 1) :=
  ⟨by simp only [PyData.leavesShort, h.lv], by simp only [PyData.showable, h.sh], by simp only [PyData.hasDict, h.nd], by simp only [PyData.depth]; have := h.dp; omega, by simp only [PyData.bulk]; exact h.bk⟩
theorem Rp.tup {xs : List PyData} {n k : Nat} (h : RpA xs n k) : Rp (.tuple xs) n (k + 1) :=
  ⟨by simp only [PyData.leavesShort, h.lv], by simp only [PyData.showable, h.sh], by simp only [PyData.hasDict, h.nd], by simp only [PyData.depth]; have := h.dp; omega, by simp only [PyData.bulk]; exact h.bk⟩
theorem RpA.nil : RpA [] 0 0 := ⟨rfl, rfl, rfl, Nat.le_refl _, Nat.le_refl _⟩
theorem RpA.cons {d : PyData} {xs : List PyData} {n k m j : Nat} (h : Rp d n k) (g : RpA xs m j) : RpA (d :: xs) (n + 1 + m) (k + j) :=
  ⟨by simp only [PyData.leavesShortAll, h.lv, g.lv, Bool.and_self], by simp only [PyData.showableAll, h.sh, g.sh, Bool.and_self], by simp only [PyData.hasDictAll, h.nd, g.nd, Bool.or_self],
    by simp only [PyData.depthAll]; have := h.dp; have := g.dp; omega, by simp only [PyData.bulkAll]; have := h.bk; have := g.bk; omega⟩
theorem RpA.all {n k : Nat} : ∀ {xs : List PyData}, (∀ d ∈ xs, Rp d n k) → RpA xs (xs.length * (n + 1)) k
  | [], _ => RpA.nil.mono (Nat.zero_le _) (Nat.zero_le _)
  | d :: xs, h => by
    have h1 := h d List.mem_cons_self
    have h2 := RpA.all (xs := xs) fun e he => h e (List.mem_cons_of_mem _ he)
    refine ⟨by simp only [PyData.leavesShortAll, h1.lv, h2.lv, Bool.and_self], by simp only [PyData.showableAll, h1.sh, h2.sh, Bool.and_self], by simp only [PyData.hasDictAll, h1.nd, h2.nd, Bool.or_self], ?_, ?_⟩
    · simp only [PyData.depthAll]
      have := h1.dp
      have := h2.dp
      omega
    · simp only [PyData.bulkAll]
      have := h1.bk
      have := h2.bk
      rw [List.length_cons, Nat.add_mul]
      omega
theorem Rp.fits {d : PyData} {n k : Nat} (h : Rp d n k) (g : n ≤ 300000) : d.shown.length ≤ sizeLine := by
  have e := PyData.shown_le_bulk 42 (by decide) d h.lv
  have := h.bk
  rw [sizeLine_eq]
  omega
def rRep2 (K : PySem.W.Frag) : List V → Hp → VK → Prop := fun xs H Q => ∃ (a : Addr) (d : PyData) (n k : Nat), xs = [.ref a] ∧ Dp K H (.ref a) d ∧ Rp d n k ∧ k ≤ 60 ∧ n ≤ 300000 ∧ Q (.str d.shown) H
theorem call_rep2 {X : Cx} (hgd : X.A.guards = some []) (hu : X.A.units + 64 < cLine) : CallR X (.builtin "repr") (rRep2 X.K) := by
  intro pins s σ H xs us Q I r h
  obtain ⟨a, d, n, k, e, hd, hr, hk, hn, q⟩ := h
  exact call_repr hgd hu pins s σ H xs us Q I r ⟨a, d, e, hd, hr.sh, hr.nd, Nat.le_trans hr.dp hk, hr.fits hn, q⟩
/-! ### which data stand where -/
def dInts (xs : List Int) : PyData := .list (xs.map PyData.int)
def dMarks (ms : List (Int × Int)) : PyData := .list (ms.map fun m => PyData.tuple [.int m.1, .int m.2])
theorem dpAll_ints {K : PySem.W.Frag} {H : Hp} : ∀ xs : List Int, DpAll K H (xs.map V.int) (xs.map PyData.int)
  | [] => .nil
  | x :: xs => .cons (.int x) (dpAll_ints xs)
theorem dp_ints {K : PySem.W.Frag} {H : Hp} {a : Addr} {xs : List Int} (h : SqL K H a (xs.map V.int)) : Dp K H (.ref a) (dInts xs) := .lst h (dpAll_ints xs)
theorem dpAll_marks {K : PySem.W.Frag} {H : Hp} : ∀ {ts : List Addr} {ms : List (Int × Int)}, Tups H ts ms → DpAll K H (ts.map V.ref) (ms.map fun m => PyData.tuple [.int m.1, .int m.2])
  | [], [], _ => .nil
  | _ :: _, m :: _, h => .cons (.tup (SqT.of h.1) (.cons (.int m.1) (.cons (.int m.2) .nil))) (dpAll_marks h.2)
theorem dp_marks {K : PySem.W.Frag} {H : Hp} {a : Addr} {ts : List Addr} {ms : List (Int × Int)} (h : SqL K H a (ts.map V.ref)) (g : Tups H ts ms) : Dp K H (.ref a) (dMarks ms) := .lst h (dpAll_marks g)
theorem rp_ints {xs : List Int} (h : ∀ v ∈ xs, -10 ^ 40 < v ∧ v < 10 ^ 40) : Rp (dInts xs) xs.length 1 := by
  have := RpA.all (xs := xs.map PyData.int) (n := 0) (k := 0) fun d hd => by
    obtain ⟨v, hv, rfl⟩ := List.mem_map.mp hd
    exact Rp.int (h v hv).1 (h v hv).2
  refine (Rp.list this).mono ?_ (Nat.le_refl _)
  rw [List.length_map]
  omega
theorem rp_marks {ms : List (Int × Int)} (h : ∀ m ∈ ms, -10 ^ 40 < m.1 ∧ m.1 < 10 ^ 40 ∧ -10 ^ 40 < m.2 ∧ m.2 < 10 ^ 40) : Rp (dMarks ms) (ms.length * 3) 2 := by
  have := RpA.all (xs := ms.map fun m => PyData.tuple [.int m.1, .int m.2]) (n := 2) (k := 1) fun d hd => by
    obtain ⟨m, hm, rfl⟩ := List.mem_map.mp hd
    have g := h m hm
    exact (Rp.tup (.cons (Rp.int g.1 g.2.1) (.cons (Rp.int g.2.2.1 g.2.2.2) .nil))).mono (by omega) (by omega)
  refine (Rp.list this).mono ?_ (Nat.le_refl _)
  rw [List.length_map]
  omega

/-! ### the law's own loop -/
def Scr (K : PySem.W.Frag) (H : Hp) (a : Addr) (xs : List V) : Prop := (∃ o, H a = some (.frz o (.lst xs))) ∨ ∀ J : Hp, SqL K J a xs
theorem Scr.seq {K : PySem.W.Frag} {H : Hp} {a : Addr} {xs : List V} (h : Scr K H a xs) : SqL K H a xs := by
  rcases h with ⟨o, h⟩ | h
  · exact .inl (.inr ⟨o, h⟩)
  · exact h H
theorem Scr.of {K : PySem.W.Frag} {H : Hp} {a : Addr} {xs : List V} (o : Only H) (h : SqL K H a xs) : Scr K H a xs := by
  rcases h with (h | ⟨u, h⟩) | h
  · rcases o a with z | ⟨u, ys, z⟩
    · rw [z] at h
      cases h
    · rw [z] at h
      cases h
  · exact .inl ⟨u, h⟩
  · exact .inr fun J => .inr h
theorem Scr.same {K : PySem.W.Frag} {H H' : Hp} {a : Addr} {xs : List V} (h : Scr K H a xs) (f : Same H H') : Scr K H' a xs := by
  rcases h with ⟨o, h⟩ | h
  · exact .inl ⟨o, f _ _ h⟩
  · exact .inr h
theorem Scr.fr {K : PySem.W.Frag} {H H' : Hp} {a p : Addr} {n : Nat} {xs : List V} (h : Scr K H a xs) (g : Well H p n) (f : Fr p H H') : Scr K H' a xs := by
  rcases h with ⟨o, h⟩ | h
  · refine .inl ⟨o, f _ _ h fun z => ?_⟩
    obtain ⟨x, y, u, e, _⟩ := g
    rw [z, e] at h
    cases h
  · exact .inr h
def spFits : Sp := fun vs H Q _ => ∃ (p : Addr) (n : Nat), vs = [.ref p] ∧ Well H p n ∧ n ≤ 10 ^ 6 ∧ ∀ H', Fr p H H' → Well H' p (n + 1000) → Q (.bl true) H'
def spLaw (K : PySem.W.Frag) : Sp := fun vs H Q _ => ∃ (a : Addr) (ns : List Int), vs = [.ref a] ∧ Scr K H a (ns.map V.int) ∧ ns.length ≤ 63 ∧ ∀ H', Q (.bl true) H'
/-- the turns of the inner loop -/
def turns : Nat := match defBody sLaw with
  | .For _ _ (_ :: .For _ (.Call _ (.Constant (.int n) _ _ :: _) _ _) _ _ _ :: _) _ _ :: _ => n.toNat
  | _ => 0
section
variable {P : Program} {w : World} {K : PySem.W.Frag} {mg : Str → Option Value} {base : Heap}
theorem scLaw : FnScope ["script", "place", "well", "turn"] ["script"] (defScope sLaw) := ⟨rfl, rfl, rfl, by decide +kernel, rfl, by decide +kernel, by decide +kernel⟩
theorem ok_law {f fW fF : Addr} {fd fdW fdF : FuncData} {k : Nat} (hk : 1 ≤ k) (F : Fun K "law" "law" sLaw f fd) (T : Blt mg) (W : At P w K mg base 1 "_law_well" ["script", "place"] (spWell K) fW fdW)
    (G : FnG P w K mg base k fF fdF ["well"] spFits) (gF : mg "_law_fits" = some (.ref fF)) (kF : PySem.W.keepIn K (.ref fF) = true) (bF : Binds K fdF ["well"] []) : FnG P w K mg base (k + 1) f fd ["script"] (spLaw K) := by
  refine okG F scLaw (fun vs H Q E h => ?_) (fun cdv A outer s H vs Q E hgd hr h => ?_)
  · obtain ⟨a, ns, rfl, _⟩ := h
    rfl
  · obtain ⟨a, ns, rfl, hS, hl, q⟩ := h
    have hr1 : Room 1 _ := hr.mono hk
    refine ⟨_, pss_cons (ps_for PassesOwn.never rfl (pi_range1 (by rfl) T.range (pa_cons (pe_callB (call_max2 rfl) (by rfl) T.max (by decide +kernel) (pa_cons pe_int (pa_cons (pe_callB (call_min2 rfl) (by rfl) T.min (by decide +kernel)
          (pa_cons pe_int (pa_cons (pe_callB call_len_seq (by rfl) T.len PySem.boot_len (pa_cons (pv 0) pa_nil)) pa_nil))) pa_nil))) pa_nil)) (pg_name (i := 1) scLaw.nd rfl (.inl rfl))
        (pss_cons (ps_set (i := 2) scLaw.nd rfl (.inl rfl) (pe_call W.ok hr1 (by rfl) W.at_ W.kp W.bi .nil pass0 (pa_cons (pv 0) (pa_cons (pv 1) pa_nil))))
        (pss_one (ps_for PassesOwn.never rfl (pi_range1 (by rfl) T.range (pa_cons pe_int pa_nil)) (pg_name (i := 3) scLaw.nd rfl (.inl rfl))
          (pss_one (ps_if (pt_not (pt_val (pe_callG G hgd hr (by rfl) gF kF bF (pa_cons (pv 2) pa_nil)))) (pss_one (ps_ret pe_bl)) pss_nil))))))
      (pss_one (ps_ret pe_bl)), ?_⟩
    refine ⟨_, rfl, a, _, rfl, .inl hS.seq, 63, _, rfl, 1, _, rfl, ?_⟩
    generalize hm : (if (if (((ns.map V.int).length : Nat) : Int) < 63 then (((ns.map V.int).length : Nat) : Int) else 63) > 1 then (if (((ns.map V.int).length : Nat) : Int) < 63 then (((ns.map V.int).length : Nat) : Int) else 63) else 1) = m
    have m1 : 1 ≤ m ∧ m ≤ 63 := by
      rw [← hm]
      split <;> split <;> omega
    refine ⟨m, rfl, by omega, by omega, for_range (lo := 0) (n := m.toNat) (fun i σ J => ∃ y1 y2 y3 : Option V, σ = [some (.ref a), y1, y2, y3] ∧ Scr K J a (ns.map V.int)) ⟨none, none, none, rfl, hS⟩ ?_ ?_⟩
    · rintro i σ J hi ⟨y1, y2, y3, rfl, hJ⟩
      refine ⟨_, rfl, _, rfl, ⟨a, ns, _, rfl, hJ.seq, hl, by omega, by omega, fun p J1 np s1 w1 => ?_⟩⟩
      refine ⟨turns, rfl, by decide +kernel, by decide +kernel, for_range (lo := 0) (n := turns) (fun j σ J2 => ∃ y3 : Option V, σ = [some (.ref a), some (.int (0 + i)), some (.ref p), y3] ∧ Scr K J2 a (ns.map V.int) ∧ Well J2 p (j * 1000)) ⟨_, rfl, hJ.same s1, w1.mono (by omega)⟩ ?_ ?_⟩
      · rintro j σ J2 hj ⟨y3, rfl, hJ2, w2⟩
        have tb : turns ≤ 100 := by decide +kernel
        refine ⟨_, rfl, ⟨p, _, rfl, w2, by omega, fun J3 f3 w3 => ⟨_, rfl, ?_⟩⟩⟩
        exact ⟨_, rfl, hJ2.fr w2 f3, w3.mono (by omega)⟩
      · rintro σ J2 ⟨y3, rfl, hJ2, w2⟩
        exact ⟨_, _, _, rfl, hJ2⟩
    · rintro σ J ⟨y1, y2, y3, rfl, hJ⟩
      exact q J
end

/-! ### own errors with the attribute value -/
section
open PySem.W PySem.Calls
variable {prog : Program} {w : World} {A : Around} {E : Value → Shared → Prop} {s : Shared} {K : Frag} {x D : Addr} {ox : Obj} {od : Obj}
theorem kin_classX {Q : Option Value → Shared → Prop} (hga : findIn K (.ref D) "__getattribute__" = some (some (.builtin "BaseException.__getattribute__"))) (hgt : findIn K (.ref D) "__getattr__" = some none) (hsub : subIn K (.ref D) (.type "BaseException") = some true)
    (hdct : hasDictIn K D = true) (ha : findIn K (.ref D) "__class__" = some (some (.builtin "object.__class__")))
    (hn : specialIn K (.builtin "object.__class__") "__get__" = some (some (.builtin "getset_descriptor.__get__"))) (htk : takesIn K (.builtin "object.__class__") = some true) (hm : mroIn K D (.type "object") = some true)
    (X : K.In s.heap) (I : InstAt s.heap x ox D (some od)) (h : Q (some (.ref D)) { s with toks := s.toks + 1 }) : wpAny (model prog w) A (getAttr? (.ref x) "__class__") Q E s := by
  have hf : findObj K D (some od) "__class__" = some (.bind (.builtin "getset_descriptor.__get__") (.builtin "object.__class__")) := findObj_data (by obtain ⟨cd, hc, _⟩ := any_some hdct; rw [hc]; rfl) ha hn htk
  obtain ⟨hp, g, d, t, os⟩ := s
  have L0 := I.type (M := model prog w)
  have L1 := looks_findIn (M := model prog w) X hga
  have L2 := looks_findIn (M := model prog w) X hgt
  have L3 := looks_find (M := model prog w) X I hf
  have sub : Looks (model prog w) hp (isInstance (.ref x) (.type "BaseException")) true := L0.andThen (looks_subIn X hsub)
  have hx0 : (false && onTheHeap (Value.builtin "BaseException.__getattribute__")) = false := rfl
  have hx2 : (Value.builtin "BaseException.__getattribute__" == Value.builtin "object.__getattribute__") = false := by decide +kernel
  have hx1 : (onTheHeap (Value.ref D) && Value.builtin "BaseException.__getattribute__" == Value.builtin "object.__getattribute__") = false := by rw [hx2]; rfl
  unfold getAttr? getAttrBy? getAttrBy
  refine wpAny_bind (wpAny_mkText (wpAny_bind (wpAny_attempt (wpAny_holding (wpAny_bind (L0.at (wpAny_bind (L1.at ?_))))))))
  show wpAny _ _ (if (onTheHeap (Value.ref D) && Value.builtin "BaseException.__getattribute__" == Value.builtin "object.__getattribute__") = true then _ else _) _ _ _
  rw [hx1, if_neg Bool.false_ne_true]
  unfold getAttrByItsOwn hookBefore
  refine wpAny_bind ?_
  rw [if_pos (show onTheHeap (Value.ref D) = true from rfl)]
  refine L2.at ?_
  refine wpAny_bind (wpAny_attempt (wpAny_holding ?_))
  unfold callGetattribute
  rw [hx0, if_neg Bool.false_ne_true]
  unfold boundAndCalled
  rw [PySem.F.excAttr_ValueError.ga.bind (.ref x)]
  refine wpAny_bind (wpAny_pure ?_)
  show wpAny _ _ (call (.builtin "BaseException.__getattribute__") [.ref x, .str "__class__" t]) _ _ _
  refine wpAny_call (codeAny_call_builtin PySem.F.excAttr_ValueError.ga.plain PySem.F.entry_bexc_ga ?_)
  refine @check_slot (model prog w) _ _ ⟨hp, g, d, t + 1, os⟩ "BaseException.__getattribute__" "BaseException" "__getattribute__" (.ref x) [.str "__class__" t] [] _ (by decide +kernel) (by decide +kernel) sub (PySem.F.args_bexc_ga (.ref x) (.str "__class__" t)) ?_
  unfold Builtin.«object.__getattribute__»
  refine wpAny_bind (wpAny_of_eq (a := ((Value.ref x : Value), [Value.str "__class__" t])) (by first | rfl | (simp only [slotArgs]; rfl)) ?_)
  refine wpAny_bind (wpAny_pure (wpAny_bind (L0.at (wpAny_bind (L3.at ?_)))))
  show wpAny _ _ (holding [Value.builtin "object.__class__"] (call (.builtin "getset_descriptor.__get__") [.builtin "object.__class__", .ref x, .ref D]) >>= ret) _ _ _
  refine wpAny_bind (wpAny_holding (wpAny_call (class_get (s := ⟨hp, g, d, t + 1, os⟩) (ox := ox) (od := some od) X I hm ?_)))
  refine wpAny_pure ?_
  show wpAny _ _ (handedOut (.ref D)) _ _ _
  rw [handedOut_of (v := .ref D) rfl]
  first
    | exact wpAny_pure (wpAny_pure h)
    | exact wpAny_pure h
    | exact wpAny_pure (wpAny_bind (wpAny_pure (wpAny_pure h)))
theorem kitx_excX (hga : findIn K (.ref D) "__getattribute__" = some (some (.builtin "BaseException.__getattribute__"))) (hgt : findIn K (.ref D) "__getattr__" = some none) (hsub : subIn K (.ref D) (.type "BaseException") = some true) (hdct : hasDictIn K D = true) (ha : findIn K (.ref D) "__class__" = some (some (.builtin "object.__class__")))
    (hn : specialIn K (.builtin "object.__class__") "__get__" = some (some (.builtin "getset_descriptor.__get__"))) (htk : takesIn K (.builtin "object.__class__") = some true) (hm : mroIn K D (.type "object") = some true) :
    KitX K (.ref x) (.ref D) (fun h => InstAt h x ox D (some od)) where
  ty := fun _ _ _ I => I.type
  it := fun _ _ X _ => by
    obtain ⟨cdD, hcD, _⟩ := any_some hdct
    unfold clsIn at hcD
    split at hcD
    · rename_i c' d' cd' sl' ho
      intro A' Q' E' s' k q
      unfold isType loadHead
      exact wpAny_bind (wpAny_loadPart (k _ _ (X _ _ ho)) (wpAny_pure q))
    · cases hcD
  ne := fun h tp dd its n sl X htp => by
    obtain ⟨cdD, hcD, _⟩ := any_some hdct
    refine Bool.eq_false_iff.mpr fun q => ?_
    have e : D = tp := Value.ref.inj (beq_iff_eq.mp q)
    subst e
    unfold clsIn at hcD
    split at hcD
    · rename_i c' d' cd' sl' ho
      have z := (X _ _ ho).symm.trans htp
      cases z
    · cases hcD
  ca := fun X I k => kin_classX hga hgt hsub hdct ha hn htk hm X I k
end
/-- what the top has written of an own error class: it stands at C, its __init__ is the def at fI -/
structure ErrC (K : PySem.W.Frag) (C fI : Addr) : Prop where
  ox : OexC K C
  noV : PySem.W.findIn K (.ref C) "value" = some none
  iC : PySem.W.findIn K (.ref C) "__init__" = some (some (.ref fI))
  xc : ExcC K C
/-- the error that the suite holds: at a, of the class D, its value v -/
def HeldE (K : PySem.W.Frag) (cls : Value) (d : Option Addr) (v : V) (D fI : Addr) (H : Hp) : Prop := cls = .ref D ∧ ErrC K D fI ∧ ∃ dd, d = some dd ∧ H dd = some (.xd [(("value" : Str), v)])
def rIsX (K : PySem.W.Frag) (a : Addr) (cls : Value) (d : Option Addr) : List V → Hp → VK → Prop := fun xs H Q => ∃ (D fI : Addr) (v c : V) (cv : Value) (b : Bool), xs = [.ref a, c] ∧ HeldE K cls d v D fI H ∧ (∀ u, RelV c u → u = cv) ∧ PySem.W.kitOne K (.ref D) cv = some b ∧ Q (.bl b) H
theorem call_isX {X : Cx} {a : Addr} {oe : Obj} {cls : Value} {d : Option Addr} {pn : List (Addr × Obj)} (hz : Zc cls d oe) (hf : ∃ vs, oe.data = .fields vs) : CallR (X.suite a ((a, oe) :: pn)) (.builtin "isinstance") (rIsX X.K a cls d) := by
  intro pins s σ H xs us Q I r h
  obtain ⟨D, fI, v, c, cv, b, rfl, ⟨rfl, C, dd, rfl, ea⟩, hcv, e, q⟩ := h
  cases r with
  | cons rx rr =>
    cases rr with
    | cons rt rr =>
      cases rr
      cases rx
      have ec := hcv _ rt
      subst ec
      obtain ⟨hget, _⟩ := I.pin (a, oe) (List.mem_append.mpr (.inl List.mem_cons_self))
      obtain ⟨vs, hd⟩ := hf
      have hx : ObjOk X.prog X.w H s.heap dd (.xd [(("value" : Str), v)]) := I.hok dd _ ea
      obtain ⟨mA, hns, hr⟩ := hx
      obtain ⟨od, ho, hl⟩ := lookIn_ns hns
      have J : PySem.W.InstAt s.heap a oe D (some od) := ⟨hget, hz.1, by unfold PySem.W.notCls; rw [hd] <;> rfl, by rw [hz.2]; exact ho⟩
      exact PySem.W.kia_one (kitx_excX C.xc.hg C.xc.hk C.xc.hs C.xc.hd C.xc.ha C.xc.hn C.xc.ht C.xc.hm) I.kIn J e (fun z => nomatch z) fun tk => ⟨.bl b, H, I.kept (t' := tk) fun _ _ z => z, rfl, q⟩
/-- e.value -/
def tVal (K : PySem.W.Frag) (a : Addr) (cls : Value) (d : Option Addr) (te : TE) : TE := fun σ H Q => te σ H fun x H1 => x = .ref a ∧ ∃ (D fI : Addr) (v : V), HeldE K cls d v D fI H1 ∧ Q v H1
theorem pe_val {X : Cx} {a : Addr} {oe : Obj} {cls : Value} {d : Option Addr} {pn : List (Addr × Obj)} {e : Expr} {te : TE} {pos : Pos} (hz : Zc cls d oe) (hf : ∃ vs, oe.data = .fields vs) (he : PE (X.suite a ((a, oe) :: pn)) e te)
    (hb : attributeBase e "value" X.env (eval e X.env) = eval e X.env := by rfl) : PE (X.suite a ((a, oe) :: pn)) (.Attribute e "value" pos) (tVal X.K a cls d te) := by
  refine ⟨fun pins s σ H Q I h => ?_⟩
  refine attr_of hb (thn (he.run pins s σ H _ I h) fun u s1 hh => ?_)
  obtain ⟨x, H1, I1, rx, ex, D, fI, v, ⟨ec, C, dd, ed, ea⟩, q⟩ := hh
  subst ex
  obtain rfl : u = Value.ref a := rx
  subst ec
  subst ed
  obtain ⟨ha, _⟩ := I1.pin (a, oe) (List.mem_append_left _ List.mem_cons_self)
  obtain ⟨vs, hd⟩ := hf
  have hx : ObjOk X.prog X.w H1 s1.heap dd (.xd [(("value" : Str), v)]) := I1.hok dd _ ea
  obtain ⟨mA, hns, hr⟩ := hx
  obtain ⟨od, ho, hl⟩ := lookIn_ns hns
  have l : List.lookup ("value" : Str) [(("value" : Str), v)] = some v := by simp [List.lookup]
  obtain ⟨u, hu, ru⟩ := RelO.some_of (v := v) (o := mA "value") (by rw [← l]; exact hr "value")
  have J : PySem.W.InstAt s1.heap a oe D (some od) := ⟨ha, hz.1, by unfold PySem.W.notCls; rw [hd] <;> rfl, by rw [hz.2]; exact ho⟩
  exact HandSPX.exc_get I1.kIn J C.xc.hg C.xc.hk C.xc.hs (PySem.W.findObj_own C.xc.hd C.noV rfl (by rw [hl, hu])) (handed_of ru) ⟨v, H1, I1.tok _, ru, q⟩
/-! ### C(e, ..) that may raise, wished for at the slots -/
section
variable {X : Cx} {CX : CXT} {k : Nat} {f C : Addr} {fd : FuncData} {ps : List Str} {sp : Sp} {E : L2.St → XK} {x : Str} {p pos : Pos} {e : Expr} {es : List Expr} {t : TA} {ds : List Value} {dvs : List V}
def tMakeS (C : Addr) (sp : Sp) (dvs : List V) (E : L2.St → XK) (t : TA) : TE := fun σ H Q => t σ H fun vs H1 => ∀ x dx, H1 x = none → H1 dx = none → dx ≠ x →
  sp (.ref x :: (vs ++ dvs)) (upd (upd H1 dx (.own x)) x (.ins C dx [])) (fun v H2 => v = .non ∧ Q (.ref x) H2) (E σ)
theorem pe_makeS (M : Mk X.K C f) (F : FnOk X.prog X.w X.K X.mg X.base CX k f fd ps sp) (hr : Room (k + 1) X.A) (hg : Gl X x) (hm : X.mg x = some (.ref C)) (hb : Binds X.K fd ps ds) (hd : Vals dvs ds) (hx : ∀ σ, PassesAt CX X σ (E σ))
    (ha : PA X (e :: es) t) (hdb : (x == ("__debug__" : Str)) = false := by decide) (he : starEach (e :: es) X.env = (false, eval e X.env) :: starEach es X.env := by rfl) (hpl : (backTo pos (starEach es X.env)).any (·.1) = false := by rfl) :
    PE X (.Call (.Name x p) (e :: es) [] pos) (tMakeS C sp dvs E t) := by
  refine ⟨fun pins s σ H Q I h => ?_⟩
  refine wpAny_Call_Name_kw (ld_glob I hg hm ?_ hdb)
  refine PySem.W.callWith_K (h₀ := X.base) I.ok.mod.kin M.kp (thn (ha.run pos pins s σ H _ I h) fun us s1 ⟨vs, H1, I1, r, q⟩ => ⟨I1.kIn, ?_⟩) he hpl
  have hq := q (s1.heap.objs.size + 1) s1.heap.objs.size (I1.hok.fresh (Nat.le_succ _)) (I1.hok.fresh (Nat.le_refl _)) (Nat.ne_of_lt (Nat.lt_succ_self _))
  have I2 := Inv.made (C := C) I1
  have r2 : Vals (V.ref (s1.heap.objs.size + 1) :: (vs ++ dvs)) (Value.ref (s1.heap.objs.size + 1) :: (us ++ ds)) := .cons rfl (r.append hd)
  have hl : (Value.ref (s1.heap.objs.size + 1) :: us ++ ds).length = ps.length := by
    have e := r2.length
    rw [F.len _ _ _ _ hq] at e
    exact e.symm
  refine wpAny_call (make_map (f := f) I1.kIn M.makes M.init (beq_iff_eq.mp M.fn) (codeAny_mono (F.run _ X.stack _ _ ⟨Value.ref (s1.heap.objs.size + 1) :: us, []⟩ (Value.ref (s1.heap.objs.size + 1) :: (us ++ ds)) _ _ (E σ) (hr.make C us [])
    (I2.env0.make C us []) (hb _ (Value.ref (s1.heap.objs.size + 1) :: us) I2.kIn hl) r2 hq) fun r s' hq' => ?_))
  cases r with
  | error e => exact hx σ pins _ _ e s' I2 hq'
  | ok fl =>
    cases fl with
    | ret u =>
      obtain ⟨v, H', I3, rv, ev, q3⟩ := I2.after hq'
      subst ev
      exact ⟨rv, ⟨V.ref (s1.heap.objs.size + 1), H', I3, rfl, q3⟩⟩
    | next => exact False.elim hq'
    | brk => exact False.elim hq'
    | cont => exact False.elim hq'
end
/-! ### the errors' __init__ -/
def spErr (K : PySem.W.Frag) : Sp := fun vs H Q _ => ∃ (a C : Addr) (v : V), vs = [.ref a, v] ∧ OexC K C ∧ PySem.W.findIn K (.ref C) "value" = some none ∧ H a = some (exo a C none) ∧
  ∀ dx, H dx = none → dx ≠ a → Q .non (upd (upd H dx (exd dx [(("value" : Str), v)])) a (exo a C (some dx)))
section
variable {P : Program} {w : World} {K : PySem.W.Frag} {mg : Str → Option Value} {base : Heap}
theorem scErr : FnScope ["self", "value"] ["self", "value"] (defScope sErr) := ⟨rfl, rfl, rfl, by decide +kernel, rfl, by decide +kernel, by decide +kernel⟩
theorem ok_err {f : Addr} {fd : FuncData} (F : Fun K "__init__" "DueError.__init__" sErr f fd) : FnOk P w K mg base CX0 1 f fd ["self", "value"] (spErr K) := by
  refine F.ok scErr (fun vs H Q E h => ?_) (fun cdv A outer s H vs Q E hr h => ?_)
  · obtain ⟨a, C, v, rfl, _⟩ := h
    rfl
  · obtain ⟨a, C, v, rfl, ox, nv, ha, k⟩ := h
    refine ⟨_, pss_one (ps_ost (pv 0) (pv 1)), ?_⟩
    exact ⟨_, rfl, _, rfl, a, C, rfl, ox, nv, .inl ⟨ha, fun dx nd ne => k dx nd ne⟩⟩
end
/-- an error is made: what its raising asks -/
theorem err_made {K : PySem.W.Frag} {C a : Addr} {v : V} {H1 : Hp} {Q : XK} {E : XK} (ox : OexC K C) (nv : PySem.W.findIn K (.ref C) "value" = some none) (na : H1 a = none)
    (k : ∀ (d : Addr) (H' : Hp), Same H1 H' → H1 d = none → H' d = some (.xd [(("value" : Str), v)]) → Q (.ref C) (some d) H') :
    spErr K [.ref a, v] (upd H1 a (exo a C none)) (fun v H2 => v = .non ∧ ∃ (d : Addr) (fs : List (Str × V)), H2 a = some (exo a C (some d)) ∧ H2 d = some (exd d fs) ∧ H1 d = none ∧ Q (.ref C) (some d) (upd (del H2 a) d (.xd fs))) E := by
  refine ⟨a, C, v, rfl, ox, nv, upd_same, fun dx nd ne => ⟨rfl, dx, [(("value" : Str), v)], upd_same, ?_, ?_, ?_⟩⟩
  · rw [upd_ne ne]
    exact upd_same
  · rw [upd_ne ne] at nd
    exact nd
  · have nd' : H1 dx = none := by
      rw [upd_ne ne] at nd
      exact nd
    refine k dx _ (fun b o e => ?_) nd' upd_same
    have b1 : b ≠ dx := ne_of_none e nd'
    have b2 : b ≠ a := ne_of_none e na
    rw [upd_ne b1, del_ne b2, upd_ne b2, upd_ne b1, upd_ne b2]
    exact e

/-! ### the constructor that may raise -/
def okS (v : Int) : Prop := 0 ≤ v ∧ v ≤ 3
def WrongS (xs : List Int) (k v : Int) : Prop :=
  (k = 0 ∧ v = xs.length ∧ ¬ (1 ≤ xs.length ∧ xs.length ≤ 12)) ∨
  ((1 ≤ xs.length ∧ xs.length ≤ 12) ∧ k = 1 ∧ ∃ i : Nat, v = i ∧ ∃ x, xs[i]? = some x ∧ ¬ okS x ∧ ∀ (j : Nat) (y : Int), j < i → xs[j]? = some y → okS y) ∨
  ((1 ≤ xs.length ∧ xs.length ≤ 12) ∧ (∀ x ∈ xs, okS x) ∧ k = 2 ∧ v = 0 ∧ ∀ x ∈ xs, x = 0)
def BadM (ms : List (Int × Int)) (i : Nat) : Prop := ∃ m, ms[i]? = some m ∧ (¬ okS m.2 ∨ ∃ (j : Nat) (m' : Int × Int), i = j + 1 ∧ ms[j]? = some m' ∧ m.1 ≤ m'.1)
def WrongC (ms : List (Int × Int)) (v : Int) : Prop := ∃ i : Nat, v = i ∧ BadM ms i ∧ ∀ j : Nat, j < i → ¬ BadM ms j
def Wrong (xs : List Int) (ms : List (Int × Int)) (k v : Int) : Prop := WrongS xs k v ∨ (Paces xs ∧ k = 3 ∧ WrongC ms v)
theorem fit_of {ms : List (Int × Int)} (len : ms.length ≤ 1000) (h : ∀ i, ¬ BadM ms i) : Fit ms := by
  refine ⟨?_, fun m hm => ?_, len⟩
  · have step : ∀ (i : Nat) (h1 : i + 1 < ms.length), ms[i].1 < ms[i + 1].1 := fun i h1 => by
      rcases Int.lt_or_le ms[i].1 ms[i + 1].1 with c | c
      · exact c
      · exact absurd ⟨_, List.getElem?_eq_getElem h1, .inr ⟨i, _, rfl, List.getElem?_eq_getElem (by omega), c⟩⟩ (h (i + 1))
    have far : ∀ (d i : Nat) (h1 : i + d + 1 < ms.length), ms[i].1 < ms[i + d + 1].1 := by
      intro d
      induction d with
      | zero => intro i h1; exact step i h1
      | succ d ih =>
        intro i h1
        have a := ih i (by omega)
        have b := step (i + d + 1) (by omega)
        have e : ms[i + (d + 1) + 1] = ms[i + d + 1 + 1] := rfl
        rw [e]
        omega
    rw [List.pairwise_iff_getElem]
    intro i j hi hj lt
    obtain ⟨d, rfl⟩ : ∃ d, j = i + d + 1 := ⟨j - i - 1, by omega⟩
    exact far d i hj
  · obtain ⟨i, hi, rfl⟩ := List.getElem_of_mem hm
    rcases Classical.em (okS ms[i].2) with c | c
    · exact c
    · exact absurd ⟨_, List.getElem?_eq_getElem hi, .inl c⟩ (h i)
/-- the classes by their numbers -/
def cl4 (CW CS CN CC : Addr) (k : Int) : Addr := if k = 0 then CW else if k = 1 then CS else if k = 2 then CN else CC
structure Errs (K : PySem.W.Frag) (mg : Str → Option Value) (CW CS CN CC fI : Addr) : Prop where
  eW : ErrC K CW fI
  eS : ErrC K CS fI
  eN : ErrC K CN fI
  eC : ErrC K CC fI
  gW : mg "InvalidWeek" = some (.ref CW)
  gS : mg "InvalidSpeed" = some (.ref CS)
  gN : mg "NeverOpen" = some (.ref CN)
  gC : mg "InvalidChange" = some (.ref CC)
  tI : PySem.W.typeIn K (.ref fI) = some (.type "function")
/-- what an error that is raised leaves: its own dict with the value, at a new place -/
def Rais (H : Hp) (E : XK) (C : Addr) (v : V) : Prop := ∀ (d : Addr) (H' : Hp), Same H H' → H d = none → H' d = some (.xd [(("value" : Str), v)]) → E (.ref C) (some d) H'
theorem Rais.same {H J : Hp} {E : XK} {C : Addr} {v : V} (h : Rais H E C v) (s : Same H J) : Rais J E C v := fun d H' s' nd hd => h d H' (s.trans s') (s.free nd) hd
def spChkSX (K : PySem.W.Frag) (CW CS CN CC : Addr) : Sp := fun vs H Q E => ∃ (a : Addr) (xs : List Int), vs = [.ref a] ∧ SqL K H a (xs.map V.int) ∧ (∀ k v, WrongS xs k v → Rais H E (cl4 CW CS CN CC k) (.int v)) ∧ (Paces xs → ∀ H', Same H H' → Q .non H')
def spChkCX (K : PySem.W.Frag) (CC : Addr) : Sp := fun vs H Q E => ∃ (a : Addr) (ts : List Addr) (ms : List (Int × Int)), vs = [.ref a] ∧ SqL K H a (ts.map V.ref) ∧ Tups H ts ms ∧ ms.length ≤ 1000 ∧ (∀ v, WrongC ms v → Rais H E CC (.int v)) ∧ (Fit ms → ∀ H', Same H H' → Q .non H')
def spInitX (C CW CS CN CC : Addr) (K : PySem.W.Frag) : Sp := fun vs H Q E => ∃ (x dx a b : Addr) (ps : List Int) (ts : List Addr) (ms : List (Int × Int)), vs = [.ref x, .ref a, .ref b] ∧ H x = some (.ins C dx []) ∧
  SqL K H a (ps.map V.int) ∧ SqL K H b (ts.map V.ref) ∧ Tups H ts ms ∧ ms.length ≤ 1000 ∧ a ≠ x ∧ b ≠ x ∧ (∀ k v, Wrong ps ms k v → Rais H E (cl4 CW CS CN CC k) (.int v)) ∧
  (Paces ps → Fit ms → ∀ H' l d, CalAt C H' x l d ps (realOf ps ms) → H l = none → H d = none → (∀ c o, H c = some o → c ≠ x → H' c = some o) → Q .non H')
def spChkWX (CW : Addr) : Sp := fun vs H Q E => ∃ n : Int, vs = [.int n] ∧ (¬ (1 ≤ n ∧ n ≤ 12) → Rais H E CW (.int n)) ∧ (1 ≤ n → n ≤ 12 → Q .non H)
structure AtX (P : Program) (w : World) (K : PySem.W.Frag) (mg : Str → Option Value) (base : Heap) (k : Nat) (x : Str) (ps : List Str) (sp : Sp) (f : Addr) (fd : FuncData) : Prop where
  ok : FnOk P w K mg base (L2.CX P w) k f fd ps sp
  at_ : mg x = some (.ref f)
  kp : PySem.W.keepIn K (.ref f) = true
  bi : Binds K fd ps []
section
variable {P : Program} {w : World} {K : PySem.W.Frag} {mg : Str → Option Value} {base : Heap}
theorem behind_lt {ms : List (Int × Int)} {j : Nat} {m m' : Int × Int} (hm : ms[j + 1]? = some m) (hm' : ms[j]? = some m') (h : behind ms (j + 1) = true) : m'.1 < m.1 := by
  unfold behind at h
  simp only [Nat.add_sub_cancel] at h
  rw [List.getD_eq_getElem?_getD, List.getD_eq_getElem?_getD, hm, hm'] at h
  simpa using h
theorem behind_bad {ms : List (Int × Int)} {i : Nat} {m : Int × Int} (hm : ms[i]? = some m) (h : behind ms i = false) : ∃ j m', i = j + 1 ∧ ms[j]? = some m' ∧ m.1 ≤ m'.1 := by
  cases i with
  | zero => cases h
  | succ j =>
    have hi := (List.getElem?_eq_some_iff.mp hm).1
    have hj : j < ms.length := by omega
    refine ⟨j, ms[j], rfl, List.getElem?_eq_getElem hj, ?_⟩
    unfold behind at h
    simp only [Nat.add_sub_cancel] at h
    rw [List.getD_eq_getElem?_getD, List.getD_eq_getElem?_getD, hm, List.getElem?_eq_getElem hj] at h
    simpa using h
theorem ok_chkWX {f fE CW CS CN CC : Addr} {fd dE : FuncData} (F : Fun K "check_week" "check_week" sChkWeek f fd) (C : Con mg) (R : Errs K mg CW CS CN CC fE) (F1 : FnOk P w K mg base CX0 1 fE dE ["self", "value"] (spErr K)) (b1 : Binds K dE ["self", "value"] []) :
    FnOk P w K mg base (L2.CX P w) 3 f fd ["number"] (spChkWX CW) := by
  refine F.okX scChkW (fun vs H Q E h => ?_) (fun cdv A outer s H vs Q E hr h => ?_)
  · obtain ⟨n, rfl, _⟩ := h
    rfl
  · obtain ⟨n, rfl, kw, k⟩ := h
    obtain ⟨t, ht⟩ := C.gw
    refine ⟨_, pss_one (ps_if (pt_not (pt_chain op_le op_le pe_int (pv 0) (pe_glob (v := .int 12) (by rfl) ht ⟨t, rfl⟩)))
          (pss_one (ps_raise rfl (takes_of rfl rfl rfl rfl) (pmk_oex R.eW.ox R.eW.iC R.tI F1 hr b1 .nil pass0 (by rfl) R.gW (pa_cons (pv 0) pa_nil)))) pss_nil), ?_⟩
    refine ⟨_, rfl, _, _, rfl, rfl, _, rfl, ite2 (fun g => ?_) (fun g => ?_)⟩
    rotate_left
    · have g : ¬ (1 : Int) ≤ n := fun z => g (decide_eq_true z)
      refine ⟨_, rfl, ite2 (fun _ => ?_) (fun z => absurd (show (!false) = true from rfl) z)⟩
      exact ⟨_, rfl, (by show 1 ≤ 1000; decide), fun a' na => err_made R.eW.ox R.eW.noV na fun d H' s nd hd => kw (by omega) d H' s nd hd⟩
    have g : (1 : Int) ≤ n := of_decide_eq_true g
    refine ⟨_, _, rfl, rfl, _, rfl, ite2 (fun g2 => ?_) (fun g2 => ?_)⟩
    · have g2 : ¬ n ≤ 12 := fun z => by
        rw [decide_eq_true z] at g2
        exact absurd g2 (by decide)
      exact ⟨_, rfl, (by show 1 ≤ 1000; decide), fun a' na => err_made R.eW.ox R.eW.noV na fun d H' s nd hd => kw (by omega) d H' s nd hd⟩
    have g2 : n ≤ 12 := by
      rcases Classical.em (n ≤ 12) with z | z
      · exact z
      · rw [decide_eq_false z] at g2
        exact absurd rfl g2
    exact k g g2
theorem ok_chkSX {f fI fE fW CW CS CN CC : Addr} {fd fdI dE dW : FuncData} (F : Fun K "check_speeds" "check_speeds" sChkSpeeds f fd) (C : Con mg) (T : Blt mg) (I : At P w K mg base 1 "is_speed" ["number"] spIsSpeed fI fdI)
    (W : AtX P w K mg base 3 "check_week" ["number"] (spChkWX CW) fW dW) (R : Errs K mg CW CS CN CC fE) (F1 : FnOk P w K mg base CX0 1 fE dE ["self", "value"] (spErr K)) (b1 : Binds K dE ["self", "value"] []) :
    FnOk P w K mg base (L2.CX P w) 4 f fd ["speeds"] (spChkSX K CW CS CN CC) := by
  refine F.okX scChkS (fun vs H Q E h => ?_) (fun cdv A outer s H vs Q E hr h => ?_)
  · obtain ⟨a, xs, rfl, _⟩ := h
    rfl
  · obtain ⟨a, xs, rfl, hS, kw, k⟩ := h
    have hr1 : Room 1 _ := hr.mono (by decide)
    have hr2 : Room 2 _ := hr.mono (by decide)
    refine ⟨_, pss_cons (ps_expr (pe_callS W.ok hr (by rfl) W.at_ W.kp W.bi (fun σ => passAt (W := fun cls d _ H => E cls d H) (takes_of rfl rfl rfl rfl) σ) (pa_cons (pe_callB call_len_seq (by rfl) T.len PySem.boot_len (pa_cons (pv 0) pa_nil)) pa_nil)))
      (pss_cons (ps_for (passes_of rfl) rfl (pi_enum (by rfl) C.enum (pa_cons (pv 0) pa_nil)) (pg_tup rfl (pgs_cons (pg_name (i := 1) scChkS.nd rfl (.inl rfl)) (pgs_cons (pg_name (i := 2) scChkS.nd rfl (.inl rfl)) pgs_nil)))
        (pss_one (ps_if (pt_not (pt_val (pe_call I.ok hr1 (by rfl) I.at_ I.kp I.bi .nil pass0 (pa_cons (pv 2) pa_nil))))
          (pss_one (ps_raise rfl (takes_of rfl rfl rfl rfl) (pmk_oex R.eS.ox R.eS.iC R.tI F1 hr2 b1 .nil pass0 (by rfl) R.gS (pa_cons (pv 1) pa_nil)))) pss_nil)))
      (pss_one (ps_if (pt_cmpR op_eq (pe_callB (cr_max rfl) (by rfl) T.max (by decide +kernel) (pa_cons (pv 0) pa_nil)) pe_int (nomark _))
        (pss_one (ps_raise rfl (takes_of rfl rfl rfl rfl) (pmk_oex R.eN.ox R.eN.iC R.tI F1 hr2 b1 .nil pass0 (by rfl) R.gN (pa_cons pe_int pa_nil)))) pss_nil))), ?_⟩
    have hlen : (((xs.map V.int).length : Nat) : Int) = xs.length := by rw [List.length_map]
    refine ⟨_, rfl, a, _, rfl, .inl hS, ⟨_, rfl, fun g => ?_, fun g g2 => ?_⟩⟩
    · rw [hlen] at g ⊢
      exact kw 0 _ (.inl ⟨rfl, rfl, by omega⟩)
    rw [hlen] at g g2
    have len : 1 ≤ xs.length ∧ xs.length ≤ 12 := by omega
    clear g g2
    refine ⟨_, rfl, a, _, rfl, hS, for_it (walk_enum (K := K) (a := a) (xs := xs.map V.int)) (fun i σ J => ∃ y1 y2 : Option V, σ = [some (.ref a), y1, y2] ∧ Same H J ∧ ∀ (j : Nat) (y : Int), j < i → xs[j]? = some y → okS y) ⟨none, none, rfl, Same.refl H, fun j y h => absurd h (Nat.not_lt_zero j)⟩ (fun i σ J _ ⟨_, _, _, g, _⟩ => g.seq hS) ?_ ?_⟩
    · rintro i x σ J J' hi ⟨y1, y2, rfl, hs, dn⟩ ⟨T', x1, x2, rfl, nT, rfl, e1, e2⟩
      obtain rfl := Option.some.inj e1
      have hi' : i < xs.length := by simpa using hi
      replace e2 : (List.map _ _)[i]? = some x2 := e2
      rw [List.getElem?_map, List.getElem?_eq_getElem hi'] at e2
      obtain rfl := Option.some.inj e2
      have s2 := hs.trans (same_new (o := .tup [.int (i : Nat), .int xs[i]]) nT)
      refine ⟨T', _, rfl, .inl (.inl upd_same), rfl, _, _, rfl, _, [], rfl, rfl, ?_⟩
      refine ⟨_, rfl, _, rfl, _, rfl, ite2 (fun c => ?_) (fun c => ?_)⟩
      · have c : ¬ okS xs[i] := fun z => by
          have z : 0 ≤ xs[i] ∧ xs[i] ≤ 3 := z
          rw [decide_eq_true z] at c
          exact absurd c (by decide)
        refine ⟨_, rfl, (by show 1 ≤ 1000; decide), fun a' na => err_made R.eS.ox R.eS.noV na fun d H' s nd hd => ?_⟩
        exact ((kw 1 _ (.inr (.inl ⟨len, rfl, i, rfl, _, List.getElem?_eq_getElem hi', c, dn⟩))).same s2) d H' s nd hd
      · have c : okS xs[i] := by
          show 0 ≤ xs[i] ∧ xs[i] ≤ 3
          rcases Classical.em (0 ≤ xs[i] ∧ xs[i] ≤ 3) with z | z
          · exact z
          · rw [decide_eq_false z] at c
            exact absurd rfl c
        refine ⟨_, _, rfl, s2, fun j y hj e => ?_⟩
        rcases Nat.lt_or_ge j i with q | q
        · exact dn j y q e
        · have : j = i := by omega
          subst this
          rw [List.getElem?_eq_getElem hi'] at e
          obtain rfl := Option.some.inj e
          exact c
    · rintro σ J ⟨y1, y2, rfl, hs, dn⟩
      have all : ∀ x ∈ xs, okS x := fun x hx => by
        obtain ⟨j, hj, rfl⟩ := List.getElem_of_mem hx
        exact dn j _ (by rw [List.length_map]; exact hj) (List.getElem?_eq_getElem hj)
      refine ⟨_, rfl, a, xs, rfl, hs.seq hS, by omega, fun m hm hmax => ⟨rfl, _, rfl, ite2 (fun g => ?_) (fun g => ?_)⟩⟩
      · have g : m = 0 := by
          have := of_decide_eq_true g
          injection this
        refine ⟨(by show 1 ≤ 1000; decide), fun a' na => err_made R.eN.ox R.eN.noV na fun d H' s nd hd => ?_⟩
        exact ((kw 2 0 (.inr (.inr ⟨len, all, rfl, rfl, fun x hx => by
          have := hmax x hx
          have := (all x hx).1
          omega⟩))).same hs) d H' s nd hd
      · have g : m ≠ 0 := fun z => g (decide_eq_true (by rw [z]))
        exact k ⟨all, ⟨m, hm, g⟩, by omega, by omega⟩ J hs
theorem ok_chkCX {f fI fE fB CW CS CN CC : Addr} {fd fdI dE dB : FuncData} (F : Fun K "check_changes" "check_changes" sChkChanges f fd) (C : Con mg) (T : Blt mg) (I : At P w K mg base 1 "is_speed" ["number"] spIsSpeed fI fdI)
    (Bh : At P w K mg base 1 "is_behind" ["changes", "index"] (spBehind K) fB dB) (R : Errs K mg CW CS CN CC fE) (F1 : FnOk P w K mg base CX0 1 fE dE ["self", "value"] (spErr K)) (b1 : Binds K dE ["self", "value"] []) :
    FnOk P w K mg base (L2.CX P w) 4 f fd ["changes"] (spChkCX K CC) := by
  refine F.okX scChkC (fun vs H Q E h => ?_) (fun cdv A outer s H vs Q E hr h => ?_)
  · obtain ⟨a, ts, ms, rfl, _⟩ := h
    rfl
  · obtain ⟨a, ts, ms, rfl, hS, tp, ml, kw, k⟩ := h
    have hr1 : Room 1 _ := hr.mono (by decide)
    have hr2 : Room 2 _ := hr.mono (by decide)
    refine ⟨_, pss_one (ps_for (passes_of rfl) rfl (pi_enum (by rfl) C.enum (pa_cons (pv 0) pa_nil))
        (pg_tup rfl (pgs_cons (pg_name (i := 1) scChkC.nd rfl (.inl rfl)) (pgs_cons (pg_tup rfl (pgs_cons (pg_name (i := 2) scChkC.nd rfl (.inl rfl)) (pgs_cons (pg_name (i := 3) scChkC.nd rfl (.inl rfl)) pgs_nil))) pgs_nil)))
        (pss_one (ps_if (PW.pt (pw_or (pt_not (pt_val (pe_call I.ok hr1 (by rfl) I.at_ I.kp I.bi .nil pass0 (pa_cons (pv 3) pa_nil))))
          (pw_or1 (pt_not (pt_val (pe_call Bh.ok hr1 (by rfl) Bh.at_ Bh.kp Bh.bi .nil pass0 (pa_cons (pv 0) (pa_cons (pv 1) pa_nil))))))))
          (pss_one (ps_raise rfl (takes_of rfl rfl rfl rfl) (pmk_oex R.eC.ox R.eC.iC R.tI F1 hr2 b1 .nil pass0 (by rfl) R.gC (pa_cons (pv 1) pa_nil)))) pss_nil))), ?_⟩
    have tl := tp.len
    refine ⟨_, rfl, a, _, rfl, hS, for_it (walk_enum (K := K) (a := a) (xs := ts.map V.ref)) (fun i σ J => ∃ y1 y2 y3 : Option V, σ = [some (.ref a), y1, y2, y3] ∧ Same H J ∧ ∀ j : Nat, j < i → ¬ BadM ms j) ⟨none, none, none, rfl, Same.refl H, fun j h => absurd h (Nat.not_lt_zero j)⟩ (fun i σ J _ ⟨_, _, _, _, g, _⟩ => g.seq hS) ?_ ?_⟩
    · rintro i x σ J J' hi ⟨y1, y2, y3, rfl, hs, dn⟩ ⟨T', x1, x2, rfl, nT, rfl, e1, e2⟩
      obtain rfl := Option.some.inj e1
      have hi' : i < ts.length := by simpa using hi
      replace e2 : (List.map _ _)[i]? = some x2 := e2
      rw [List.getElem?_map, List.getElem?_eq_getElem hi'] at e2
      obtain rfl := Option.some.inj e2
      have s2 := hs.trans (same_new (o := .tup [.int (i : Nat), .ref ts[i]]) nT)
      obtain ⟨m, hm, hm2⟩ := (tp.same s2).get (List.getElem?_eq_getElem hi')
      have bad : BadM ms i → Rais (upd J T' (.tup [.int (i : Nat), .ref ts[i]])) E CC (.int (i : Nat)) := fun b => (kw _ ⟨i, rfl, b, dn⟩).same s2
      have more : ¬ BadM ms i → ∀ j : Nat, j < i + 1 → ¬ BadM ms j := fun b j hj => by
        rcases Nat.lt_or_ge j i with q | q
        · exact dn j q
        · have : j = i := by omega
          subst this
          exact b
      refine ⟨T', _, rfl, .inl (.inl upd_same), rfl, _, _, rfl, _, [], rfl, ⟨_, _, rfl, .inl (.inl hm2), rfl, _, _, rfl, _, [], rfl, rfl, rfl, ?_⟩⟩
      refine ⟨_, rfl, _, rfl, _, rfl, ?_⟩
      by_cases c : okS m.2
      · rw [decide_eq_true (show 0 ≤ m.2 ∧ m.2 ≤ 3 from c)]
        refine ⟨_, rfl, _, rfl, ⟨a, ts, ms, i, rfl, s2.seq hS, tp.same s2, by omega, ?_⟩⟩
        cases hb : behind ms i with
        | true =>
          refine ⟨_, rfl, _, _, _, rfl, s2, more fun b => ?_⟩
          obtain ⟨n, hn, q⟩ := b
          rw [hm] at hn
          obtain rfl := Option.some.inj hn
          rcases q with q | ⟨j', n', e, hn', q⟩
          · exact q c
          · subst e
            have z := behind_lt hm hn' hb
            omega
        | false =>
          obtain ⟨j, m', e, hm', g3⟩ := behind_bad hm hb
          exact ⟨_, rfl, _, rfl, (by show 1 ≤ 1000; decide), fun a' na => err_made R.eC.ox R.eC.noV na fun d H' s nd hd => bad ⟨m, hm, .inr ⟨j, m', e, hm', g3⟩⟩ d H' s nd hd⟩
      · rw [decide_eq_false (show ¬ (0 ≤ m.2 ∧ m.2 ≤ 3) from c)]
        exact ⟨_, rfl, (by show 1 ≤ 1000; decide), fun a' na => err_made R.eC.ox R.eC.noV na fun d H' s nd hd => bad ⟨m, hm, .inl c⟩ d H' s nd hd⟩
    · rintro σ J ⟨y1, y2, y3, rfl, hs, dn⟩
      refine k (fit_of ml fun i b => ?_) J hs
      rcases Nat.lt_or_ge i ts.length with q | q
      · exact dn i (by rw [List.length_map]; exact q) b
      · obtain ⟨m, hm, _⟩ := b
        rw [List.getElem?_eq_none (by omega)] at hm
        cases hm
theorem ok_initX {f fS fC C CW CS CN CC : Addr} {fd fdS fdC : FuncData} (F : Fun K "__init__" "Calendar.__init__" sInit f fd) (Z : Cal K mg C) (T : Blt mg)
    (S : AtX P w K mg base 4 "check_speeds" ["speeds"] (spChkSX K CW CS CN CC) fS fdS) (B : AtX P w K mg base 4 "check_changes" ["changes"] (spChkCX K CC) fC fdC) :
    FnOk P w K mg base (L2.CX P w) 5 f fd ["self", "speeds", "changes"] (spInitX C CW CS CN CC K) := by
  refine F.okX scInit (fun vs H Q E h => ?_) (fun cdv A outer s H vs Q E hr h => ?_)
  · obtain ⟨x, dx, a, b, ps, ts, ms, rfl, _⟩ := h
    rfl
  · obtain ⟨x, dx, a, b, ps, ts, ms, rfl, hx, ha, hb, tp, ml, ax, bx, kw, k⟩ := h
    refine ⟨_, pss_cons (ps_expr (pe_callS S.ok hr (by rfl) S.at_ S.kp S.bi (fun σ => passAt (W := fun cls d _ H => E cls d H) (takes_of rfl rfl rfl rfl) σ) (pa_cons (pv 1) pa_nil)))
      (pss_cons (ps_expr (pe_callS B.ok hr (by rfl) B.at_ B.kp B.bi (fun σ => passAt (W := fun cls d _ H => E cls d H) (takes_of rfl rfl rfl rfl) σ) (pa_cons (pv 2) pa_nil)))
      (pss_cons (ps_fld (pv 0) (pe_callTy call_list_of (by rfl) T.list (by decide +kernel) (pa_cons (pv 1) pa_nil)) rfl)
      (pss_one (ps_fld (pv 0) (pe_dc (own := [("moment", 3), ("speed", 4)]) (g := gTup K 2 (gCons (gName 3) (gCons (gName 4) gNil))) rfl scInit.nd (pi_list (pv 2)) (blkOk_by (N := ["self", "speeds", "changes", "moment", "speed"]) (sc := defScope sInit) (by decide +kernel))
        (fun _ _ _ _ _ => pg_tup rfl (pgs_cons (pg_name (i := 3) scInit.nd rfl (.inl rfl)) (pgs_cons (pg_name (i := 4) scInit.nd rfl (.inl rfl)) pgs_nil)))
        (fun _ _ _ _ _ => pts_one (pt_cmpR op_ne (pv 4) (pe_ix (r := rIxL K) ix_list (pv 1) (pe_op op_mod (pv 3) (pe_callB (r := rLen K) call_len_seq (by rfl) T.len PySem.boot_len (pa_cons (pv 1) pa_nil))) (fun _ _ => rfl)) (nomark _)))
        (fun _ _ _ _ _ => pv 3) (fun _ _ _ _ _ => pv 4)) rfl)))), ?_⟩
    refine ⟨_, rfl, a, ps, rfl, ha, fun k v hw => kw k v (.inl hw), fun hp H1 s1 => ?_⟩
    have l0 := hp.len0
    have l1 := hp.len1
    refine ⟨_, rfl, b, ts, ms, rfl, s1.seq hb, tp.same s1, ml, fun v hw => (kw 3 v (.inr ⟨hp, rfl, hw⟩)).same s1, fun fit H2 s2 => ?_⟩
    replace k := k hp fit
    have s12 := s1.trans s2
    refine ⟨_, rfl, a, _, rfl, .inl (s12.seq ha), fun l hl => ?_⟩
    have hx2 := s12 _ _ hx
    have xl : x ≠ l := ne_of_none hx2 hl
    refine ⟨_, rfl, x, C, dx, _, rfl, (by rw [upd_ne xl]; exact hx2), Z.cl, Z.nS, (by show 0 < 1000; decide), ?_⟩
    generalize hH3 : upd (upd H2 l (.lst (ps.map V.int))) x (.ins C dx (putF "_speeds" (.ref l) [])) = H3
    have f3 : ∀ c o, H c = some o → c ≠ x → H3 c = some o := fun c o e g => by
      have e2 := s12 _ _ e
      rw [← hH3, upd_ne g, upd_ne (ne_of_none e2 hl)]
      exact e2
    have sq : ∀ {c : Addr} {xs : List V}, c ≠ x → SqL K H c xs → SqL K H3 c xs := fun {c xs} g h => by
      rcases h with (h | ⟨o, h⟩) | h
      · exact .inl (.inl (f3 _ _ h g))
      · exact .inl (.inr ⟨o, f3 _ _ h g⟩)
      · exact .inr h
    have hx3 : H3 x = some (.ins C dx (putF "_speeds" (.ref l) [])) := by rw [← hH3]; exact upd_same
    have hl3 : H3 l = some (.lst (ps.map V.int)) := by rw [← hH3, upd_ne xl.symm]; exact upd_same
    have tp3 : Tups H3 ts ms := tp.imp fun t xs e => f3 _ _ e fun z => by
      rw [z, hx] at e
      cases e
    have tl := tp.len
    refine ⟨_, rfl, b, rfl, ⟨_, sq bx hb⟩, fun D hD => dc_it (walk_list (K := K) (a := b) (xs := ts.map V.ref)) (fun i J => J D = some (.dK ((realOf ps (ms.take i)).map kvP)) ∧ ∀ c o, H3 c = some o → J c = some o) ⟨upd_same, same_new hD⟩
      (fun i J _ h => (show Same H3 J from h.2).seq (sq bx hb)) ?_ ?_⟩
    · rintro i y J J' hi ⟨hJ, sJ⟩ ⟨rfl, hy⟩
      have hi' : i < ts.length := by simpa using hi
      rw [List.getElem?_map, List.getElem?_eq_getElem hi'] at hy
      obtain rfl := Option.some.inj hy
      obtain ⟨m, hm, hm2⟩ := (tp3.same (show Same H3 J' from sJ)).get (List.getElem?_eq_getElem hi')
      have et : ms.take (i + 1) = ms.take i ++ [m] := by rw [List.take_add_one, hm]; rfl
      refine ⟨_, _, rfl, .inl (.inl hm2), rfl, _, _, rfl, _, [], rfl, rfl, rfl, ?_⟩
      have hb' := sq ax ha
      have ha' : SqL K J' a (ps.map V.int) := (show Same H3 J' from sJ).seq hb'
      refine ⟨_, rfl, _, rfl, _, rfl, _, rfl, a, _, rfl, .inl ha', _, _, rfl, rfl, (by rw [List.length_map]; omega), a, _, _, _, rfl, rfl, ha', (by rw [List.length_map]; exact atI_pace l0), rfl, ?_⟩
      have ei : decide (V.int m.2 = V.int (paceOf ps m.1)) = decide (m.2 = paceOf ps m.1) := by
        rw [decide_eq_decide]
        exact ⟨fun e => by injection e, fun e => by rw [e]⟩
      rw [ei]
      by_cases hc : m.2 = paceOf ps m.1
      · rw [decide_eq_true hc]
        refine ⟨false, rfl, ?_, sJ⟩
        rw [et]
        unfold realOf
        rw [List.filter_append]
        have : List.filter (fun m => decide (m.2 ≠ paceOf ps m.1)) [m] = [] := by simp [hc]
        rw [this, List.append_nil]
        exact hJ
      · rw [decide_eq_false hc]
        have hr' : ((realOf ps (ms.take i)).map kvP).length < sizeLine := by
          rw [List.length_map]
          refine small1000 (Nat.le_trans (List.length_filter_le _ _) ?_)
          rw [List.length_take]
          have := fit.len
          omega
        have hv : valV ((realOf ps (ms.take i)).map kvP) (Sum.inl m.1 : Key) = none := by
          rw [valV_kvP, List.find?_eq_none.mpr]
          · rfl
          · intro m' hm' e'
            have h1 := (List.mem_filter.mp hm').1
            obtain ⟨j, hj, e⟩ := List.getElem_of_mem h1
            rw [List.length_take] at hj
            rw [List.getElem_take] at e
            have hi2 : i < ms.length := by omega
            have hlt := List.pairwise_iff_getElem.mp fit.asc j i (by omega) hi2 (by omega)
            rw [List.getElem?_eq_getElem hi2] at hm
            have := Option.some.inj hm
            have e3 : m'.1 = m.1 := by simpa using e'
            rw [e, this, e3] at hlt
            omega
        refine ⟨true, rfl, _, rfl, _, rfl, _, Sum.inl m.1, rfl, hJ, hr', ?_, fun c o e => ?_⟩
        · rw [upd_same, putK_new _ hv, et]
          unfold realOf
          rw [List.filter_append]
          have : List.filter (fun m => decide (m.2 ≠ paceOf ps m.1)) [m] = [m] := by simp [hc]
          rw [this, List.map_append]
          rfl
        · rw [upd_ne (ne_of_none e hD)]
          exact sJ c o e
    · rintro J ⟨hJ, sJ⟩
      rw [List.length_map, tl, List.take_length] at hJ
      refine ⟨_, rfl, x, C, dx, _, rfl, sJ _ _ hx3, Z.cl, Z.nC, (by show 1 < 1000; decide), ?_⟩
      have xD : x ≠ D := ne_of_none hx3 hD
      refine k _ l D ⟨⟨dx, upd_same⟩, ?_, ?_⟩ (s12.free hl) ?_ fun c o e g => ?_
      · rw [upd_ne xl.symm]
        exact sJ _ _ hl3
      · rw [upd_ne xD.symm]
        exact hJ
      · cases e : H D with
        | none => rfl
        | some o =>
          rw [f3 D o e (fun z => xD z.symm)] at hD
          cases hD
      · rw [upd_ne g]
        exact sJ _ _ (f3 c o e g)
end

/-! ### what the law draws -/
def Bnd (v : Int) : Prop := -10 ^ 32 < v ∧ v < 10 ^ 32
def spOdd : Sp := fun vs H Q _ => ∃ (p : Addr) (n : Nat), vs = [.ref p] ∧ Well H p n ∧ n ≤ 10 ^ 7 ∧ ∀ (r : Int) (H' : Hp), Bnd r → Fr p H H' → Well H' p (n + 3) → Q (.int r) H'
def spWeeksL : Sp := fun vs H Q _ => ∃ (p : Addr) (n : Nat), vs = [.ref p] ∧ Well H p n ∧ n ≤ 2 * 10 ^ 6 ∧
  ∀ (q : Addr) (xs : List Int) (H' : Hp), xs.length ≤ 20 → (∀ v ∈ xs, Bnd v) → H q = none → q ≠ p → H' q = some (.lst (xs.map V.int)) → Fr p H H' → Well H' p (n + 60) → Q (.ref q) H'
def spPrs : Sp := fun vs H Q _ => ∃ (p : Addr) (n : Nat), vs = [.ref p] ∧ Well H p n ∧ n ≤ 2 * 10 ^ 6 ∧
  ∀ (q : Addr) (ts : List Addr) (ms : List (Int × Int)) (H' : Hp), ms.length ≤ 3 → (∀ m ∈ ms, Bnd m.1 ∧ Bnd m.2) → H q = none → q ≠ p → H' q = some (.lst (ts.map V.ref)) → Tups H' ts ms → Fr p H H' → Well H' p (n + 60) → Q (.ref q) H'
theorem Fr.put {p q : Addr} {o : HO} {H J : Hp} (h : H q = none) (f : Fr p H J) : Fr p H (upd J q o) := fun b u e g => by
  rw [upd_ne (fun z => by rw [z, h] at e; cases e)]
  exact f b u e g
theorem free_fr {p c : Addr} {n : Nat} {H J : Hp} (f : Fr p H J) (wl : Well J p n) (e : J c = none) : H c = none ∧ c ≠ p := by
  have cp : c ≠ p := (wl.ne e).symm
  refine ⟨?_, cp⟩
  cases h : H c with
  | none => rfl
  | some o =>
    rw [f c o h cp] at e
    cases e
section
variable {P : Program} {w : World} {K : PySem.W.Frag} {mg : Str → Option Value} {base : Heap}
theorem scOdd : FnScope ["well", "sized"] ["well"] (defScope sOdd) := ⟨rfl, rfl, rfl, by decide +kernel, rfl, by decide +kernel, by decide +kernel⟩
theorem ok_odd {f fT : Addr} {fd fdT : FuncData} (F : Fun K "_law_odd" "_law_odd" sOdd f fd) (L : Tk P w K mg base fT fdT) : FnOk P w K mg base CX0 2 f fd ["well"] spOdd := by
  refine F.ok scOdd (fun vs H Q E h => ?_) (fun cdv A outer s H vs Q E hr h => ?_)
  · obtain ⟨p, n, rfl, _⟩ := h
    rfl
  · obtain ⟨p, n, rfl, hW, hn, k⟩ := h
    refine ⟨_, pss_cons (ps_set (i := 1) scOdd.nd rfl (.inl rfl) (pe_call L.ok hr (by rfl) L.at_ L.kp L.bi .nil pass0 (pa_cons (pv 0) (pa_cons (pe_ix ix_list (pe_lst (pa_cons pe_int (pa_cons (pe_op op_pow pe_int pe_int) (pa_cons (pe_op op_sub (pe_op op_pow pe_int pe_int) pe_int) pa_nil)))) (pe_call L.ok hr (by rfl) L.at_ L.kp L.bi .nil pass0 (pa_cons (pv 0) (pa_cons pe_int pa_nil))) (fun _ _ => rfl)) pa_nil))))
      (pss_cons (ps_if (pt_cmpR op_eq (pe_call L.ok hr (by rfl) L.at_ L.kp L.bi .nil pass0 (pa_cons (pv 0) (pa_cons pe_int pa_nil))) pe_int (nomark _))
        (pss_one (ps_ret (pe_op op_sub (pe_un un_neg pe_int) (pv 1))))
        pss_nil)
      (pss_one (ps_ret (pe_op op_add pe_int (pv 1))))), ?_⟩
    refine ⟨_, rfl, _, _, rfl, rfl, ⟨by decide, by decide, by decide⟩, _, _, rfl, rfl, ⟨by decide, by decide, by decide⟩, _, _, rfl, rfl, (by show 3 ≤ sizeLine; decide), fun l nl => ?_⟩
    have w0 := hW.new (o := .lst [.int 10, .int (10 ^ (15 : Int).toNat), .int (10 ^ (31 : Int).toNat - 10)]) nl
    have lp : l ≠ p := (hW.ne nl).symm
    refine ⟨_, rfl, ⟨_, _, _, rfl, w0, by omega, by decide, by decide, fun y H1 y0 y1 f1 w1 => ?_⟩⟩
    obtain ⟨v, hv, hv2, he⟩ := atI_ints (xs := [10, 10 ^ (15 : Int).toNat, 10 ^ (31 : Int).toNat - 10]) y0 y1
    have v0 : 0 < v ∧ v ≤ 10 ^ 31 := by
      simp only [List.mem_cons, List.not_mem_nil, or_false] at hv
      rcases hv with rfl | rfl | rfl <;> decide
    refine ⟨l, _, y, _, rfl, rfl, SqL.of (f1 _ _ upd_same lp), he, ⟨_, _, _, rfl, w1, by omega, v0.1, by omega, fun x H2 x0 x1 f2 w2 => ?_⟩⟩
    refine ⟨_, rfl, ⟨_, _, _, rfl, w2, by omega, by decide, by decide, fun u H3 u0 u1 f3 w3 => ⟨rfl, _, rfl, ?_⟩⟩⟩
    have f03 := ((Fr.new (p := p) (o := .lst [.int 10, .int (10 ^ (15 : Int).toNat), .int (10 ^ (31 : Int).toNat - 10)]) nl).trans f1).trans (f2.trans f3)
    refine ite2 (fun _ => ?_) (fun _ => ?_)
    · refine ⟨_, rfl, _, rfl, _, _, rfl, rfl, k _ H3 ?_ f03 (w3.mono (by omega))⟩
      exact ⟨by omega, by omega⟩
    · refine ⟨_, rfl, _, _, rfl, rfl, k _ H3 ?_ f03 (w3.mono (by omega))⟩
      exact ⟨by omega, by omega⟩
theorem scWeeksL : FnScope ["well", "way", "kind", "size", "turn", "found", "spot"] ["well"] (defScope sWeeksL) := ⟨rfl, rfl, rfl, by decide +kernel, rfl, by decide +kernel, by decide +kernel⟩
theorem ok_weeksL {f fT fO : Addr} {fd fdT dO : FuncData} (F : Fun K "_law_weeks" "_law_weeks" sWeeksL f fd) (T : Blt mg) (L : Tk P w K mg base fT fdT) (Od : At P w K mg base 2 "_law_odd" ["well"] spOdd fO dO) : FnOk P w K mg base CX0 3 f fd ["well"] spWeeksL := by
  refine F.ok scWeeksL (fun vs H Q E h => ?_) (fun cdv A outer s H vs Q E hr h => ?_)
  · obtain ⟨p, n, rfl, _⟩ := h
    rfl
  · obtain ⟨p, n, rfl, hW, hn, k⟩ := h
    have hr1 : Room 1 _ := hr.mono (by decide)
    refine ⟨_, pss_cons (ps_asg (pe_tup (pa_cons (pe_call L.ok hr1 (by rfl) L.at_ L.kp L.bi .nil pass0 (pa_cons (pv 0) (pa_cons pe_int pa_nil))) (pa_cons (pe_call L.ok hr1 (by rfl) L.at_ L.kp L.bi .nil pass0 (pa_cons (pv 0) (pa_cons pe_int pa_nil))) pa_nil))) (pg_tup rfl (pgs_cons (pg_name (i := 1) scWeeksL.nd rfl (.inl rfl)) (pgs_cons (pg_name (i := 2) scWeeksL.nd rfl (.inr rfl)) pgs_nil))))
      (pss_cons (ps_set (i := 3) scWeeksL.nd rfl (.inl rfl) (pe_op op_add (pe_call L.ok hr1 (by rfl) L.at_ L.kp L.bi .nil pass0 (pa_cons (pv 0) (pa_cons (pe_ix ix_list (pe_lst (pa_cons pe_int (pa_cons pe_int (pa_cons pe_int pa_nil)))) (pv 1) (fun _ _ => rfl)) pa_nil))) (pe_callTy call_int1 (by rfl) T.int (by decide +kernel) (pa_cons (pe_cmpR op_gt (pv 1) pe_int (nomark _)) pa_nil))))
      (pss_cons (ps_setLc (i := 5) (own := [("turn", 4)]) (g := gName 4) (tt := tYes) rfl scWeeksL.nd rfl rfl (sw_true rfl rfl rfl (by decide +kernel)) (pi_range1 (by rfl) T.range (pa_cons (pv 3) pa_nil))
          (blkOk_by (N := ["well", "way", "kind", "size", "turn", "found", "spot"]) (sc := defScope sWeeksL) (by decide +kernel)) (fun _ _ _ _ _ => pg_name (i := 4) scWeeksL.nd rfl (.inl rfl)) (fun _ _ _ _ _ => pts_nil)
          (fun _ _ _ _ _ => (pe_call L.ok hr1 (by rfl) L.at_ L.kp L.bi .nil pass0 (pa_cons (pv 0) (pa_cons (pe_ix (r := rIxL K) ix_list (pe_lst (pa_cons pe_int (pa_cons pe_int (pa_cons pe_int (pa_cons pe_int (pa_cons pe_int pa_nil)))))) (pv 2) (fun _ _ => rfl)) pa_nil)))))
      (pss_cons (ps_for PassesOwn.never rfl (pi_range1 (by rfl) T.range (pa_cons (pe_call L.ok hr1 (by rfl) L.at_ L.kp L.bi .nil pass0 (pa_cons (pv 0) (pa_cons pe_int pa_nil))) pa_nil)) (pg_name (i := 4) scWeeksL.nd rfl (.inl rfl))
        (pss_one (ps_if (pt_cmpR op_gt (pv 3) pe_int (nomark _))
          (pss_cons (ps_set (i := 6) scWeeksL.nd rfl (.inl rfl) (pe_call L.ok hr1 (by rfl) L.at_ L.kp L.bi .nil pass0 (pa_cons (pv 0) (pa_cons (pv 3) pa_nil))))
          (pss_one (ps_asg (pe_call Od.ok hr (by rfl) Od.at_ Od.kp Od.bi .nil pass0 (pa_cons (pv 0) pa_nil)) (pg_sub (pv 5) (pv 6) set_list))))
          pss_nil)))
      (pss_one (ps_ret (pv 5)))))), ?_⟩
    refine ⟨_, rfl, ⟨_, _, _, rfl, hW, by omega, by decide, by decide, fun way H1 v0 v1 f1 w1 => ?_⟩⟩
    refine ⟨_, rfl, ⟨_, _, _, rfl, w1, by omega, by decide, by decide, fun kd H2 k0 k1 f2 w2 => ?_⟩⟩
    refine ⟨(by show 2 ≤ sizeLine; decide), fun t0 nt0 => ⟨t0, _, rfl, .inl (.inl upd_same), rfl, _, _, rfl, _, [], rfl, rfl, ?_⟩⟩
    have w2' := w2.new (o := .tup [.int way, .int kd]) nt0
    have f02 : Fr p H _ := (f1.trans f2).trans (Fr.new (o := .tup [.int way, .int kd]) nt0)
    generalize upd H2 t0 (.tup [.int way, .int kd]) = H2' at w2' f02 ⊢
    refine ⟨_, rfl, (by show 3 ≤ sizeLine; decide), fun l nl => ⟨_, rfl, ?_⟩⟩
    have w3 := w2'.new (o := .lst [.int 21, .int 12, .int 4]) nl
    obtain ⟨v, hv, hv2, he⟩ := atI_ints (xs := [21, 12, 4]) v0 v1
    have vb : 0 < v ∧ v ≤ 21 ∧ (way > 0 → v ≤ 12) := by
      have hw : way = 0 ∨ way = 1 ∨ way = 2 := by omega
      rcases hw with rfl | rfl | rfl <;> cases hv2 <;> (refine ⟨by decide, by decide, fun _ => by omega⟩)
    refine ⟨l, _, way, _, rfl, rfl, SqL.of upd_same, he, ⟨_, _, _, rfl, w3, by omega, vb.1, by omega, fun z H3 z0 z1 f3 w3' => ?_⟩⟩
    refine ⟨_, rfl, _, _, rfl, rfl, .inr ⟨_, rfl, _, _, rfl, rfl, ?_⟩⟩
    have f03 := (f02.trans (Fr.new (o := .lst [.int 21, .int 12, .int 4]) nl)).trans f3
    have sz : 0 ≤ z + (if decide ((0 : Int) < way) = true then (1 : Int) else 0) ∧ z + (if decide ((0 : Int) < way) = true then (1 : Int) else 0) ≤ 20 := by
      split
      · rename_i g
        have g : (0 : Int) < way := of_decide_eq_true g
        have := vb.2.2 g
        omega
      · omega
    generalize (if decide ((0 : Int) < way) = true then (1 : Int) else 0) = u at sz ⊢
    obtain ⟨s0, s1⟩ := sz
    refine ⟨_, rfl, z + u, rfl, by omega, by omega, fun D hD => ?_⟩
    obtain ⟨nD, Dp⟩ := free_fr f03 w3' hD
    refine lc_range (lo := 0) (n := (z + u).toNat) (fun i J => ∃ xs : List Int, J D = some (.lst (xs.map V.int)) ∧ xs.length = i ∧ (∀ v ∈ xs, Bnd v) ∧ Fr p H J ∧ Well J p (n + 3 + i)) ⟨[], upd_same, rfl, fun v h => absurd h List.not_mem_nil, Fr.put nD f03, (w3'.new hD).mono (by omega)⟩ ?_ ?_
    · rintro i J hi ⟨xs, hJ, xl, xb, fJ, wJ⟩
      refine ⟨rfl, _, rfl, (by show 5 ≤ sizeLine; decide), fun l2 nl2 => ⟨_, rfl, ?_⟩⟩
      have wl := wJ.new (o := .lst [.int 4, .int 4, .int 4, .int 2, .int 1]) nl2
      obtain ⟨v, hv, hv2, he⟩ := atI_ints (xs := [4, 4, 4, 2, 1]) k0 k1
      have vb : 0 < v ∧ v ≤ 4 := by
        simp only [List.mem_cons, List.not_mem_nil, or_false] at hv
        rcases hv with rfl | rfl | rfl | rfl | rfl <;> decide
      have sl := same_new (o := .lst [.int 4, .int 4, .int 4, .int 2, .int 1]) nl2
      refine ⟨l2, _, kd, _, rfl, rfl, SqL.of upd_same, he, ⟨_, _, _, rfl, wl, by omega, vb.1, by omega, fun y J2 y0 y1 f2 w2 => ?_⟩⟩
      refine ⟨_, f2 _ _ (sl _ _ hJ) Dp, by rw [List.length_map, xl]; exact small1000 (by omega), xs ++ [y], ?_, by rw [List.length_append, xl]; rfl, fun v hv => ?_, ?_, ?_⟩
      · rw [upd_same, List.map_append]
        rfl
      · rcases List.mem_append.mp hv with g | g
        · exact xb v g
        · have := List.mem_singleton.mp g
          subst this
          exact ⟨by omega, by omega⟩
      · exact Fr.put nD ((fJ.trans (Fr.of sl)).trans f2)
      · exact (w2.upd_ne (Ne.symm Dp)).mono (by omega)
    · rintro J ⟨xs, hJ, xl, xb, fJ, wJ⟩
      refine ⟨_, rfl, ⟨_, _, _, rfl, wJ, by omega, by decide, by decide, fun many J1 m0 m1 f1' w1' => ?_⟩⟩
      refine ⟨many, rfl, by omega, by omega, for_range (lo := 0) (n := many.toNat) (fun i σ J => ∃ (y4 y6 : Option V) (xs : List Int), σ = [some (.ref p), some (.int way), some (.int kd), some (.int (z + u)), y4, some (.ref D), y6] ∧ J D = some (.lst (xs.map V.int)) ∧ xs.length = (z + u).toNat ∧ (∀ v ∈ xs, Bnd v) ∧ Fr p H J ∧ Well J p (n + 30 + 4 * i))
        ⟨_, _, xs, rfl, f1' _ _ hJ Dp, xl, xb, fJ.trans f1', w1'.mono (by omega)⟩ ?_ ?_⟩
      · rintro i σ J2 hi ⟨y4, y6, xs, rfl, hJ2, xl2, xb2, f2, w2⟩
        refine ⟨_, rfl, _, _, rfl, rfl, _, rfl, ite2 (fun g => ?_) (fun _ => ⟨_, _, xs, rfl, hJ2, xl2, xb2, f2, w2.mono (by omega)⟩)⟩
        have g : (0 : Int) < (z + u) := of_decide_eq_true g
        refine ⟨_, rfl, _, rfl, ⟨_, _, _, rfl, w2, by omega, by omega, by omega, fun y J3 y0 y1 f3 w3 => ?_⟩⟩
        refine ⟨_, rfl, ⟨_, _, rfl, w3, by omega, fun r J4 rb f4 w4 => ?_⟩⟩
        have h4 := f4 _ _ (f3 _ _ hJ2 Dp) Dp
        have hj : ixN (xs.map V.int).length y = some y.toNat := by
          unfold ixN
          rw [if_pos y0, if_pos (by rw [List.length_map]; omega)]
        refine ⟨_, rfl, _, rfl, D, _, y, y.toNat, rfl, rfl, h4, hj, ?_⟩
        refine ⟨_, _, xs.set y.toNat r, rfl, ?_, by rw [List.length_set]; exact xl2, fun v hv => ?_, Fr.put nD ((f2.trans f3).trans f4), (w4.upd_ne (Ne.symm Dp)).mono (by omega)⟩
        · rw [upd_same, List.map_set]
        · rcases List.mem_or_eq_of_mem_set hv with g | g
          · exact xb2 v g
          · rw [g]
            exact rb
      · rintro σ J2 ⟨y4, y6, xs, rfl, hJ2, xl2, xb2, f2, w2⟩
        exact ⟨_, rfl, k D xs J2 (by omega) xb2 nD Dp hJ2 f2 (w2.mono (by omega))⟩
end

instance (v : Int) : Decidable (okS v) := inferInstanceAs (Decidable (0 ≤ v ∧ v ≤ 3))
/-- how much is wrong -/
def nbad (xs : List Int) : Nat := (xs.filter fun v => !decide (okS v)).length
def Mu (xs : List Int) (ms : List (Int × Int)) : Nat := (if 1 ≤ xs.length ∧ xs.length ≤ 12 then 0 else 2) + nbad xs + (if ∀ v ∈ xs, v = 0 then 1 else 0) + ms.length
theorem nbad_app (xs ys : List Int) : nbad (xs ++ ys) = nbad xs + nbad ys := by
  unfold nbad
  rw [List.filter_append, List.length_append]
theorem nbad_zero {xs : List Int} (h : ∀ x ∈ xs, okS x) : nbad xs = 0 := by
  unfold nbad
  rw [List.length_eq_zero_iff, List.filter_eq_nil_iff]
  intro x hx
  rw [decide_eq_true (h x hx)]
  decide
theorem nbad_split {xs : List Int} {i : Nat} {x : Int} (h : xs[i]? = some x) : nbad xs = nbad (xs.take i) + (if okS x then 0 else 1) + nbad (xs.drop (i + 1)) := by
  obtain ⟨hi, rfl⟩ := List.getElem?_eq_some_iff.mp h
  have e : xs = xs.take i ++ ([xs[i]] ++ xs.drop (i + 1)) := by
    rw [List.singleton_append, ← List.drop_eq_getElem_cons hi, List.take_append_drop]
  conv => lhs; rw [e]
  rw [nbad_app, nbad_app]
  have : nbad [xs[i]] = if okS xs[i] then 0 else 1 := by
    unfold nbad
    by_cases c : okS xs[i]
    · rw [if_pos c, List.filter_cons_of_neg (by rw [decide_eq_true c]; decide)]
      rfl
    · rw [if_neg c, List.filter_cons_of_pos (by rw [decide_eq_false c]; decide)]
      rfl
  omega
theorem nbad_take (xs : List Int) (k : Nat) : nbad (xs.take k) ≤ nbad xs := by
  have e := nbad_app (xs.take k) (xs.drop k)
  rw [List.take_append_drop] at e
  omega
theorem nbad_le (xs : List Int) : nbad xs ≤ xs.length := List.length_filter_le _ _
theorem cut_suf (xs : List V) (k : Nat) : cutV xs (some (k : Int)) none = xs.drop k := by
  unfold cutV
  rw [HT.sIx_nat, HT.sIx_none]
  rcases Nat.le_total k xs.length with h | h
  · rw [Nat.min_eq_left h, ← List.length_drop, List.take_length]
  · rw [Nat.min_eq_right h, List.drop_eq_nil_of_le (Nat.le_refl _), List.drop_eq_nil_of_le h, List.take_nil]
theorem cut_pre2 (xs : List V) (k : Nat) : cutV xs none (some (k : Int)) = xs.take k := by
  unfold cutV
  rw [HT.sIx_nat, HT.sIx_none, Nat.sub_zero, List.drop_zero, List.take_eq_take_iff]
  omega
theorem cut_last (xs : List V) : cutV xs none (some (-1)) = xs.take (xs.length - 1) := by
  unfold cutV
  rw [HT.sIx_none, Nat.sub_zero, List.drop_zero, List.take_eq_take_iff]
  show min (if (-1 : Int) < 0 then ((-1 : Int) + (xs.length : Int)).toNat else min (-1 : Int).toNat xs.length) xs.length = _
  rw [if_pos (by decide)]
  omega
theorem Wrong.one {xs : List Int} {ms : List (Int × Int)} {k v k' v' : Int} (h : Wrong xs ms k v) (g : Wrong xs ms k' v') : k = k' ∧ v = v' := by
  have first : ∀ {i i' : Nat}, (BadM ms i ∧ ∀ j : Nat, j < i → ¬ BadM ms j) → (BadM ms i' ∧ ∀ j : Nat, j < i' → ¬ BadM ms j) → i = i' := fun {i i'} a b => by
    rcases Nat.lt_trichotomy i i' with c | c | c
    · exact absurd a.1 (b.2 i c)
    · exact c
    · exact absurd b.1 (a.2 i' c)
  have notP : ∀ {k v : Int}, WrongS xs k v → ¬ Paces xs := fun {k v} h p => by
    rcases h with ⟨_, _, q⟩ | ⟨_, _, i, _, x, e, b, _⟩ | ⟨_, _, _, _, z⟩
    · exact q ⟨p.len0, p.len1⟩
    · exact b (p.lo x (List.mem_of_getElem? e))
    · obtain ⟨u, hu, u0⟩ := p.pos
      exact u0 (z u hu)
  rcases h with h | ⟨p, rfl, i, rfl, a⟩
  · rcases g with g | ⟨p, _⟩
    · rcases h with ⟨rfl, rfl, q⟩ | ⟨l, rfl, i, rfl, x, e, b, c⟩ | ⟨l, al, rfl, rfl, z⟩ <;> rcases g with ⟨rfl, rfl, q'⟩ | ⟨l', rfl, i', rfl, x', e', b', c'⟩ | ⟨l', al', rfl, rfl, z'⟩
      · exact ⟨rfl, rfl⟩
      · exact absurd l' q
      · exact absurd l' q
      · exact absurd l q'
      · refine ⟨rfl, ?_⟩
        rcases Nat.lt_trichotomy i i' with d | d | d
        · exact absurd (c' i x d e) b
        · rw [d]
        · exact absurd (c i' x' d e') b'
      · exact absurd (al' x (List.mem_of_getElem? e)) b
      · exact absurd l q'
      · exact absurd (al x' (List.mem_of_getElem? e')) b'
      · exact ⟨rfl, rfl⟩
    · exact absurd p (notP h)
  · rcases g with g | ⟨_, rfl, i', rfl, a'⟩
    · exact absurd p (notP g)
    · exact ⟨rfl, by rw [first a a']⟩
theorem Wrong.not {xs : List Int} {ms : List (Int × Int)} {k v : Int} (h : Wrong xs ms k v) (p : Paces xs) (f : ∀ i, ¬ BadM ms i) : False := by
  rcases h with h | ⟨_, _, i, _, b, _⟩
  · rcases h with ⟨_, _, q⟩ | ⟨_, _, i, _, x, e, b, _⟩ | ⟨_, _, _, _, z⟩
    · exact q ⟨p.len0, p.len1⟩
    · exact b (p.lo x (List.mem_of_getElem? e))
    · obtain ⟨u, hu, u0⟩ := p.pos
      exact u0 (z u hu)
  · exact f i b
theorem Wrong.num {xs : List Int} {ms : List (Int × Int)} {k v : Int} (h : Wrong xs ms k v) (hx : xs.length ≤ 20) (hm : ms.length ≤ 3) : 0 ≤ k ∧ k ≤ 3 ∧ 0 ≤ v ∧ v ≤ 20 := by
  rcases h with h | ⟨_, rfl, i, rfl, ⟨m, e, _⟩, _⟩
  · rcases h with ⟨rfl, rfl, q⟩ | ⟨_, rfl, i, rfl, x, e, b, _⟩ | ⟨_, _, rfl, rfl, z⟩
    · omega
    · have := (List.getElem?_eq_some_iff.mp e).1
      omega
    · omega
  · have := (List.getElem?_eq_some_iff.mp e).1
    omega
def spPrsW : Sp := fun vs H Q _ => ∃ (a b : Addr) (xs : List Int) (ts : List Addr) (ms : List (Int × Int)), vs = [.ref a, .ref b] ∧ H a = some (.lst (xs.map V.int)) ∧ H b = some (.lst (ts.map V.ref)) ∧ Tups H ts ms ∧ xs.length ≤ 20 ∧ ms.length ≤ 3 ∧
  (∀ k v H' q, Wrong xs ms k v → Same H H' → H q = none → H' q = some (.lst [.int k, .int v]) → Q (.ref q) H') ∧ (Paces xs → Fit ms → Q .non H)
def spMended : Sp := fun vs H Q _ => ∃ (a b c : Addr) (xs : List Int) (ts : List Addr) (ms : List (Int × Int)) (k v : Int), vs = [.ref a, .ref b, .ref c] ∧ H a = some (.lst (xs.map V.int)) ∧ H b = some (.lst (ts.map V.ref)) ∧ Tups H ts ms ∧ H c = some (.lst [.int k, .int v]) ∧ xs.length ≤ 20 ∧ ms.length ≤ 3 ∧
  (∀ x ∈ xs, Bnd x) ∧ (∀ m ∈ ms, Bnd m.1 ∧ Bnd m.2) ∧ Wrong xs ms k v ∧
  ∀ (q a' b' : Addr) (xs' : List Int) (ts' : List Addr) (ms' : List (Int × Int)) (H' : Hp), Same H H' → H' q = some (.lst [.ref a', .ref b']) → H' a' = some (.lst (xs'.map V.int)) → H' b' = some (.lst (ts'.map V.ref)) → Tups H' ts' ms' → xs'.length ≤ 20 → ms'.length ≤ 3 →
    (∀ x ∈ xs', Bnd x) → (∀ m ∈ ms', Bnd m.1 ∧ Bnd m.2) → Mu xs' ms' + 1 ≤ Mu xs ms → (a' = a ∨ H a' = none) → (b' = b ∨ H b' = none) → Q (.ref q) H'
theorem Tups.take {H : Hp} : ∀ (k : Nat) {ts : List Addr} {ms : List (Int × Int)}, Tups H ts ms → Tups H (ts.take k) (ms.take k)
  | 0, ts, ms, _ => by
    rw [List.take_zero, List.take_zero]
    trivial
  | k + 1, [], [], _ => trivial
  | k + 1, t :: ts, m :: ms, h => ⟨h.1, Tups.take k h.2⟩
theorem Tups.drop {H : Hp} : ∀ (k : Nat) {ts : List Addr} {ms : List (Int × Int)}, Tups H ts ms → Tups H (ts.drop k) (ms.drop k)
  | 0, ts, ms, h => h
  | k + 1, [], [], _ => trivial
  | k + 1, t :: ts, m :: ms, h => Tups.drop k h.2
theorem Tups.app {H : Hp} : ∀ {ts us : List Addr} {ms ns : List (Int × Int)}, Tups H ts ms → Tups H us ns → Tups H (ts ++ us) (ms ++ ns)
  | [], _, [], _, _, h => h
  | _ :: _, _, _ :: _, _, g, h => ⟨g.1, Tups.app g.2 h⟩
section
variable {P : Program} {w : World} {K : PySem.W.Frag} {mg : Str → Option Value} {base : Heap}
theorem scPairsL : FnScope ["well", "found", "at", "turn", "pace"] ["well"] (defScope sPairsL) := ⟨rfl, rfl, rfl, by decide +kernel, rfl, by decide +kernel, by decide +kernel⟩
theorem ok_prs {f fT fN fO : Addr} {fd fdT dN dO : FuncData} (F : Fun K "_law_pairs" "_law_pairs" sPairsL f fd) (T : Blt mg) (L : Tk P w K mg base fT fdT) (B : Nb P w K mg base fN dN) (Od : At P w K mg base 2 "_law_odd" ["well"] spOdd fO dO) : FnOk P w K mg base CX0 3 f fd ["well"] spPrs := by
  refine F.ok scPairsL (fun vs H Q E h => ?_) (fun cdv A outer s H vs Q E hr h => ?_)
  · obtain ⟨p, n, rfl, _⟩ := h
    rfl
  · obtain ⟨p, n, rfl, hW, hn, k⟩ := h
    have hr1 : Room 1 _ := hr.mono (by decide)
    refine ⟨_, pss_cons (ps_set (i := 1) scPairsL.nd rfl (.inl rfl) (pe_lst pa_nil))
      (pss_cons (ps_set (i := 2) scPairsL.nd rfl (.inl rfl) (pe_call B.ok hr (by rfl) B.at_ B.kp B.bi .nil pass0 (pa_cons (pv 0) pa_nil)))
      (pss_cons (ps_for PassesOwn.never rfl (pi_range1 (by rfl) T.range (pa_cons (pe_call L.ok hr1 (by rfl) L.at_ L.kp L.bi .nil pass0 (pa_cons (pv 0) (pa_cons pe_int pa_nil))) pa_nil)) (pg_name (i := 3) scPairsL.nd rfl (.inl rfl))
        (pss_cons (ps_set (i := 4) scPairsL.nd rfl (.inl rfl) (pe_call L.ok hr1 (by rfl) L.at_ L.kp L.bi .nil pass0 (pa_cons (pv 0) (pa_cons pe_int pa_nil))))
        (C8.pss_cut (ps_if (pt_cmpR op_eq (pe_call L.ok hr1 (by rfl) L.at_ L.kp L.bi .nil pass0 (pa_cons (pv 0) (pa_cons pe_int pa_nil))) pe_int (nomark _))
          (pss_one (ps_set (i := 4) scPairsL.nd rfl (.inl rfl) (pe_call Od.ok hr (by rfl) Od.at_ Od.kp Od.bi .nil pass0 (pa_cons (pv 0) pa_nil))))
          pss_nil)
        (pss_cons (ps_expr (pe_bm PySem.F.plainAttrs_list PySem.F.slot_list_append PySem.F.type_list_append mt_append (pv 1) (pa_cons (pe_tup (pa_cons (pv 2) (pa_cons (pv 4) pa_nil))) pa_nil)))
        (pss_one (ps_set (i := 2) scPairsL.nd rfl (.inl rfl) (pe_op op_add (pv 2) (pe_ix ix_list (pe_lst (pa_cons pe_int (pa_cons pe_int (pa_cons pe_int (pa_cons (pe_un un_neg pe_int) (pa_cons pe_int (pa_cons pe_int pa_nil))))))) (pe_call L.ok hr1 (by rfl) L.at_ L.kp L.bi .nil pass0 (pa_cons (pv 0) (pa_cons pe_int pa_nil))) (fun _ _ => rfl)))))))))
      (pss_one (ps_ret (pv 1))))), ?_⟩
    refine ⟨Nat.zero_le _, fun D nD => ?_⟩
    have Dp : D ≠ p := (hW.ne nD).symm
    have w0 := hW.new (o := .lst []) nD
    refine ⟨_, rfl, ⟨p, _, rfl, w0, by omega, fun t0 H1 b0 b1 f1 w1 => ?_⟩⟩
    have f01 : Fr p H H1 := (Fr.new nD).trans f1
    have h1 := f1 _ _ upd_same Dp
    refine ⟨_, rfl, ⟨_, _, _, rfl, w1, by omega, by decide, by decide, fun many H2 m0 m1 f2 w2 => ?_⟩⟩
    refine ⟨many, rfl, by omega, by omega, for_range (lo := 0) (n := many.toNat) (fun i σ J => ∃ (y3 y4 : Option V) (ts : List Addr) (ms : List (Int × Int)) (t : Int), σ = [some (.ref p), some (.ref D), some (.int t), y3, y4] ∧ J D = some (.lst (ts.map V.ref)) ∧ Tups J ts ms ∧ ms.length = i ∧ (∀ m ∈ ms, Bnd m.1 ∧ Bnd m.2) ∧ -10 ^ 30 - 30 * (i : Int) < t ∧ t < 10 ^ 30 + 30 * (i : Int) ∧ Fr p H J ∧ Well J p (n + 6 + 10 * i))
      ⟨_, _, [], [], t0, rfl, f2 _ _ h1 Dp, trivial, rfl, fun m h => absurd h List.not_mem_nil, by omega, by omega, f01.trans f2, w2.mono (by omega)⟩ ?_ ?_⟩
    · rintro i σ J hi ⟨y3, y4, ts, ms, t, rfl, hJ, tp, ml, mb, t0', t1', fJ, wJ⟩
      refine ⟨_, rfl, ⟨_, _, _, rfl, wJ, by omega, by decide, by decide, fun pc J1 p0 p1 f1' w1' => ?_⟩⟩
      refine ⟨fun σ J' => ∃ pc : Int, σ = [some (.ref p), some (.ref D), some (.int t), some (.int (0 + i)), some (.int pc)] ∧ Bnd pc ∧ Fr p J J' ∧ Well J' p (n + 6 + 10 * i + 6), ?_, ?_⟩
      · refine ⟨_, rfl, ⟨_, _, _, rfl, w1', by omega, by decide, by decide, fun y J2 _ _ f2' w2' => ⟨rfl, _, rfl, ite2 (fun _ => ?_) (fun _ => ?_)⟩⟩⟩
        · refine ⟨_, rfl, ⟨_, _, rfl, w2', by omega, fun r J3 rb f3' w3' => ?_⟩⟩
          exact ⟨r, rfl, rb, (f1'.trans f2').trans f3', w3'.mono (by omega)⟩
        · exact ⟨pc, rfl, ⟨by omega, by omega⟩, f1'.trans f2', w2'.mono (by omega)⟩
      rintro σ J2 ⟨pc, rfl, pb, fJ2, w2'⟩
      have hJ2 := fJ2 _ _ hJ Dp
      have tp2 := tp.fr wJ fJ2
      have tl := tp2.len
      refine ⟨_, rfl, .inl ⟨rfl, _, SqL.of hJ2⟩, _, rfl, _, rfl, (by show 2 ≤ sizeLine; decide), fun u nu => ?_⟩
      have su := same_new (o := .tup [.int t, .int pc]) nu
      refine ⟨D, _, _, rfl, rfl, su _ _ hJ2, by rw [List.length_map]; exact small1000 (by omega), ?_⟩
      have hJ3 : (upd (upd J2 u (.tup [.int t, .int pc])) D (.lst (ts.map V.ref ++ [.ref u]))) D = some (.lst ((ts ++ [u]).map V.ref)) := by
        rw [upd_same, List.map_append]
        rfl
      have tp3 : Tups (upd (upd J2 u (.tup [.int t, .int pc])) D (.lst (ts.map V.ref ++ [.ref u]))) (ts ++ [u]) (ms ++ [(t, pc)]) := ((tp2.same su).snoc (m := (t, pc)) upd_same).put (su _ _ hJ2)
      have f3 : Fr p H (upd (upd J2 u (.tup [.int t, .int pc])) D (.lst (ts.map V.ref ++ [.ref u]))) := Fr.put nD ((fJ.trans fJ2).trans (Fr.of su))
      have w3 := (w2'.same su).upd_ne (o := .lst (ts.map V.ref ++ [.ref u])) (Ne.symm Dp)
      generalize (upd (upd J2 u (.tup [.int t, .int pc])) D (.lst (ts.map V.ref ++ [.ref u]))) = J3 at hJ3 tp3 f3 w3 ⊢
      refine ⟨_, rfl, _, rfl, (by show 6 ≤ sizeLine; decide), fun l nl => ⟨_, rfl, ?_⟩⟩
      have wl := w3.new (o := .lst [.int 1, .int 5, .int 0, .int (-2), .int 30, .int 2]) nl
      have sl := same_new (o := .lst [.int 1, .int 5, .int 0, .int (-2), .int 30, .int 2]) nl
      refine ⟨_, _, _, rfl, wl, by omega, by decide, by decide, fun y J4 y0 y1 f4 w4 => ?_⟩
      obtain ⟨v, hv, hv2, he⟩ := atI_ints (xs := [1, 5, 0, -2, 30, 2]) y0 y1
      have vb : -2 ≤ v ∧ v ≤ 30 := by
        simp only [List.mem_cons, List.not_mem_nil, or_false] at hv
        rcases hv with rfl | rfl | rfl | rfl | rfl | rfl <;> decide
      have f34 := (Fr.of (p := p) sl).trans f4
      refine ⟨l, _, y, _, rfl, rfl, SqL.of (f4 _ _ upd_same ((w3.ne nl).symm)), he, _, _, rfl, rfl, ?_⟩
      refine ⟨_, _, ts ++ [u], ms ++ [(t, pc)], t + v, rfl, f34 _ _ hJ3 Dp, tp3.fr w3 f34, by rw [List.length_append, ml]; rfl, fun m hm => ?_, by omega, by omega, f3.trans f34, w4.mono (by omega)⟩
      rcases List.mem_append.mp hm with g | g
      · exact mb m g
      · have := List.mem_singleton.mp g
        subst this
        exact ⟨⟨by show -10 ^ 32 < t; omega, by show t < 10 ^ 32; omega⟩, pb⟩
    · rintro σ J ⟨y3, y4, ts, ms, t, rfl, hJ, tp, ml, mb, t0', t1', fJ, wJ⟩
      exact ⟨_, rfl, k D ts ms J (by omega) mb nD Dp hJ tp fJ (wJ.mono (by omega))⟩
end

def flags (k : Int) : List Bool := (List.range 7).map fun (i : Nat) => decide ((i : Int) = k)
structure KitE (K : PySem.W.Frag) (CW CS CN CC CA CU CR CD : Addr) : Prop where
  kit : ∀ k : Int, 0 ≤ k → k ≤ 3 → PySem.W.kitOne K (.ref (cl4 CW CS CN CC k)) (.ref CW) = some (decide ((0 : Int) = k)) ∧ PySem.W.kitOne K (.ref (cl4 CW CS CN CC k)) (.ref CS) = some (decide ((1 : Int) = k)) ∧ PySem.W.kitOne K (.ref (cl4 CW CS CN CC k)) (.ref CN) = some (decide ((2 : Int) = k)) ∧
    PySem.W.kitOne K (.ref (cl4 CW CS CN CC k)) (.ref CC) = some (decide ((3 : Int) = k)) ∧ PySem.W.kitOne K (.ref (cl4 CW CS CN CC k)) (.ref CA) = some (decide ((4 : Int) = k)) ∧ PySem.W.kitOne K (.ref (cl4 CW CS CN CC k)) (.ref CU) = some (decide ((5 : Int) = k)) ∧ PySem.W.kitOne K (.ref (cl4 CW CS CN CC k)) (.ref CR) = some (decide ((6 : Int) = k)) ∧
    PySem.W.exmOne K (.ref (cl4 CW CS CN CC k)) (.ref CD) = some true
theorem Errs.at_ {K : PySem.W.Frag} {mg : Str → Option Value} {CW CS CN CC fI : Addr} (R : Errs K mg CW CS CN CC fI) (k : Int) : ErrC K (cl4 CW CS CN CC k) fI := by
  unfold cl4
  split
  · exact R.eW
  · split
    · exact R.eS
    · split
      · exact R.eN
      · exact R.eC
def spToldE : Sp := fun vs H Q _ => ∃ (a b : Addr) (xs : List Int) (ts : List Addr) (ms : List (Int × Int)), vs = [.ref a, .ref b] ∧ H a = some (.lst (xs.map V.int)) ∧ H b = some (.lst (ts.map V.ref)) ∧ Tups H ts ms ∧ xs.length ≤ 20 ∧ ms.length ≤ 3 ∧
  (∀ k v H' q q1, Wrong xs ms k v → Same H H' → H' q = some (.lst [.ref q1, .int v]) → H' q1 = some (.lst ((flags k).map V.bl)) → Q (.ref q) H') ∧
  (Paces xs → Fit ms → ∀ H' q q1 q2 us, Same H H' → H' q = some (.lst [.ref q1, .ref q2]) → H' q1 = some (.lst (xs.map V.int)) → H' q2 = some (.lst (us.map V.ref)) → Tups H' us (realOf xs ms) → Q (.ref q) H')
section
variable {P : Program} {w : World} {K : PySem.W.Frag} {mg : Str → Option Value} {base : Heap}
theorem scWrong : FnScope ["paces", "pairs", "spot"] ["paces", "pairs"] (defScope sWrong) := ⟨rfl, rfl, rfl, by decide +kernel, rfl, by decide +kernel, by decide +kernel⟩
theorem ok_wrong {f : Addr} {fd : FuncData} (F : Fun K "_law_wrong" "_law_wrong" sWrong f fd) (T : Blt mg) : FnOk P w K mg base CX0 1 f fd ["paces", "pairs"] spPrsW := by
  refine F.ok scWrong (fun vs H Q E h => ?_) (fun cdv A outer s H vs Q E hr h => ?_)
  · obtain ⟨a, b, xs, ts, ms, rfl, _⟩ := h
    rfl
  · obtain ⟨a, b, xs, ts, ms, rfl, ha, hb, tp, xl, ml, kw, kn⟩ := h
    refine ⟨_, pss_cons (ps_if (PW.pt (pw_or (pt_cmpR op_lt (pe_callB call_len_seq (by rfl) T.len PySem.boot_len (pa_cons (pv 0) pa_nil)) pe_int (nomark _)) (pw_or1 (pt_cmpR op_gt (pe_callB call_len_seq (by rfl) T.len PySem.boot_len (pa_cons (pv 0) pa_nil)) pe_int (nomark _)))))
        (pss_one (ps_ret (pe_lst (pa_cons pe_int (pa_cons (pe_callB call_len_seq (by rfl) T.len PySem.boot_len (pa_cons (pv 0) pa_nil)) pa_nil)))))
        pss_nil)
      (pss_cons (ps_for PassesOwn.never rfl (pi_range1 (by rfl) T.range (pa_cons (pe_callB call_len_seq (by rfl) T.len PySem.boot_len (pa_cons (pv 0) pa_nil)) pa_nil)) (pg_name (i := 2) scWrong.nd rfl (.inl rfl))
        (pss_one (ps_if (PW.pt (pw_or (pt_cmpR op_lt (pe_ix ix_list (pv 0) (pv 2) (fun _ _ => rfl)) pe_int (nomark _)) (pw_or1 (pt_cmpR op_gt (pe_ix ix_list (pv 0) (pv 2) (fun _ _ => rfl)) pe_int (nomark _)))))
          (pss_one (ps_ret (pe_lst (pa_cons pe_int (pa_cons (pv 2) pa_nil)))))
          pss_nil)))
      (pss_cons (ps_if (pt_cmpR op_eq (pe_callB (cr_max rfl) (by rfl) T.max (by decide +kernel) (pa_cons (pv 0) pa_nil)) pe_int (nomark _))
        (pss_one (ps_ret (pe_lst (pa_cons pe_int (pa_cons pe_int pa_nil)))))
        pss_nil)
      (pss_cons (ps_for PassesOwn.never rfl (pi_range1 (by rfl) T.range (pa_cons (pe_callB call_len_seq (by rfl) T.len PySem.boot_len (pa_cons (pv 1) pa_nil)) pa_nil)) (pg_name (i := 2) scWrong.nd rfl (.inl rfl))
        (pss_one (ps_if (PW.pt (pw_or (pt_cmpR op_lt (pe_ix ix_tup (pe_ix ix_list (pv 1) (pv 2) (fun _ _ => rfl)) pe_int (fun _ _ => rfl)) pe_int (nomark _)) (pw_or (pt_cmpR op_gt (pe_ix ix_tup (pe_ix ix_list (pv 1) (pv 2) (fun _ _ => rfl)) pe_int (fun _ _ => rfl)) pe_int (nomark _)) (pw_or1 (PW.pt (pw_and (pt_cmpR op_gt (pv 2) pe_int (nomark _)) (pw_and1 (pt_cmpR op_le (pe_ix ix_tup (pe_ix ix_list (pv 1) (pv 2) (fun _ _ => rfl)) pe_int (fun _ _ => rfl)) (pe_ix ix_tup (pe_ix ix_list (pv 1) (pe_op op_sub (pv 2) pe_int) (fun _ _ => rfl)) pe_int (fun _ _ => rfl)) (nomark _)))))))))
          (pss_one (ps_ret (pe_lst (pa_cons pe_int (pa_cons (pv 2) pa_nil)))))
          pss_nil)))
      (pss_one (ps_ret pe_non))))), ?_⟩
    have tl := tp.len
    have hlen : (((xs.map V.int).length : Nat) : Int) = xs.length := by rw [List.length_map]
    have ret : ∀ {k v : Int}, Wrong xs ms k v → ∀ q, H q = none → Q (.ref q) (upd H q (.lst [.int k, .int v])) := fun {k v} hw q nq => kw k v _ q hw (same_new nq) nq upd_same
    refine ⟨_, rfl, a, _, rfl, .inl (SqL.of ha), _, _, rfl, rfl, _, rfl, ite2 (fun c => ?_) (fun c => ?_)⟩
    · have c : ((xs.map V.int).length : Int) < 1 := of_decide_eq_true c
      rw [hlen] at c
      refine ⟨_, rfl, a, _, rfl, .inl (SqL.of ha), (by show 2 ≤ sizeLine; decide), fun q nq => ?_⟩
      rw [hlen]
      exact ret (.inl (.inl ⟨rfl, rfl, by omega⟩)) q nq
    have c : ¬ ((xs.map V.int).length : Int) < 1 := fun z => c (decide_eq_true z)
    rw [hlen] at c
    refine ⟨_, rfl, a, _, rfl, .inl (SqL.of ha), _, _, rfl, rfl, _, rfl, ite2 (fun c2 => ?_) (fun c2 => ?_)⟩
    · have c2 : (12 : Int) < (xs.map V.int).length := of_decide_eq_true c2
      rw [hlen] at c2
      refine ⟨_, rfl, a, _, rfl, .inl (SqL.of ha), (by show 2 ≤ sizeLine; decide), fun q nq => ?_⟩
      rw [hlen]
      exact ret (.inl (.inl ⟨rfl, rfl, by omega⟩)) q nq
    have c2 : ¬ (12 : Int) < (xs.map V.int).length := fun z => c2 (decide_eq_true z)
    rw [hlen] at c2
    have len : 1 ≤ xs.length ∧ xs.length ≤ 12 := by omega
    clear c c2
    refine ⟨_, rfl, a, _, rfl, .inl (SqL.of ha), (xs.length : Int), by rw [hlen], by omega, by omega, for_range (lo := 0) (n := (xs.length : Int).toNat) (fun i σ J => ∃ y2 : Option V, σ = [some (.ref a), some (.ref b), y2] ∧ J = H ∧ ∀ (j : Nat) (y : Int), j < i → xs[j]? = some y → okS y) ⟨none, rfl, rfl, fun j y h => absurd h (Nat.not_lt_zero j)⟩ ?_ ?_⟩
    · rintro i σ J hi ⟨y2, rfl, rfl, dn⟩
      have hi' : i < xs.length := by omega
      have hx : xs[i]? = some xs[i] := List.getElem?_eq_getElem hi'
      have hat : (xs.map V.int)[i]? = some (V.int xs[i]) := by rw [List.getElem?_map, hx]; rfl
      have e0 : (0 : Int) + i = (i : Nat) := by omega
      have bad : ¬ okS xs[i] → ∀ q, J q = none → Q (.ref q) (upd J q (.lst [.int 1, .int (0 + i)])) := fun b q nq => by
        rw [e0]
        exact ret (.inl (.inr (.inl ⟨len, rfl, i, rfl, _, hx, b, dn⟩))) q nq
      refine ⟨_, rfl, _, rfl, a, _, _, _, rfl, rfl, SqL.of ha, at_of (j := i) e0 hat, _, _, rfl, rfl, _, rfl, ite2 (fun c => ?_) (fun c => ?_)⟩
      · have c : xs[i] < 0 := of_decide_eq_true c
        exact ⟨_, rfl, (by show 2 ≤ sizeLine; decide), fun q nq => bad (fun z => by have := z.1; omega) q nq⟩
      have c : ¬ xs[i] < 0 := fun z => c (decide_eq_true z)
      refine ⟨_, rfl, _, rfl, a, _, _, _, rfl, rfl, SqL.of ha, at_of (j := i) e0 hat, _, _, rfl, rfl, _, rfl, ite2 (fun c2 => ?_) (fun c2 => ?_)⟩
      · have c2 : 3 < xs[i] := of_decide_eq_true c2
        exact ⟨_, rfl, (by show 2 ≤ sizeLine; decide), fun q nq => bad (fun z => by have := z.2; omega) q nq⟩
      have c2 : ¬ 3 < xs[i] := fun z => c2 (decide_eq_true z)
      refine ⟨_, rfl, rfl, fun j y hj e => ?_⟩
      rcases Nat.lt_or_ge j i with q | q
      · exact dn j y q e
      · have : j = i := by omega
        subst this
        rw [hx] at e
        obtain rfl := Option.some.inj e
        exact ⟨by omega, by omega⟩
    rintro σ J ⟨y2, rfl, rfl, dn⟩
    have all : ∀ x ∈ xs, okS x := fun x hx => by
      obtain ⟨j, hj, rfl⟩ := List.getElem_of_mem hx
      exact dn j _ (by omega) (List.getElem?_eq_getElem hj)
    clear dn
    refine ⟨_, rfl, a, xs, rfl, SqL.of ha, by omega, fun m hm hmax => ⟨rfl, _, rfl, ite2 (fun g => ?_) (fun g => ?_)⟩⟩
    · have g : m = 0 := by
        have := of_decide_eq_true g
        injection this
      refine ⟨(by show 2 ≤ sizeLine; decide), fun q nq => ret (.inl (.inr (.inr ⟨len, all, rfl, rfl, fun x hx => ?_⟩))) q nq⟩
      have := hmax x hx
      have := (all x hx).1
      omega
    have g : m ≠ 0 := fun z => g (decide_eq_true (by rw [z]))
    have hp : Paces xs := ⟨all, ⟨m, hm, g⟩, by omega, by omega⟩
    clear all g hmax
    have hlen2 : (((ts.map V.ref).length : Nat) : Int) = ms.length := by rw [List.length_map, tl]
    refine ⟨_, rfl, b, _, rfl, .inl (SqL.of hb), (ms.length : Int), by rw [hlen2], by omega, by omega, for_range (lo := 0) (n := (ms.length : Int).toNat) (fun i σ J' => ∃ y2 : Option V, σ = [some (.ref a), some (.ref b), y2] ∧ J' = J ∧ ∀ j : Nat, j < i → ¬ BadM ms j) ⟨_, rfl, rfl, fun j h => absurd h (Nat.not_lt_zero j)⟩ ?_ ?_⟩
    · rintro i σ J' hi ⟨y2, rfl, rfl, dn⟩
      have hi' : i < ts.length := by omega
      have e0 : (0 : Int) + i = (i : Nat) := by omega
      obtain ⟨m, hm, hm2⟩ := tp.get (List.getElem?_eq_getElem hi')
      have hat : (ts.map V.ref)[i]? = some (V.ref ts[i]) := by rw [List.getElem?_map, List.getElem?_eq_getElem hi']; rfl
      have bad : BadM ms i → ∀ q, J' q = none → Q (.ref q) (upd J' q (.lst [.int 3, .int (0 + i)])) := fun b q nq => by
        rw [e0]
        exact ret (.inr ⟨hp, rfl, i, rfl, b, dn⟩) q nq
      have more : ¬ BadM ms i → ∀ j : Nat, j < i + 1 → ¬ BadM ms j := fun b j hj => by
        rcases Nat.lt_or_ge j i with q | q
        · exact dn j q
        · have : j = i := by omega
          subst this
          exact b
      refine ⟨_, rfl, _, rfl, b, _, _, _, rfl, rfl, SqL.of hb, at_of (j := i) e0 hat, ts[i], _, 1, _, rfl, rfl, SqT.of hm2, rfl, _, _, rfl, rfl, _, rfl, ite2 (fun c => ?_) (fun c => ?_)⟩
      · have c : m.2 < 0 := of_decide_eq_true c
        exact ⟨_, rfl, (by show 2 ≤ sizeLine; decide), fun q nq => bad ⟨m, hm, .inl fun z => by have := z.1; omega⟩ q nq⟩
      have c : ¬ m.2 < 0 := fun z => c (decide_eq_true z)
      refine ⟨_, rfl, _, rfl, b, _, _, _, rfl, rfl, SqL.of hb, at_of (j := i) e0 hat, ts[i], _, 1, _, rfl, rfl, SqT.of hm2, rfl, _, _, rfl, rfl, _, rfl, ite2 (fun c2 => ?_) (fun c2 => ?_)⟩
      · have c2 : 3 < m.2 := of_decide_eq_true c2
        exact ⟨_, rfl, (by show 2 ≤ sizeLine; decide), fun q nq => bad ⟨m, hm, .inl fun z => by have := z.2; omega⟩ q nq⟩
      have c2 : ¬ 3 < m.2 := fun z => c2 (decide_eq_true z)
      have ok : okS m.2 := ⟨by omega, by omega⟩
      refine ⟨_, rfl, _, _, rfl, rfl, _, rfl, ite2 (fun g => ?_) (fun g => ?_)⟩
      · have g1 : (0 : Int) < 0 + i := of_decide_eq_true g
        obtain ⟨j, rfl⟩ : ∃ j, i = j + 1 := ⟨i - 1, by omega⟩
        have hj : j < ts.length := by omega
        obtain ⟨m', hm', hm2'⟩ := tp.get (List.getElem?_eq_getElem hj)
        have ej : ((0 : Int) + ((j + 1 : Nat) : Int)) - 1 = (j : Nat) := by omega
        have hat' : (ts.map V.ref)[j]? = some (V.ref ts[j]) := by rw [List.getElem?_map, List.getElem?_eq_getElem hj]; rfl
        refine ⟨_, rfl, _, rfl, b, _, _, _, rfl, rfl, SqL.of hb, at_of (j := j + 1) e0 hat, ts[j + 1], _, 0, _, rfl, rfl, SqT.of hm2, rfl, _, rfl, _, rfl, _, _, rfl, rfl, b, _, _, _, rfl, rfl, SqL.of hb, at_of (j := j) ej hat', ts[j], _, 0, _, rfl, rfl, SqT.of hm2', rfl, _, _, rfl, rfl, _, rfl, ite2 (fun g2 => ?_) (fun g2 => ?_)⟩
        · have g3 : m.1 ≤ m'.1 := of_decide_eq_true g2
          exact ⟨_, rfl, (by show 2 ≤ sizeLine; decide), fun q nq => bad ⟨m, hm, .inr ⟨j, m', rfl, hm', g3⟩⟩ q nq⟩
        · have g3 : ¬ m.1 ≤ m'.1 := fun z => g2 (decide_eq_true z)
          refine ⟨_, rfl, rfl, more fun b => ?_⟩
          obtain ⟨n, hn, q⟩ := b
          rw [hm] at hn
          obtain rfl := Option.some.inj hn
          rcases q with q | ⟨j', n', e, hn', q⟩
          · exact q ok
          · have : j = j' := by omega
            subst this
            rw [hm'] at hn'
            obtain rfl := Option.some.inj hn'
            exact g3 q
      · have g1 : ¬ (0 : Int) < 0 + i := fun z => g (decide_eq_true z)
        refine ite2 (fun z => absurd z (by decide)) (fun _ => ?_)
        refine ⟨_, rfl, rfl, more fun b => ?_⟩
        obtain ⟨n, hn, q⟩ := b
        rw [hm] at hn
        obtain rfl := Option.some.inj hn
        rcases q with q | ⟨j', n', e, hn', q⟩
        · exact q ok
        · omega
    · rintro σ J' ⟨y2, rfl, rfl, dn⟩
      refine kn hp (fit_of (by omega) fun i b => ?_)
      rcases Nat.lt_or_ge i ms.length with q | q
      · exact dn i (by omega) b
      · obtain ⟨m, hm, _⟩ := b
        rw [List.getElem?_eq_none q] at hm
        cases hm
end

theorem Bnd.one : Bnd 1 := ⟨by decide, by decide⟩
theorem Bnd.three : Bnd 3 := ⟨by decide, by decide⟩
section
variable {P : Program} {w : World} {K : PySem.W.Frag} {mg : Str → Option Value} {base : Heap}
theorem scMended : FnScope ["paces", "pairs", "wrong"] ["paces", "pairs", "wrong"] (defScope sMended) := ⟨rfl, rfl, rfl, by decide +kernel, rfl, by decide +kernel, by decide +kernel⟩
theorem ok_mended {f : Addr} {fd : FuncData} (F : Fun K "_law_mended" "_law_mended" sMended f fd) : FnOk P w K mg base CX0 1 f fd ["paces", "pairs", "wrong"] spMended := by
  refine F.ok scMended (fun vs H Q E h => ?_) (fun cdv A outer s H vs Q E hr h => ?_)
  · obtain ⟨a, b, c, xs, ts, ms, k, v, rfl, _⟩ := h
    rfl
  · obtain ⟨a, b, c, xs, ts, ms, k, v, rfl, ha, hb, tp, hc, xl, ml, xb, mb, wr, kk⟩ := h
    refine ⟨_, pss_cons (ps_if (pt_cmpR op_eq (pe_ix ix_list (pv 2) pe_int (fun _ _ => rfl)) pe_int (nomark _))
        (pss_one (ps_ret (pe_lst (pa_cons (pe_slice sl_list (pe_op op_cat (pv 0) (pe_lst (pa_cons pe_int pa_nil))) po_none (po_some pe_int)) (pa_cons (pv 1) pa_nil)))))
        pss_nil)
      (pss_cons (ps_if (pt_cmpR op_eq (pe_ix ix_list (pv 2) pe_int (fun _ _ => rfl)) pe_int (nomark _))
        (pss_one (ps_ret (pe_lst (pa_cons (pe_op op_cat (pe_op op_cat (pe_slice sl_list (pv 0) po_none (po_some (pe_ix ix_list (pv 2) pe_int (fun _ _ => rfl)))) (pe_lst (pa_cons pe_int pa_nil))) (pe_slice sl_list (pv 0) (po_some (pe_op op_add (pe_ix ix_list (pv 2) pe_int (fun _ _ => rfl)) pe_int)) po_none)) (pa_cons (pv 1) pa_nil)))))
        pss_nil)
      (pss_cons (ps_if (pt_cmpR op_eq (pe_ix ix_list (pv 2) pe_int (fun _ _ => rfl)) pe_int (nomark _))
        (pss_one (ps_ret (pe_lst (pa_cons (pe_op op_cat (pe_slice sl_list (pv 0) po_none (po_some (pe_un un_neg pe_int))) (pe_lst (pa_cons pe_int pa_nil))) (pa_cons (pv 1) pa_nil)))))
        pss_nil)
      (pss_one (ps_ret (pe_lst (pa_cons (pv 0) (pa_cons (pe_op op_cat (pe_slice sl_list (pv 1) po_none (po_some (pe_ix ix_list (pv 2) pe_int (fun _ _ => rfl)))) (pe_slice sl_list (pv 1) (po_some (pe_op op_add (pe_ix ix_list (pv 2) pe_int (fun _ _ => rfl)) pe_int)) po_none)) pa_nil))))))), ?_⟩
    have tl := tp.len
    have eqk : ∀ {j : Int}, decide (V.int k = V.int j) = true → k = j := fun {j} h => by
      have := of_decide_eq_true h
      injection this
    have nek : ∀ {j : Int}, ¬ decide (V.int k = V.int j) = true → k ≠ j := fun {j} h q => h (decide_eq_true (by rw [q]))
    refine ⟨_, rfl, c, _, 0, _, rfl, rfl, SqL.of hc, rfl, rfl, _, rfl, ite2 (fun e => ?_) (fun e => ?_)⟩
    · -- the week's length
      obtain rfl := eqk e
      have q : ¬ (1 ≤ xs.length ∧ xs.length ≤ 12) := by
        rcases wr with h | ⟨_, h, _⟩
        · rcases h with ⟨_, _, q⟩ | ⟨_, h, _⟩ | ⟨_, _, h, _⟩
          · exact q
          · exact absurd h (by decide)
          · exact absurd h (by decide)
        · exact absurd h (by decide)
      refine ⟨_, rfl, (by show 1 ≤ sizeLine; decide), fun l nl => ?_⟩
      have s1 := same_new (o := .lst [.int 1]) nl
      refine ⟨a, l, _, _, rfl, rfl, s1 _ _ ha, upd_same, by rw [List.length_map, sizeLine_eq]; show xs.length + 1 ≤ _; omega, fun G nG => ?_⟩
      have s2 := s1.trans (same_new (o := .lst (xs.map V.int ++ [.int 1])) nG)
      refine ⟨_, rfl, G, _, rfl, SqL.of upd_same, fun D nD => ?_⟩
      rw [show cutV (xs.map V.int ++ [V.int 1]) none (some 12) = ((xs ++ [1]).take 12).map V.int from by
        rw [show (12 : Int) = ((12 : Nat) : Int) from rfl, cut_pre2, List.map_take, List.map_append]
        rfl]
      have s3 := s2.trans (same_new (o := .lst (((xs ++ [1]).take 12).map V.int)) nD)
      refine ⟨_, rfl, (by show 2 ≤ sizeLine; decide), fun q' nq => ?_⟩
      have s4 := same_new (o := .lst [.ref D, .ref b]) nq
      have s04 := s3.trans s4
      refine kk q' D b _ ts ms _ s04 upd_same (s4 _ _ upd_same) (s04 _ _ hb) (tp.same s04) (by rw [List.length_take, List.length_append]; show min 12 (xs.length + 1) ≤ 20; omega) ml (fun x hx => ?_) mb ?_ (.inr (s2.free nD)) (.inl rfl)
      · rcases List.mem_append.mp (List.mem_of_mem_take hx) with g | g
        · exact xb x g
        · rw [List.mem_singleton.mp g]
          exact Bnd.one
      · unfold Mu
        rw [if_neg q, if_pos (by rw [List.length_take, List.length_append]; show 1 ≤ min 12 (xs.length + 1) ∧ min 12 (xs.length + 1) ≤ 12; omega)]
        have h1 := nbad_take (xs ++ [1]) 12
        rw [nbad_app, show nbad [1] = 0 from rfl] at h1
        split <;> split <;> omega
    have k0 := nek e
    refine ⟨_, rfl, c, _, 0, _, rfl, rfl, SqL.of hc, rfl, rfl, _, rfl, ite2 (fun e => ?_) (fun e => ?_)⟩
    · -- a speed
      obtain rfl := eqk e
      obtain ⟨len, i, rfl, x, hx, bx, _⟩ : (1 ≤ xs.length ∧ xs.length ≤ 12) ∧ ∃ i : Nat, v = i ∧ ∃ x, xs[i]? = some x ∧ ¬ okS x ∧ ∀ (j : Nat) (y : Int), j < i → xs[j]? = some y → okS y := by
        rcases wr with h | ⟨_, h, _⟩
        · rcases h with ⟨h, _⟩ | ⟨l, _, h⟩ | ⟨_, _, h, _⟩
          · exact absurd h (by decide)
          · exact ⟨l, h⟩
          · exact absurd h (by decide)
        · exact absurd h (by decide)
      have hi := (List.getElem?_eq_some_iff.mp hx).1
      refine ⟨_, rfl, _, rfl, c, _, 1, _, rfl, rfl, SqL.of hc, rfl, _, rfl, a, _, rfl, SqL.of ha, fun D1 n1 => ?_⟩
      rw [cut_pre2, ← List.map_take]
      have s1 := same_new (o := .lst ((xs.take i).map V.int)) n1
      refine ⟨(by show 1 ≤ sizeLine; decide), fun l nl => ?_⟩
      have s2 := same_new (o := .lst [.int 1]) nl
      refine ⟨D1, l, _, _, rfl, rfl, s2 _ _ upd_same, upd_same, by rw [List.length_map, List.length_take, sizeLine_eq]; show min i xs.length + 1 ≤ _; omega, fun G nG => ?_⟩
      have s3 := same_new (o := .lst ((xs.take i).map V.int ++ [.int 1])) nG
      have s13 := (s1.trans s2).trans s3
      refine ⟨_, rfl, _, rfl, c, _, 1, _, rfl, rfl, SqL.of (s13 _ _ hc), rfl, _, _, rfl, rfl, _, rfl, a, _, rfl, SqL.of (s13 _ _ ha), fun D2 n2 => ?_⟩
      rw [show ((i : Int) + 1) = ((i + 1 : Nat) : Int) from rfl, cut_suf, ← List.map_drop]
      have s4 := same_new (o := .lst ((xs.drop (i + 1)).map V.int)) n2
      refine ⟨G, D2, _, _, rfl, rfl, s4 _ _ upd_same, upd_same, by rw [List.length_append, List.length_map, List.length_map, List.length_take, List.length_drop, sizeLine_eq]; show min i xs.length + 1 + _ ≤ _; omega, fun D nD => ?_⟩
      rw [show (xs.take i).map V.int ++ [V.int 1] ++ (xs.drop (i + 1)).map V.int = (xs.take i ++ [1] ++ xs.drop (i + 1)).map V.int from by rw [List.map_append, List.map_append]; rfl]
      have s5 := same_new (o := .lst ((xs.take i ++ [1] ++ xs.drop (i + 1)).map V.int)) nD
      have s05 := (s13.trans s4).trans s5
      refine ⟨_, rfl, (by show 2 ≤ sizeLine; decide), fun q' nq => ?_⟩
      have s6 := same_new (o := .lst [.ref D, .ref b]) nq
      have s06 := s05.trans s6
      have el : (xs.take i ++ [1] ++ xs.drop (i + 1)).length = xs.length := by
        rw [List.length_append, List.length_append, List.length_take, List.length_drop]
        show min i xs.length + 1 + _ = _
        omega
      refine kk q' D b _ ts ms _ s06 upd_same (s6 _ _ upd_same) (s06 _ _ hb) (tp.same s06) (by omega) ml (fun y hy => ?_) mb ?_ (.inr ((s13.trans s4).free nD)) (.inl rfl)
      · rcases List.mem_append.mp hy with g | g
        · rcases List.mem_append.mp g with g | g
          · exact xb y (List.mem_of_mem_take g)
          · rw [List.mem_singleton.mp g]
            exact Bnd.one
        · exact xb y (List.mem_of_mem_drop g)
      · unfold Mu
        have h1 := nbad_split hx
        rw [if_neg bx] at h1
        rw [el, if_pos len, nbad_app, nbad_app, show nbad [1] = 0 from rfl, if_neg fun z => ?_]
        · split <;> omega
        · exact absurd (z 1 (List.mem_append_left _ (List.mem_append_right _ (List.mem_singleton.mpr rfl)))) (by decide)
    have k1 := nek e
    refine ⟨_, rfl, c, _, 0, _, rfl, rfl, SqL.of hc, rfl, rfl, _, rfl, ite2 (fun e => ?_) (fun e => ?_)⟩
    · -- never open
      obtain rfl := eqk e
      obtain ⟨len, all, zero⟩ : (1 ≤ xs.length ∧ xs.length ≤ 12) ∧ (∀ x ∈ xs, okS x) ∧ ∀ x ∈ xs, x = 0 := by
        rcases wr with h | ⟨_, h, _⟩
        · rcases h with ⟨h, _⟩ | ⟨_, h, _⟩ | ⟨l, al, _, _, z⟩
          · exact absurd h (by decide)
          · exact absurd h (by decide)
          · exact ⟨l, al, z⟩
        · exact absurd h (by decide)
      refine ⟨_, rfl, _, rfl, _, rfl, a, _, rfl, SqL.of ha, fun D1 n1 => ?_⟩
      rw [show cutV (xs.map V.int) none (some (-1)) = (xs.take (xs.length - 1)).map V.int from by rw [cut_last, List.length_map, List.map_take]]
      have s1 := same_new (o := .lst ((xs.take (xs.length - 1)).map V.int)) n1
      refine ⟨(by show 1 ≤ sizeLine; decide), fun l nl => ?_⟩
      have s2 := same_new (o := .lst [.int 3]) nl
      refine ⟨D1, l, _, _, rfl, rfl, s2 _ _ upd_same, upd_same, by rw [List.length_map, List.length_take, sizeLine_eq]; show min (xs.length - 1) xs.length + 1 ≤ _; omega, fun D nD => ?_⟩
      rw [show (xs.take (xs.length - 1)).map V.int ++ [V.int 3] = (xs.take (xs.length - 1) ++ [3]).map V.int from by rw [List.map_append]; rfl]
      have s3 := same_new (o := .lst ((xs.take (xs.length - 1) ++ [3]).map V.int)) nD
      have s03 := (s1.trans s2).trans s3
      refine ⟨_, rfl, (by show 2 ≤ sizeLine; decide), fun q' nq => ?_⟩
      have s4 := same_new (o := .lst [.ref D, .ref b]) nq
      have s04 := s03.trans s4
      have el : (xs.take (xs.length - 1) ++ [3]).length = xs.length := by
        rw [List.length_append, List.length_take]
        show min (xs.length - 1) xs.length + 1 = _
        omega
      refine kk q' D b _ ts ms _ s04 upd_same (s4 _ _ upd_same) (s04 _ _ hb) (tp.same s04) (by omega) ml (fun y hy => ?_) mb ?_ (.inr ((s1.trans s2).free nD)) (.inl rfl)
      · rcases List.mem_append.mp hy with g | g
        · exact xb y (List.mem_of_mem_take g)
        · rw [List.mem_singleton.mp g]
          exact Bnd.three
      · unfold Mu
        have h1 := nbad_take xs (xs.length - 1)
        rw [el, if_pos len, nbad_app, show nbad [3] = 0 from rfl, if_neg fun z => ?_, if_pos zero]
        · omega
        · exact absurd (z 3 (List.mem_append_right _ (List.mem_singleton.mpr rfl))) (by decide)
    have k2 := nek e
    obtain ⟨i, rfl, m0, hm0, _⟩ : ∃ i : Nat, v = i ∧ ∃ m, ms[i]? = some m ∧ True := by
      rcases wr with h | ⟨_, h, i, e, ⟨m, hm, _⟩, _⟩
      · rcases h with ⟨h, _⟩ | ⟨_, h, _⟩ | ⟨_, _, h, _⟩
        · exact absurd h k0
        · exact absurd h k1
        · exact absurd h k2
      · exact ⟨i, e, m, hm, trivial⟩
    have hi := (List.getElem?_eq_some_iff.mp hm0).1
    -- a change
    refine ⟨_, rfl, _, rfl, _, rfl, c, _, 1, _, rfl, rfl, SqL.of hc, rfl, _, rfl, b, _, rfl, SqL.of hb, fun D1 n1 => ?_⟩
    rw [cut_pre2, ← List.map_take]
    have s1 := same_new (o := .lst ((ts.take i).map V.ref)) n1
    refine ⟨_, rfl, _, rfl, c, _, 1, _, rfl, rfl, SqL.of (s1 _ _ hc), rfl, _, _, rfl, rfl, _, rfl, b, _, rfl, SqL.of (s1 _ _ hb), fun D2 n2 => ?_⟩
    rw [show ((i : Int) + 1) = ((i + 1 : Nat) : Int) from rfl, cut_suf, ← List.map_drop]
    have s2 := same_new (o := .lst ((ts.drop (i + 1)).map V.ref)) n2
    refine ⟨D1, D2, _, _, rfl, rfl, s2 _ _ upd_same, upd_same, by rw [List.length_map, List.length_map, List.length_take, List.length_drop, sizeLine_eq]; omega, fun D nD => ?_⟩
    rw [← List.map_append]
    have s3 := same_new (o := .lst ((ts.take i ++ ts.drop (i + 1)).map V.ref)) nD
    have s03 := (s1.trans s2).trans s3
    refine ⟨(by show 2 ≤ sizeLine; decide), fun q' nq => ?_⟩
    have s4 := same_new (o := .lst [.ref a, .ref D]) nq
    have s04 := s03.trans s4
    have el : (ms.take i ++ ms.drop (i + 1)).length + 1 = ms.length := by
      rw [List.length_append, List.length_take, List.length_drop]
      omega
    refine kk q' a D xs (ts.take i ++ ts.drop (i + 1)) (ms.take i ++ ms.drop (i + 1)) _ s04 upd_same (s04 _ _ ha) (s4 _ _ upd_same) (((Tups.take i tp).app (Tups.drop (i + 1) tp)).same s04) xl (by omega) xb (fun m hm => ?_) ?_ (.inl rfl) (.inr ((s1.trans s2).free nD))
    · rcases List.mem_append.mp hm with g | g
      · exact mb m (List.mem_of_mem_take g)
      · exact mb m (List.mem_of_mem_drop g)
    · unfold Mu
      omega
end

def rListO (K : PySem.W.Frag) : List V → Hp → VK → Prop := fun xs H Q => ∃ (p : Addr) (ys : List V), xs = [.ref p] ∧ (SqL K H p ys ∨ SqT K H p ys) ∧ ∀ l, H l = none → Q (.ref l) (upd H l (.lst ys))
theorem cr_listO {X : Cx} : CallR X (.type "list") (rListO X.K) := call_list_of
section
variable {P : Program} {w : World} {K : PySem.W.Frag} {mg : Str → Option Value} {base : Heap}
theorem scTold : FnScope ["paces", "pairs", "caught", "made", "e"] ["paces", "pairs"] (defScope sTold) := ⟨rfl, rfl, rfl, by decide +kernel, rfl, by decide +kernel, by decide +kernel⟩
theorem ok_toldE {f fI fE C CW CS CN CC CA CU CR CD p2 g2 p3 g3 : Addr} {fd dI d2 d3 : FuncData} (F : Fun K "_law_told" "_law_told" sTold f fd) (T : Blt mg) (Z : Cal K mg C) (isi : mg "isinstance" = none) (R : Errs K mg CW CS CN CC fE) (KE : KitE K CW CS CN CC CA CU CR CD)
    (gD : mg "DueError" = some (.ref CD)) (gA : mg "InvalidAmount" = some (.ref CA)) (gU : mg "UnlikeWeeks" = some (.ref CU)) (gR : mg "NotRising" = some (.ref CR))
    (MK : Mk K C fI) (GI : FnOk P w K mg base (L2.CX P w) 5 fI dI ["self", "speeds", "changes"] (spInitX C CW CS CN CC K)) (bI : Binds K dI ["self", "speeds", "changes"] [])
    (W2 : Pp P w K mg base C "speeds" (spSpeeds C) p2 g2 d2) (W3 : Pp P w K mg base C "changes" (spChanges C) p3 g3 d3) : FnOk P w K mg base CX0 7 f fd ["paces", "pairs"] spToldE := by
  refine F.ok scTold (fun vs H Q E h => ?_) (fun cdv A outer s H vs Q E hr h => ?_)
  · obtain ⟨a, b, xs, ts, ms, rfl, _⟩ := h
    rfl
  · obtain ⟨a, b, xs, ts, ms, rfl, ha, hb, tp, xl, ml, kw, kn⟩ := h
    have hr2 : Room 2 _ := hr.mono (by decide)
    refine ⟨_, pss_cons (ps_set (i := 2) scTold.nd rfl (.inl rfl) pe_non)
      (pss_cons (ps_set (i := 3) scTold.nd rfl (.inl rfl) pe_non)
      (pss_cons (ps_try_as (i := 4) (Wout := fun _ _ _ _ => False) rfl rfl scTold.nd rfl rfl ⟨rfl, by decide, .inl gD⟩ takes0
        (fun W pn xe tk _ => pss_one (ps_set (i := 3) scTold.nd rfl (.inl rfl) (pe_makeS MK GI hr (by rfl) Z.at_ bI .nil (fun σ => passAt tk σ) (pa_cons (pe_callTy (r := rListO K) cr_listO (by rfl) T.list (by decide +kernel) (pa_cons (pv 0) pa_nil)) (pa_cons (pe_callTy (r := rListO K) cr_listO (by rfl) T.list (by decide +kernel) (pa_cons (pv 1) pa_nil)) pa_nil)))))
        (fun a oe cls d pn hz hf => pss_one (ps_set (i := 2) scTold.nd rfl (.inl rfl) (pe_lst (pa_cons (pe_lst (pa_cons (pe_callB (call_isX hz hf) (by rfl) isi (by decide +kernel) (pa_cons (pv 4) (pa_cons (C8.pe_gc (v := .ref CW) (by rfl) ⟨_, R.gW, rfl⟩) pa_nil)))
            (pa_cons (pe_callB (call_isX hz hf) (by rfl) isi (by decide +kernel) (pa_cons (pv 4) (pa_cons (C8.pe_gc (v := .ref CS) (by rfl) ⟨_, R.gS, rfl⟩) pa_nil)))
            (pa_cons (pe_callB (call_isX hz hf) (by rfl) isi (by decide +kernel) (pa_cons (pv 4) (pa_cons (C8.pe_gc (v := .ref CN) (by rfl) ⟨_, R.gN, rfl⟩) pa_nil)))
            (pa_cons (pe_callB (call_isX hz hf) (by rfl) isi (by decide +kernel) (pa_cons (pv 4) (pa_cons (C8.pe_gc (v := .ref CC) (by rfl) ⟨_, R.gC, rfl⟩) pa_nil)))
            (pa_cons (pe_callB (call_isX hz hf) (by rfl) isi (by decide +kernel) (pa_cons (pv 4) (pa_cons (C8.pe_gc (v := .ref CA) (by rfl) ⟨_, gA, rfl⟩) pa_nil)))
            (pa_cons (pe_callB (call_isX hz hf) (by rfl) isi (by decide +kernel) (pa_cons (pv 4) (pa_cons (C8.pe_gc (v := .ref CU) (by rfl) ⟨_, gU, rfl⟩) pa_nil)))
            (pa_cons (pe_callB (call_isX hz hf) (by rfl) isi (by decide +kernel) (pa_cons (pv 4) (pa_cons (C8.pe_gc (v := .ref CR) (by rfl) ⟨_, gR, rfl⟩) pa_nil)))
            pa_nil))))))))
          (pa_cons (pe_val hz hf (pv 4)) pa_nil))))))
      (pss_cons (ps_if (pt_cmpR op_notN (pv 2) pe_non (nomark _))
        (pss_one (ps_ret (pv 2)))
        pss_nil)
      (pss_one (ps_ret (pe_lst (pa_cons (pe_prop (pv 3) Z.cl W2.of W2.ok hr2 W2.bi .nil pass0 rfl) (pa_cons (pe_prop (pv 3) Z.cl W3.of W3.ok hr2 W3.bi .nil pass0 rfl) pa_nil)))))))), ?_⟩
    refine ⟨_, rfl, a, _, rfl, .inl (SqL.of ha), fun q1 n1 => ?_⟩
    have s1 := same_new (o := .lst (xs.map V.int)) n1
    refine ⟨_, rfl, b, _, rfl, .inl (SqL.of (s1 _ _ hb)), fun q2 n2 => ?_⟩
    have s2 := s1.trans (same_new (o := .lst (ts.map V.ref)) n2)
    have hq1 := (same_new (o := .lst (ts.map V.ref)) n2) _ _ (upd_same (H := H) (a := q1) (o := .lst (xs.map V.int)))
    have hq2 := upd_same (H := upd H q1 (.lst (xs.map V.int))) (a := q2) (o := .lst (ts.map V.ref))
    generalize upd (upd H q1 (.lst (xs.map V.int))) q2 (.lst (ts.map V.ref)) = H2 at s2 hq1 hq2 ⊢
    refine fun x dx nx ndx _ => ?_
    have s3 : Same H2 (upd (upd H2 dx (.own x)) x (.ins C dx [])) := fun c o e => by
      rw [upd_ne (ne_of_none e nx), upd_ne (ne_of_none e ndx)]
      exact e
    refine ⟨x, dx, q1, q2, xs, ts, ms, rfl, upd_same, SqL.of (s3 _ _ hq1), SqL.of (s3 _ _ hq2), tp.same (s2.trans s3), by omega, ne_of_none hq1 nx, ne_of_none hq2 nx, fun k v hw dd H' s nd hd => ?_, fun hp fit H' l d cal nl nd keep => ⟨rfl, ?_⟩⟩
    · have num := hw.num xl ml
      have R4 := R.at_ k
      obtain ⟨e0, e1, e2, e3, e4, e5, e6, ex⟩ := KE.kit k num.1 num.2.1
      refine ⟨true, ex, fun _ ea na => ?_, fun z => Bool.noConfusion z⟩
      have held : HeldE K (.ref (cl4 CW CS CN CC k)) (some dd) (.int v) (cl4 CW CS CN CC k) fE H' := ⟨rfl, R4, dd, rfl, hd⟩
      refine ⟨_, rfl, _, fE, _, .ref CW, _, _, rfl, held, fun u h => h, e0, _, rfl, _, fE, _, .ref CS, _, _, rfl, held, fun u h => h, e1, _, rfl, _, fE, _, .ref CN, _, _, rfl, held, fun u h => h, e2, _, rfl, _, fE, _, .ref CC, _, _, rfl, held, fun u h => h, e3, _, rfl, _, fE, _, .ref CA, _, _, rfl, held, fun u h => h, e4, _, rfl, _, fE, _, .ref CU, _, _, rfl, held, fun u h => h, e5, _, rfl, _, fE, _, .ref CR, _, _, rfl, held, fun u h => h, e6, ?_⟩
      refine ⟨(by show 7 ≤ sizeLine; decide), fun g1 m1 => ?_⟩
      have t1 := same_new (o := .lst ((flags k).map V.bl)) m1
      have held2 : HeldE K (.ref (cl4 CW CS CN CC k)) (some dd) (.int v) (cl4 CW CS CN CC k) fE (upd H' g1 (.lst ((flags k).map V.bl))) := ⟨rfl, R4, dd, rfl, t1 _ _ hd⟩
      refine ⟨_, rfl, rfl, _, fE, _, held2, (by show 2 ≤ sizeLine; decide), fun g2 m2 => ?_⟩
      have t2 := same_new (o := .lst [.ref g1, .int v]) m2
      refine ⟨_, rfl, rfl, _, rfl, ?_⟩
      exact ⟨_, rfl, kw k v _ g2 g1 hw (((s2.trans s3).trans s).trans (t1.trans t2)) upd_same (t2 _ _ upd_same)⟩
    · obtain ⟨ox, hx⟩ := cal.ob
      have s4 : Same H2 H' := fun c o e => keep c o (s3 _ _ e) (ne_of_none e nx)
      refine ⟨_, rfl, rfl, _, rfl, ?_⟩
      refine ⟨_, rfl, x, ox, _, rfl, hx, ⟨x, l, d, xs, realOf xs ms, rfl, cal, fun g1 m1 => ?_⟩⟩
      have t1 := same_new (o := .lst (xs.map V.int)) m1
      refine ⟨_, rfl, x, ox, _, rfl, t1 _ _ hx, ⟨x, l, d, xs, realOf xs ms, rfl, cal.same t1, fun H3 g2 us t2 m2 _ _ h2 up => ?_⟩⟩
      refine ⟨(by show 2 ≤ sizeLine; decide), fun g3 m3 => ?_⟩
      have t3 := same_new (o := .lst [.ref g1, .ref g2]) m3
      exact kn hp fit _ g3 g1 g2 us (((s2.trans s4).trans t1).trans (t2.trans t3)) upd_same (t3 _ _ (t2 _ _ upd_same)) (t3 _ _ h2) (up.same t3)
end

theorem fit_nobad {ms : List (Int × Int)} (f : Fit ms) (i : Nat) : ¬ BadM ms i := by
  rintro ⟨m, hm, b | ⟨j, m', rfl, hm', le⟩⟩
  · exact b (f.val m (List.mem_of_getElem? hm))
  · obtain ⟨h1, e1⟩ := List.getElem?_eq_some_iff.mp hm
    obtain ⟨h2, e2⟩ := List.getElem?_eq_some_iff.mp hm'
    have := List.pairwise_iff_getElem.mp f.asc j (j + 1) h2 h1 (by omega)
    rw [e1, e2] at this
    omega
def dErr (k v : Int) : PyData := .list [.list ((flags k).map PyData.bool), .int v]
theorem dpAll_bools {K : PySem.W.Frag} {H : Hp} : ∀ bs : List Bool, DpAll K H (bs.map V.bl) (bs.map PyData.bool)
  | [] => .nil
  | b :: bs => .cons (.bl b) (dpAll_bools bs)
theorem rp_err {k v : Int} (h0 : 0 ≤ v) (h1 : v ≤ 20) : Rp (dErr k v) 20 3 := by
  have e : (flags k).length = 7 := by unfold flags; rw [List.length_map, List.length_range]
  have a : RpA ((flags k).map PyData.bool) 7 0 := by
    have h := RpA.all (n := 0) (k := 0) (xs := (flags k).map PyData.bool) fun d hd => by
      obtain ⟨b, _, rfl⟩ := List.mem_map.mp hd
      exact Rp.bool b
    exact h.mono (by rw [List.length_map, e]; decide) (Nat.le_refl _)
  exact (Rp.list (.cons (Rp.list a) (.cons (Rp.int (by omega) (by omega)) .nil))).mono (by omega) (by omega)
section
variable {P : Program} {w : World} {K : PySem.W.Frag} {mg : Str → Option Value} {base : Heap}
theorem scFits : FnScope ["well", "paces", "pairs", "turn", "wrong", "told", "real", "at", "pace", "spot"] ["well"] (defScope sFits) := ⟨rfl, rfl, rfl, by decide +kernel, rfl, by decide +kernel, by decide +kernel⟩
theorem ok_fits {f fW fP fR fO fM : Addr} {fd dW dP dR dO dM : FuncData} (F : Fun K "_law_fits" "_law_fits" sFits f fd) (T : Blt mg)
    (Wk3 : At P w K mg base 3 "_law_weeks" ["well"] spWeeksL fW dW) (Pr : At P w K mg base 3 "_law_pairs" ["well"] spPrs fP dP) (Wr : At P w K mg base 1 "_law_wrong" ["paces", "pairs"] spPrsW fR dR)
    (To : At P w K mg base 7 "_law_told" ["paces", "pairs"] spToldE fO dO) (Md : At P w K mg base 1 "_law_mended" ["paces", "pairs", "wrong"] spMended fM dM) : FnG P w K mg base 8 f fd ["well"] spFits := by
  refine okG F scFits (fun vs H Q E h => ?_) (fun cdv A outer s H vs Q E hgd hr h => ?_)
  · obtain ⟨p, n, rfl, _⟩ := h
    rfl
  · obtain ⟨p, n, rfl, hW, hn, k⟩ := h
    have hr1 : Room 1 _ := hr.mono (by decide)
    have hr3 : Room 3 _ := hr.mono (by decide)
    have hr6 : Room 7 _ := hr.mono (by decide)
    have hu := hr.units
    refine ⟨_, pss_cons (ps_asg (pe_tup (pa_cons (pe_call Wk3.ok hr3 (by rfl) Wk3.at_ Wk3.kp Wk3.bi .nil pass0 (pa_cons (pv 0) pa_nil)) (pa_cons (pe_call Pr.ok hr3 (by rfl) Pr.at_ Pr.kp Pr.bi .nil pass0 (pa_cons (pv 0) pa_nil)) pa_nil))) (pg_tup rfl (pgs_cons (pg_name (i := 1) scFits.nd rfl (.inr rfl)) (pgs_cons (pg_name (i := 2) scFits.nd rfl (.inl rfl)) pgs_nil))))
      (pss_cons (ps_for PassesOwn.never rfl (pi_range1 (by rfl) T.range (pa_cons pe_int pa_nil)) (pg_name (i := 3) scFits.nd rfl (.inl rfl))
        (pss_cons (ps_set (i := 4) scFits.nd rfl (.inr rfl) (pe_call Wr.ok hr1 (by rfl) Wr.at_ Wr.kp Wr.bi .nil pass0 (pa_cons (pv 1) (pa_cons (pv 2) pa_nil))))
        (pss_cons (ps_set (i := 5) scFits.nd rfl (.inl rfl) (pe_call To.ok hr6 (by rfl) To.at_ To.kp To.bi .nil pass0 (pa_cons (pv 1) (pa_cons (pv 2) pa_nil))))
        (pss_cons (ps_if (pt_cmpR op_isN (pv 4) pe_non (nomark _))
          (pss_cons (ps_setLc (i := 6) (own := [("at", 7), ("pace", 8)]) (g := gTup K 2 (gCons (gName 7) (gCons (gName 8) gNil))) rfl scFits.nd rfl rfl (sw_true rfl rfl rfl (by decide +kernel)) (pi_list (pv 2))
          (blkOk_by (N := ["well", "paces", "pairs", "turn", "wrong", "told", "real", "at", "pace", "spot"]) (sc := defScope sFits) (by decide +kernel)) (fun _ _ _ _ _ => pg_tup rfl (pgs_cons (pg_name (i := 7) scFits.nd rfl (.inl rfl)) (pgs_cons (pg_name (i := 8) scFits.nd rfl (.inl rfl)) pgs_nil))) (fun _ _ _ _ _ => pts_one ((pt_cmpR op_ne (pe_ix (r := rIxL K) ix_list (pv 1) (pe_op op_mod (pe_callTy call_int1 (by rfl) T.int (by decide +kernel) (pa_cons (pv 7) pa_nil)) (pe_callB (r := rLen K) call_len_seq (by rfl) T.len PySem.boot_len (pa_cons (pv 1) pa_nil))) (fun _ _ => rfl)) (pv 8) (nomark _))))
          (fun _ _ _ _ _ => (pe_tup (pa_cons (pv 7) (pa_cons (pv 8) pa_nil)))))
          (pss_one (ps_ret (pe_cmpR op_eq (pe_callB (call_rep2 hgd hu) (by rfl) T.repr (by decide +kernel) (pa_cons (pv 5) pa_nil)) (pe_callB (call_rep2 hgd hu) (by rfl) T.repr (by decide +kernel) (pa_cons (pe_lst (pa_cons (pv 1) (pa_cons (pv 6) pa_nil))) pa_nil)) (nomark _)))))
          pss_nil)
        (pss_cons (ps_if (pt_cmpR op_ne (pe_callB (call_rep2 hgd hu) (by rfl) T.repr (by decide +kernel) (pa_cons (pv 5) pa_nil)) (pe_callB (call_rep2 hgd hu) (by rfl) T.repr (by decide +kernel) (pa_cons (pe_lst (pa_cons (pe_lc (own := [("spot", 9)]) (g := gName 9) (tt := tYes) rfl scFits.nd (pi_range1 (by rfl) T.range (pa_cons pe_int pa_nil))
          (blkOk_by (N := ["well", "paces", "pairs", "turn", "wrong", "told", "real", "at", "pace", "spot"]) (sc := defScope sFits) (by decide +kernel)) (fun _ _ _ _ _ => pg_name (i := 9) scFits.nd rfl (.inl rfl)) (fun _ _ _ _ _ => pts_nil)
          (fun _ _ _ _ _ => (pe_cmpR op_eq (pv 9) (pe_ix (r := rIxL K) ix_list (pv 4) pe_int (fun _ _ => rfl)) (nomark _)))) (pa_cons (pe_ix ix_list (pv 4) pe_int (fun _ _ => rfl)) pa_nil))) pa_nil)) (nomark _))
          (pss_one (ps_ret pe_bl))
          pss_nil)
        (pss_one (ps_asg (pe_call Md.ok hr1 (by rfl) Md.at_ Md.kp Md.bi .nil pass0 (pa_cons (pv 1) (pa_cons (pv 2) (pa_cons (pv 4) pa_nil)))) (pg_lst rfl (pgs_cons (pg_name (i := 1) scFits.nd rfl (.inr rfl)) (pgs_cons (pg_name (i := 2) scFits.nd rfl (.inl rfl)) pgs_nil))))))))))
      (pss_one (ps_ret pe_bl))), ?_⟩
    refine ⟨_, rfl, ⟨p, _, rfl, hW, by omega, fun aP xs H1 xl xb nP nPp h1 f1 w1 => ?_⟩⟩
    refine ⟨_, rfl, ⟨p, _, rfl, w1, by omega, fun aM ts ms H2 ml mb nM nMp h2 tp f2 w2 => ?_⟩⟩
    refine ⟨(by show 2 ≤ sizeLine; decide), fun t0 nt0 => ⟨t0, _, rfl, .inl (.inl upd_same), rfl, _, _, rfl, _, [], rfl, rfl, ?_⟩⟩
    have st := same_new (o := .tup [.ref aP, .ref aM]) nt0
    refine ⟨30, rfl, by decide, by decide, for_range (lo := 0) (n := 30) (fun i σ J => ∃ (aP aM : Addr) (y3 y4 y5 : Option V) (xs : List Int) (ts : List Addr) (ms : List (Int × Int)), σ = [some (.ref p), some (.ref aP), some (.ref aM), y3, y4, y5, none, none, none, none] ∧
        J aP = some (.lst (xs.map V.int)) ∧ aP ≠ p ∧ J aM = some (.lst (ts.map V.ref)) ∧ aM ≠ p ∧ Tups J ts ms ∧ xs.length ≤ 20 ∧ ms.length ≤ 3 ∧ (∀ x ∈ xs, Bnd x) ∧ (∀ m ∈ ms, Bnd m.1 ∧ Bnd m.2) ∧ Mu xs ms + i ≤ 26 ∧ Fr p H J ∧ Well J p (n + 200))
      ⟨aP, aM, none, none, none, xs, ts, ms, rfl, st _ _ (f2 _ _ h1 nPp), nPp, st _ _ h2, nMp, tp.same st, xl, ml, xb, mb, ?_, (f1.trans f2).trans (Fr.of st), (w2.same st).mono (by omega)⟩ ?_ ?_⟩
    · have := nbad_le xs
      unfold Mu
      split <;> split <;> omega
    · clear h1 h2 tp xl ml xb mb nP nM nPp nMp f1 f2 w1 w2 st nt0 xs ts ms aP aM
      rintro i σ J hi ⟨aP, aM, y3, y4, y5, xs, ts, ms, rfl, hP, nP, hM, nM, tp, xl, ml, xb, mb, mu, fJ, wJ⟩
      refine ⟨_, rfl, _, rfl, ⟨aP, aM, xs, ts, ms, rfl, hP, hM, tp, xl, ml, fun k' v J1 q hw s1 nq hq => ?_, fun hp fit => ?_⟩⟩
      · -- something is wrong
        have num := hw.num xl ml
        refine ⟨_, rfl, _, rfl, ⟨aP, aM, xs, ts, ms, rfl, s1 _ _ hP, s1 _ _ hM, tp.same s1, xl, ml, fun k2 v2 J2 q2 q1 hw2 s2 h2 h1 => ?_, fun hp fit => (hw.not hp fun j => fit_nobad fit j).elim⟩⟩
        obtain ⟨rfl, rfl⟩ := hw.one hw2
        have s02 := s1.trans s2
        refine ⟨_, rfl, rfl, _, rfl, ?_⟩
        have rE := rp_err (k := k') num.2.2.1 num.2.2.2
        refine ⟨_, rfl, q2, dErr k' v, 20, 3, rfl, .lst (SqL.of h2) (.cons (.lst (SqL.of h1) (dpAll_bools _)) (.cons (.int _) .nil)), rE, by decide, by decide, ?_⟩
        refine ⟨7, rfl, by decide, by decide, fun D hD => lc_range (lo := 0) (n := 7) (fun i J => J D = some (.lst ((List.range i).map fun (j : Nat) => V.bl (decide ((j : Int) = k')))) ∧ Same J2 J) ⟨upd_same, same_new hD⟩ ?_ ?_⟩
        · rintro j J3 hj ⟨hJ3, sJ3⟩
          refine ⟨rfl, _, rfl, _, rfl, q, _, 0, _, rfl, rfl, SqL.of ((s2.trans sJ3) _ _ hq), rfl, rfl, ?_⟩
          refine ⟨_, hJ3, by rw [List.length_map, List.length_range]; exact small1000 (by omega), ?_, fun c o e => ?_⟩
          · rw [upd_same, List.range_succ, List.map_append]
            have e : decide (V.int ((0 : Int) + j) = V.int k') = decide ((j : Int) = k') := by
              rw [decide_eq_decide]
              constructor
              · intro z
                injection z with z
                omega
              · intro z
                rw [← z]
                congr 1
                omega
            rw [e]
            rfl
          · rw [upd_ne (ne_of_none e hD)]
            exact sJ3 c o e
        rintro J3 ⟨hJ3, sJ3⟩
        have hJ3 : J3 D = some (.lst ((flags k').map V.bl)) := by
          unfold flags
          rw [List.map_map]
          exact hJ3
        have s23 := s2.trans sJ3
        refine ⟨_, rfl, q, _, 1, _, rfl, rfl, SqL.of (s23 _ _ hq), rfl, (by show 2 ≤ sizeLine; decide), fun g m => ?_⟩
        have sg := same_new (o := .lst [.ref D, .int v]) m
        refine ⟨g, dErr k' v, 20, 3, rfl, .lst (SqL.of upd_same) (.cons (.lst (SqL.of (sg _ _ hJ3)) (dpAll_bools _)) (.cons (.int _) .nil)), rE, by decide, by decide, rfl, _, rfl, ?_⟩
        rw [decide_eq_true rfl]
        refine ite2 (fun g => absurd g (by decide)) (fun _ => ?_)
        have s04 := (s02.trans sJ3).trans sg
        have s14 := s23.trans sg
        refine ⟨_, rfl, _, rfl, _, rfl, ⟨aP, aM, q, xs, ts, ms, k', v, rfl, s04 _ _ hP, s04 _ _ hM, tp.same s04, s14 _ _ hq, xl, ml, xb, mb, hw, fun g2 a' b' xs' ts' ms' J5 s5 hg ha' hb' tp' xl' ml' xb' mb' mu' na nb => ?_⟩⟩
        have w4 := wJ.same s04
        refine ⟨g2, _, rfl, SqL.of hg, rfl, _, _, rfl, _, [], rfl, rfl, ?_⟩
        refine ⟨a', b', _, _, _, xs', ts', ms', rfl, ha', ?_, hb', ?_, tp', xl', ml', xb', mb', by omega, fJ.trans (Fr.of (s04.trans s5)), w4.same s5⟩
        · rcases na with rfl | na
          · exact nP
          · exact (w4.ne na).symm
        · rcases nb with rfl | nb
          · exact nM
          · exact (w4.ne nb).symm
      · -- all is right
        refine ⟨_, rfl, _, rfl, ⟨aP, aM, xs, ts, ms, rfl, hP, hM, tp, xl, ml, fun k2 v2 J2 q2 q1 hw2 s2 h2 h1 => (hw2.not hp fun j => fit_nobad fit j).elim, fun _ _ J2 g g1 g2 us s2 hg h1 h2 up => ?_⟩⟩
        refine ⟨_, rfl, rfl, _, rfl, ?_⟩
        have hP2 := s2 _ _ hP
        have hM2 := s2 _ _ hM
        have tp2 := tp.same s2
        have tl := tp.len
        have l0 := hp.len0
        refine ⟨_, rfl, aM, rfl, ⟨_, SqL.of hM2⟩, fun E nE => lc_list (K := K) (a := aM) (xs := ts.map V.ref) (fun i J3 => ∃ vs : List Addr, J3 E = some (.lst (vs.map V.ref)) ∧ Tups J3 vs (realOf xs (ms.take i)) ∧ Same J2 J3)
          ⟨[], upd_same, trivial, same_new nE⟩ (fun i J3 _ ⟨_, _, _, h⟩ => SqL.of (h _ _ hM2)) ?_ ?_⟩
        · rintro j y J3 hj' ⟨vs, hV, hvs, sV⟩
          have hj2 : j < ts.length := by
            have := (List.getElem?_eq_some_iff.mp hj').1
            simpa using this
          rw [List.getElem?_map, List.getElem?_eq_getElem hj2] at hj'
          obtain rfl := Option.some.inj hj'
          obtain ⟨m, hm', hm2⟩ := (tp2.same sV).get (List.getElem?_eq_getElem hj2)
          have et : ms.take (j + 1) = ms.take j ++ [m] := by rw [List.take_add_one, hm']; rfl
          have hP3 := sV _ _ hP2
          refine ⟨_, _, rfl, .inl (.inl hm2), rfl, _, _, rfl, _, [], rfl, rfl, rfl, ?_⟩
          refine ⟨_, rfl, _, rfl, .inl ⟨_, rfl, _, rfl, aP, _, rfl, .inl (SqL.of hP3), _, _, rfl, rfl, (by rw [List.length_map]; omega), aP, _, _, .int (paceOf xs m.1), rfl, rfl, SqL.of hP3, (by rw [List.length_map]; exact atI_pace l0), _, rfl, rfl, ?_⟩⟩
          have ei : decide (V.int (paceOf xs m.1) = V.int m.2) = decide (m.2 = paceOf xs m.1) := by
            rw [decide_eq_decide]
            exact ⟨fun e => by injection e with e; exact e.symm, fun e => by rw [e]⟩
          rw [ei]
          by_cases hc : m.2 = paceOf xs m.1
          · rw [decide_eq_true hc]
            refine ⟨false, rfl, vs, hV, ?_, sV⟩
            rw [et]
            unfold realOf
            rw [List.filter_append]
            have : List.filter (fun m => decide (m.2 ≠ paceOf xs m.1)) [m] = [] := by simp [hc]
            rw [this, List.append_nil]
            exact hvs
          · rw [decide_eq_false hc]
            refine ⟨true, rfl, _, rfl, _, rfl, (by show 2 ≤ sizeLine; decide), fun u nu => ?_⟩
            have gu := same_new (o := .tup [.int m.1, .int m.2]) nu
            have vl := hvs.len
            have vl2 : (realOf xs (ms.take j)).length ≤ 3 := Nat.le_trans (List.length_filter_le _ _) (by rw [List.length_take]; omega)
            refine ⟨_, gu _ _ hV, by rw [List.length_map]; exact small1000 (by omega), vs ++ [u], ?_, ?_, fun c o e => ?_⟩
            · rw [upd_same, List.map_append]
              rfl
            · rw [et]
              have er : realOf xs (ms.take j ++ [m]) = realOf xs (ms.take j) ++ [m] := by
                unfold realOf
                rw [List.filter_append]
                have : List.filter (fun m => decide (m.2 ≠ paceOf xs m.1)) [m] = [m] := by simp [hc]
                rw [this]
              rw [er]
              exact ((hvs.same gu).snoc (m := m) upd_same).put (gu _ _ hV)
            · rw [upd_ne (ne_of_none e nE)]
              exact gu _ _ (sV c o e)
        rintro J3 ⟨vs, hV, hvs, sV⟩
        rw [List.length_map, tl, List.take_length] at hvs
        have rb : ∀ m ∈ realOf xs ms, -10 ^ 40 < m.1 ∧ m.1 < 10 ^ 40 ∧ -10 ^ 40 < m.2 ∧ m.2 < 10 ^ 40 := fun m hm => by
          obtain ⟨⟨b1, b2⟩, b3, b4⟩ := mb m (List.mem_filter.mp hm).1
          exact ⟨by omega, by omega, by omega, by omega⟩
        have rl : (realOf xs ms).length ≤ 3 := Nat.le_trans (List.length_filter_le _ _) ml
        have rD : Rp (.list [dInts xs, dMarks (realOf xs ms)]) 100 6 := (Rp.list (.cons (rp_ints fun v hv => by have := xb v hv; unfold Bnd at this; omega) (.cons (rp_marks rb) .nil))).mono (by omega) (by omega)
        refine ⟨_, rfl, g, _, 100, 6, rfl, .lst (SqL.of (sV _ _ hg)) (.cons (dp_ints (SqL.of (sV _ _ h1))) (.cons (dp_marks (SqL.of (sV _ _ h2)) (up.same sV)) .nil)), rD, by decide, by decide, ?_⟩
        refine ⟨_, rfl, _, rfl, (by show 2 ≤ sizeLine; decide), fun z nz => ?_⟩
        have sz := same_new (o := .lst [.ref aP, .ref E]) nz
        refine ⟨z, _, 100, 6, rfl, .lst (SqL.of upd_same) (.cons (dp_ints (SqL.of (sz _ _ (sV _ _ hP2)))) (.cons (dp_marks (SqL.of (sz _ _ hV)) (hvs.same sz)) .nil)), rD, by decide, by decide, rfl, ?_⟩
        rw [decide_eq_true rfl]
        have sAll := (s2.trans sV).trans sz
        exact k _ (fJ.trans (Fr.of sAll)) ((wJ.same sAll).mono (by omega))
    · rintro σ J ⟨_, _, _, _, _, _, _, _, _, _, _, _, _, _, _, _, _, _, mu, _⟩
      omega
end

theorem kit_eq {K : PySem.W.Frag} {D : Addr} : PySem.W.kitOne K (.ref D) (.ref D) = some true := if_pos (beq_self_eq_true _)
theorem kit_ne {K : PySem.W.Frag} {D C : Addr} (h : PySem.W.subIn K (.ref D) (.ref C) = some false) (hD : PySem.W.subIn K (.ref D) (.ref D) = some true) (hd : PySem.W.hasDictIn K C = true) (ht : PySem.W.typeIn K (.ref C) = some (.type "type")) : PySem.W.kitOne K (.ref D) (.ref C) = some false := by
  have ne : D ≠ C := fun e => by
    subst e
    rw [h] at hD
    cases hD
  have n2 : ¬ (Value.ref D == Value.ref C) = true := fun q => ne (Value.ref.inj (beq_iff_eq.mp q))
  obtain ⟨cd, hc, _⟩ := PySem.W.any_some hd
  have e2 : ((PySem.W.clsIn K C).isSome && PySem.W.typeIn K (.ref C) == some (.type "type")) = true := by rw [hc, ht] <;> rfl
  show (if (Value.ref D == Value.ref C) = true then some true else PySem.W.kitCls K (.ref D) (.ref C)) = some false
  rw [if_neg n2]
  show (if ((PySem.W.clsIn K C).isSome && PySem.W.typeIn K (.ref C) == some (.type "type")) = true then PySem.W.subIn K (.ref D) (.ref C) else none) = some false
  rw [if_pos e2]
  exact h
section
theorem all_mk {l : PySem.W.OpenLaw} {w : World} {K : PySem.W.Frag} {h : Heap} {mg : Str → Option Value} {fa C CD CW CS CN CC CA CU CR fE f0 f1 f2 f3 f4 f5 f6 f7 f8 f9 f10 f11 f12 f13 f14 f15 f16 f17 p17 f18 p18 : Addr} (X : K.In h) (G : h.Ns mainGlobals mg) (hfa : mg "law" = some (.ref fa))
    {oc0 kV0 dc0 pm0 cd0 ct0 : Value} {od0 an0 : Option Addr} {sl0 : Array (Option Value)}
    {oc1 kV1 dc1 pm1 cd1 ct1 : Value} {od1 an1 : Option Addr} {sl1 : Array (Option Value)}
    {oc2 kV2 dc2 pm2 cd2 ct2 : Value} {od2 an2 : Option Addr} {sl2 : Array (Option Value)}
    {oc3 kV3 dc3 pm3 cd3 ct3 : Value} {od3 an3 : Option Addr} {sl3 : Array (Option Value)}
    {oc4 kV4 dc4 pm4 cd4 ct4 : Value} {od4 an4 : Option Addr} {sl4 : Array (Option Value)}
    {oc5 kV5 dc5 pm5 cd5 ct5 : Value} {od5 an5 : Option Addr} {sl5 : Array (Option Value)}
    {oc6 kV6 dc6 pm6 cd6 ct6 : Value} {od6 an6 : Option Addr} {sl6 : Array (Option Value)}
    {oc7 kV7 dc7 pm7 cd7 ct7 : Value} {od7 an7 : Option Addr} {sl7 : Array (Option Value)}
    {oc8 kV8 dc8 pm8 cd8 ct8 : Value} {od8 an8 : Option Addr} {sl8 : Array (Option Value)}
    {oc9 kV9 dc9 pm9 cd9 ct9 : Value} {od9 an9 : Option Addr} {sl9 : Array (Option Value)}
    {oc10 kV10 dc10 pm10 cd10 ct10 : Value} {od10 an10 : Option Addr} {sl10 : Array (Option Value)}
    {oc11 kV11 dc11 pm11 cd11 ct11 : Value} {od11 an11 : Option Addr} {sl11 : Array (Option Value)}
    {oc12 kV12 dc12 pm12 cd12 ct12 : Value} {od12 an12 : Option Addr} {sl12 : Array (Option Value)}
    {oc13 kV13 dc13 pm13 cd13 ct13 : Value} {od13 an13 : Option Addr} {sl13 : Array (Option Value)}
    {oc14 kV14 dc14 pm14 cd14 ct14 : Value} {od14 an14 : Option Addr} {sl14 : Array (Option Value)}
    {oc15 kV15 dc15 pm15 cd15 ct15 : Value} {od15 an15 : Option Addr} {sl15 : Array (Option Value)}
    {oc16 kV16 dc16 pm16 cd16 ct16 : Value} {od16 an16 : Option Addr} {sl16 : Array (Option Value)}
    {rs17 : List Value}
    {oc17 kV17 dc17 pm17 cd17 ct17 : Value} {od17 an17 : Option Addr} {sl17 : Array (Option Value)}
    {rs18 : List Value}
    {oc18 kV18 dc18 pm18 cd18 ct18 : Value} {od18 an18 : Option Addr} {sl18 : Array (Option Value)}
    {t_GREATEST_WEEK : Tok}
    {t_GREATEST_SPEED : Tok}
    {nm_CW q_CW : Str} {N_CW : Addr} {bs_CW : List Value} {sn_CW : List Str} {sub_CW : List Value} {ab_CW : Bool} {col_CW : Option Bool} {dd_CW : Option Addr} {m0_CW m1_CW m2_CW m3_CW m5_CW : Option Value}
    {nm_CS q_CS : Str} {N_CS : Addr} {bs_CS : List Value} {sn_CS : List Str} {sub_CS : List Value} {ab_CS : Bool} {col_CS : Option Bool} {dd_CS : Option Addr} {m0_CS m1_CS m2_CS m3_CS m5_CS : Option Value}
    {nm_CN q_CN : Str} {N_CN : Addr} {bs_CN : List Value} {sn_CN : List Str} {sub_CN : List Value} {ab_CN : Bool} {col_CN : Option Bool} {dd_CN : Option Addr} {m0_CN m1_CN m2_CN m3_CN m5_CN : Option Value}
    {nm_CC q_CC : Str} {N_CC : Addr} {bs_CC : List Value} {sn_CC : List Str} {sub_CC : List Value} {ab_CC : Bool} {col_CC : Option Bool} {dd_CC : Option Addr} {m0_CC m1_CC m2_CC m3_CC m5_CC : Option Value}
    {ocE kVE dcE pmE cdE ctE : Value} {odE anE : Option Addr} {slE : Array (Option Value)}
    (aC : PySem.W.nsIn K mainGlobals "Calendar" = some (some (.ref C)))
    (a0 : PySem.W.nsIn K mainGlobals "check_week" = some (some (.ref f0)))
    (l0 : K.lookup f0 = some ⟨oc0, od0, .func (PySem.W.fnOf "check_week" "check_week" (defArgs sChkWeek) (defBody sChkWeek) (defScope sChkWeek) .none kV0 dc0 pm0 an0 cd0 ct0), sl0⟩)
    (c0 : PySem.W.codeIn K cd0 "check_week" = true)
    (k0 : PySem.W.keepIn K (.ref f0) = true)
    (a1 : PySem.W.nsIn K mainGlobals "is_behind" = some (some (.ref f1)))
    (l1 : K.lookup f1 = some ⟨oc1, od1, .func (PySem.W.fnOf "is_behind" "is_behind" (defArgs sBehind) (defBody sBehind) (defScope sBehind) .none kV1 dc1 pm1 an1 cd1 ct1), sl1⟩)
    (c1 : PySem.W.codeIn K cd1 "is_behind" = true)
    (k1 : PySem.W.keepIn K (.ref f1) = true)
    (a2 : PySem.W.nsIn K mainGlobals "is_speed" = some (some (.ref f2)))
    (l2 : K.lookup f2 = some ⟨oc2, od2, .func (PySem.W.fnOf "is_speed" "is_speed" (defArgs sIsSpeed) (defBody sIsSpeed) (defScope sIsSpeed) .none kV2 dc2 pm2 an2 cd2 ct2), sl2⟩)
    (c2 : PySem.W.codeIn K cd2 "is_speed" = true)
    (k2 : PySem.W.keepIn K (.ref f2) = true)
    (a3 : PySem.W.nsIn K mainGlobals "check_speeds" = some (some (.ref f3)))
    (l3 : K.lookup f3 = some ⟨oc3, od3, .func (PySem.W.fnOf "check_speeds" "check_speeds" (defArgs sChkSpeeds) (defBody sChkSpeeds) (defScope sChkSpeeds) .none kV3 dc3 pm3 an3 cd3 ct3), sl3⟩)
    (c3 : PySem.W.codeIn K cd3 "check_speeds" = true)
    (k3 : PySem.W.keepIn K (.ref f3) = true)
    (a4 : PySem.W.nsIn K mainGlobals "check_changes" = some (some (.ref f4)))
    (l4 : K.lookup f4 = some ⟨oc4, od4, .func (PySem.W.fnOf "check_changes" "check_changes" (defArgs sChkChanges) (defBody sChkChanges) (defScope sChkChanges) .none kV4 dc4 pm4 an4 cd4 ct4), sl4⟩)
    (c4 : PySem.W.codeIn K cd4 "check_changes" = true)
    (k4 : PySem.W.keepIn K (.ref f4) = true)
    (a5 : PySem.W.nsIn K mainGlobals "_law_well" = some (some (.ref f5)))
    (l5 : K.lookup f5 = some ⟨oc5, od5, .func (PySem.W.fnOf "_law_well" "_law_well" (defArgs sWell) (defBody sWell) (defScope sWell) .none kV5 dc5 pm5 an5 cd5 ct5), sl5⟩)
    (c5 : PySem.W.codeIn K cd5 "_law_well" = true)
    (k5 : PySem.W.keepIn K (.ref f5) = true)
    (a6 : PySem.W.nsIn K mainGlobals "_law_take" = some (some (.ref f6)))
    (l6 : K.lookup f6 = some ⟨oc6, od6, .func (PySem.W.fnOf "_law_take" "_law_take" (defArgs sTake) (defBody sTake) (defScope sTake) .none kV6 dc6 pm6 an6 cd6 ct6), sl6⟩)
    (c6 : PySem.W.codeIn K cd6 "_law_take" = true)
    (k6 : PySem.W.keepIn K (.ref f6) = true)
    (a7 : PySem.W.nsIn K mainGlobals "_law_number" = some (some (.ref f7)))
    (l7 : K.lookup f7 = some ⟨oc7, od7, .func (PySem.W.fnOf "_law_number" "_law_number" (defArgs sNumber) (defBody sNumber) (defScope sNumber) .none kV7 dc7 pm7 an7 cd7 ct7), sl7⟩)
    (c7 : PySem.W.codeIn K cd7 "_law_number" = true)
    (k7 : PySem.W.keepIn K (.ref f7) = true)
    (a8 : PySem.W.nsIn K mainGlobals "_law_odd" = some (some (.ref f8)))
    (l8 : K.lookup f8 = some ⟨oc8, od8, .func (PySem.W.fnOf "_law_odd" "_law_odd" (defArgs sOdd) (defBody sOdd) (defScope sOdd) .none kV8 dc8 pm8 an8 cd8 ct8), sl8⟩)
    (c8 : PySem.W.codeIn K cd8 "_law_odd" = true)
    (k8 : PySem.W.keepIn K (.ref f8) = true)
    (a9 : PySem.W.nsIn K mainGlobals "_law_weeks" = some (some (.ref f9)))
    (l9 : K.lookup f9 = some ⟨oc9, od9, .func (PySem.W.fnOf "_law_weeks" "_law_weeks" (defArgs sWeeksL) (defBody sWeeksL) (defScope sWeeksL) .none kV9 dc9 pm9 an9 cd9 ct9), sl9⟩)
    (c9 : PySem.W.codeIn K cd9 "_law_weeks" = true)
    (k9 : PySem.W.keepIn K (.ref f9) = true)
    (a10 : PySem.W.nsIn K mainGlobals "_law_pairs" = some (some (.ref f10)))
    (l10 : K.lookup f10 = some ⟨oc10, od10, .func (PySem.W.fnOf "_law_pairs" "_law_pairs" (defArgs sPairsL) (defBody sPairsL) (defScope sPairsL) .none kV10 dc10 pm10 an10 cd10 ct10), sl10⟩)
    (c10 : PySem.W.codeIn K cd10 "_law_pairs" = true)
    (k10 : PySem.W.keepIn K (.ref f10) = true)
    (a11 : PySem.W.nsIn K mainGlobals "_law_wrong" = some (some (.ref f11)))
    (l11 : K.lookup f11 = some ⟨oc11, od11, .func (PySem.W.fnOf "_law_wrong" "_law_wrong" (defArgs sWrong) (defBody sWrong) (defScope sWrong) .none kV11 dc11 pm11 an11 cd11 ct11), sl11⟩)
    (c11 : PySem.W.codeIn K cd11 "_law_wrong" = true)
    (k11 : PySem.W.keepIn K (.ref f11) = true)
    (a12 : PySem.W.nsIn K mainGlobals "_law_mended" = some (some (.ref f12)))
    (l12 : K.lookup f12 = some ⟨oc12, od12, .func (PySem.W.fnOf "_law_mended" "_law_mended" (defArgs sMended) (defBody sMended) (defScope sMended) .none kV12 dc12 pm12 an12 cd12 ct12), sl12⟩)
    (c12 : PySem.W.codeIn K cd12 "_law_mended" = true)
    (k12 : PySem.W.keepIn K (.ref f12) = true)
    (a13 : PySem.W.nsIn K mainGlobals "_law_told" = some (some (.ref f13)))
    (l13 : K.lookup f13 = some ⟨oc13, od13, .func (PySem.W.fnOf "_law_told" "_law_told" (defArgs sTold) (defBody sTold) (defScope sTold) .none kV13 dc13 pm13 an13 cd13 ct13), sl13⟩)
    (c13 : PySem.W.codeIn K cd13 "_law_told" = true)
    (k13 : PySem.W.keepIn K (.ref f13) = true)
    (a14 : PySem.W.nsIn K mainGlobals "_law_fits" = some (some (.ref f14)))
    (l14 : K.lookup f14 = some ⟨oc14, od14, .func (PySem.W.fnOf "_law_fits" "_law_fits" (defArgs sFits) (defBody sFits) (defScope sFits) .none kV14 dc14 pm14 an14 cd14 ct14), sl14⟩)
    (c14 : PySem.W.codeIn K cd14 "_law_fits" = true)
    (k14 : PySem.W.keepIn K (.ref f14) = true)
    (a15 : PySem.W.nsIn K mainGlobals "law" = some (some (.ref f15)))
    (l15 : K.lookup f15 = some ⟨oc15, od15, .func (PySem.W.fnOf "law" "law" (defArgs sLaw) (defBody sLaw) (defScope sLaw) .none kV15 dc15 pm15 an15 cd15 ct15), sl15⟩)
    (c15 : PySem.W.codeIn K cd15 "law" = true)
    (k15 : PySem.W.keepIn K (.ref f15) = true)
    (a16 : PySem.W.findIn K (.ref C) "__init__" = some (some (.ref f16)))
    (i16 : PySem.W.isFn K (.ref f16) = true)
    (j16 : PySem.W.fnIn K f16 = true)
    (l16 : K.lookup f16 = some ⟨oc16, od16, .func (PySem.W.fnOf "__init__" "Calendar.__init__" (defArgs sInit) (defBody sInit) (defScope sInit) .none kV16 dc16 pm16 an16 cd16 ct16), sl16⟩)
    (c16 : PySem.W.codeIn K cd16 "Calendar.__init__" = true)
    (k16 : PySem.W.keepIn K (.ref f16) = true)
    (a17 : PySem.W.findIn K (.ref C) "speeds" = some (some (.ref p17)))
    (g17 : PySem.W.specialIn K (.ref p17) "__get__" = some (some (.builtin "property.__get__")))
    (t17 : PySem.W.takesIn K (.ref p17) = some true)
    (r17 : PySem.W.recIn K p17 "property" = some (.ref f17 :: rs17))
    (l17 : K.lookup f17 = some ⟨oc17, od17, .func (PySem.W.fnOf "speeds" "Calendar.speeds" (defArgs sSpeeds) (defBody sSpeeds) (defScope sSpeeds) .none kV17 dc17 pm17 an17 cd17 ct17), sl17⟩)
    (c17 : PySem.W.codeIn K cd17 "Calendar.speeds" = true)
    (k17 : PySem.W.keepIn K (.ref f17) = true)
    (a18 : PySem.W.findIn K (.ref C) "changes" = some (some (.ref p18)))
    (g18 : PySem.W.specialIn K (.ref p18) "__get__" = some (some (.builtin "property.__get__")))
    (t18 : PySem.W.takesIn K (.ref p18) = some true)
    (r18 : PySem.W.recIn K p18 "property" = some (.ref f18 :: rs18))
    (l18 : K.lookup f18 = some ⟨oc18, od18, .func (PySem.W.fnOf "changes" "Calendar.changes" (defArgs sChanges) (defBody sChanges) (defScope sChanges) .none kV18 dc18 pm18 an18 cd18 ct18), sl18⟩)
    (c18 : PySem.W.codeIn K cd18 "Calendar.changes" = true)
    (k18 : PySem.W.keepIn K (.ref f18) = true)
    (z_int : PySem.W.nsIn K mainGlobals "int" = some none)
    (z_len : PySem.W.nsIn K mainGlobals "len" = some none)
    (z_abs : PySem.W.nsIn K mainGlobals "abs" = some none)
    (z_max : PySem.W.nsIn K mainGlobals "max" = some none)
    (z_min : PySem.W.nsIn K mainGlobals "min" = some none)
    (z_range : PySem.W.nsIn K mainGlobals "range" = some none)
    (z_repr : PySem.W.nsIn K mainGlobals "repr" = some none)
    (z_list : PySem.W.nsIn K mainGlobals "list" = some none)
    (z_enumerate : PySem.W.nsIn K mainGlobals "enumerate" = some none)
    (z_sum : PySem.W.nsIn K mainGlobals "sum" = some none)
    (z_divmod : PySem.W.nsIn K mainGlobals "divmod" = some none)
    (z_sorted : PySem.W.nsIn K mainGlobals "sorted" = some none)
    (z_zip : PySem.W.nsIn K mainGlobals "zip" = some none)
    (z_set : PySem.W.nsIn K mainGlobals "set" = some none)
    (z_isinstance : PySem.W.nsIn K mainGlobals "isinstance" = some none)
    (z_bool : PySem.W.nsIn K mainGlobals "bool" = some none)
    (q_GREATEST_WEEK : PySem.W.nsIn K mainGlobals "GREATEST_WEEK" = some (some (.int 12 t_GREATEST_WEEK)))
    (q_GREATEST_SPEED : PySem.W.nsIn K mainGlobals "GREATEST_SPEED" = some (some (.int 3 t_GREATEST_SPEED)))
    (pgC : PySem.W.plainGet K C Str.empty = true)
    (hdC : PySem.W.hasDictIn K C = true)
    (poC : PySem.W.plainOver K C = true)
    (saC : PySem.W.findIn K (.ref C) "__setattr__" = some (some (.builtin "object.__setattr__")))
    (mkC : PySem.W.makesIn K C = true)
    (kcC : PySem.W.keepIn K (.ref C) = true)
    (n_speeds : PySem.W.findIn K (.ref C) "_speeds" = some none)
    (n_changes : PySem.W.findIn K (.ref C) "_changes" = some none)
    (aCD : PySem.W.nsIn K mainGlobals "DueError" = some (some (.ref CD)))
    (tCD : PySem.W.typeIn K (.ref CD) = some (.type "type"))
    (dCD : PySem.W.hasDictIn K CD = true)
    (aCW : PySem.W.nsIn K mainGlobals "InvalidWeek" = some (some (.ref CW)))
    (tCW : PySem.W.typeIn K (.ref CW) = some (.type "type"))
    (dCW : PySem.W.hasDictIn K CW = true)
    (aCS : PySem.W.nsIn K mainGlobals "InvalidSpeed" = some (some (.ref CS)))
    (tCS : PySem.W.typeIn K (.ref CS) = some (.type "type"))
    (dCS : PySem.W.hasDictIn K CS = true)
    (aCN : PySem.W.nsIn K mainGlobals "NeverOpen" = some (some (.ref CN)))
    (tCN : PySem.W.typeIn K (.ref CN) = some (.type "type"))
    (dCN : PySem.W.hasDictIn K CN = true)
    (aCC : PySem.W.nsIn K mainGlobals "InvalidChange" = some (some (.ref CC)))
    (tCC : PySem.W.typeIn K (.ref CC) = some (.type "type"))
    (dCC : PySem.W.hasDictIn K CC = true)
    (aCA : PySem.W.nsIn K mainGlobals "InvalidAmount" = some (some (.ref CA)))
    (tCA : PySem.W.typeIn K (.ref CA) = some (.type "type"))
    (dCA : PySem.W.hasDictIn K CA = true)
    (aCU : PySem.W.nsIn K mainGlobals "UnlikeWeeks" = some (some (.ref CU)))
    (tCU : PySem.W.typeIn K (.ref CU) = some (.type "type"))
    (dCU : PySem.W.hasDictIn K CU = true)
    (aCR : PySem.W.nsIn K mainGlobals "NotRising" = some (some (.ref CR)))
    (tCR : PySem.W.typeIn K (.ref CR) = some (.type "type"))
    (dCR : PySem.W.hasDictIn K CR = true)
    (bCD : PySem.W.subIn K (.ref CD) (.type "BaseException") = some true)
    (xCW : K.lookup CW = some (excClassObj nm_CW q_CW CW N_CW bs_CW [.ref CD, .type "ValueError", .type "Exception", .type "BaseException", .type "object"] true sn_CW sub_CW ab_CW col_CW dd_CW m0_CW m1_CW m2_CW m3_CW m5_CW "ValueError.__new__"))
    (sCW : PySem.W.findIn K (.ref CW) "__setattr__" = some (some (.builtin "object.__setattr__")))
    (bCW : PySem.W.subIn K (.ref CW) (.type "BaseException") = some true)
    (kCW : PySem.W.keepIn K (.ref CW) = true)
    (vCW : PySem.W.findIn K (.ref CW) "value" = some none)
    (iCW : PySem.W.findIn K (.ref CW) "__init__" = some (some (.ref fE)))
    (gCW : PySem.W.findIn K (.ref CW) "__getattribute__" = some (some (.builtin "BaseException.__getattribute__")))
    (hCW : PySem.W.findIn K (.ref CW) "__getattr__" = some none)
    (lCW : PySem.W.findIn K (.ref CW) "__class__" = some (some (.builtin "object.__class__")))
    (mCW : PySem.W.mroIn K CW (.type "object") = some true)
    (uDCW : PySem.W.subIn K (.ref CW) (.ref CD) = some true)
    (uCWCW : PySem.W.subIn K (.ref CW) (.ref CW) = some true)
    (uCWCS : PySem.W.subIn K (.ref CW) (.ref CS) = some false)
    (uCWCN : PySem.W.subIn K (.ref CW) (.ref CN) = some false)
    (uCWCC : PySem.W.subIn K (.ref CW) (.ref CC) = some false)
    (uCWCA : PySem.W.subIn K (.ref CW) (.ref CA) = some false)
    (uCWCU : PySem.W.subIn K (.ref CW) (.ref CU) = some false)
    (uCWCR : PySem.W.subIn K (.ref CW) (.ref CR) = some false)
    (xCS : K.lookup CS = some (excClassObj nm_CS q_CS CS N_CS bs_CS [.ref CD, .type "ValueError", .type "Exception", .type "BaseException", .type "object"] true sn_CS sub_CS ab_CS col_CS dd_CS m0_CS m1_CS m2_CS m3_CS m5_CS "ValueError.__new__"))
    (sCS : PySem.W.findIn K (.ref CS) "__setattr__" = some (some (.builtin "object.__setattr__")))
    (bCS : PySem.W.subIn K (.ref CS) (.type "BaseException") = some true)
    (kCS : PySem.W.keepIn K (.ref CS) = true)
    (vCS : PySem.W.findIn K (.ref CS) "value" = some none)
    (iCS : PySem.W.findIn K (.ref CS) "__init__" = some (some (.ref fE)))
    (gCS : PySem.W.findIn K (.ref CS) "__getattribute__" = some (some (.builtin "BaseException.__getattribute__")))
    (hCS : PySem.W.findIn K (.ref CS) "__getattr__" = some none)
    (lCS : PySem.W.findIn K (.ref CS) "__class__" = some (some (.builtin "object.__class__")))
    (mCS : PySem.W.mroIn K CS (.type "object") = some true)
    (uDCS : PySem.W.subIn K (.ref CS) (.ref CD) = some true)
    (uCSCW : PySem.W.subIn K (.ref CS) (.ref CW) = some false)
    (uCSCS : PySem.W.subIn K (.ref CS) (.ref CS) = some true)
    (uCSCN : PySem.W.subIn K (.ref CS) (.ref CN) = some false)
    (uCSCC : PySem.W.subIn K (.ref CS) (.ref CC) = some false)
    (uCSCA : PySem.W.subIn K (.ref CS) (.ref CA) = some false)
    (uCSCU : PySem.W.subIn K (.ref CS) (.ref CU) = some false)
    (uCSCR : PySem.W.subIn K (.ref CS) (.ref CR) = some false)
    (xCN : K.lookup CN = some (excClassObj nm_CN q_CN CN N_CN bs_CN [.ref CD, .type "ValueError", .type "Exception", .type "BaseException", .type "object"] true sn_CN sub_CN ab_CN col_CN dd_CN m0_CN m1_CN m2_CN m3_CN m5_CN "ValueError.__new__"))
    (sCN : PySem.W.findIn K (.ref CN) "__setattr__" = some (some (.builtin "object.__setattr__")))
    (bCN : PySem.W.subIn K (.ref CN) (.type "BaseException") = some true)
    (kCN : PySem.W.keepIn K (.ref CN) = true)
    (vCN : PySem.W.findIn K (.ref CN) "value" = some none)
    (iCN : PySem.W.findIn K (.ref CN) "__init__" = some (some (.ref fE)))
    (gCN : PySem.W.findIn K (.ref CN) "__getattribute__" = some (some (.builtin "BaseException.__getattribute__")))
    (hCN : PySem.W.findIn K (.ref CN) "__getattr__" = some none)
    (lCN : PySem.W.findIn K (.ref CN) "__class__" = some (some (.builtin "object.__class__")))
    (mCN : PySem.W.mroIn K CN (.type "object") = some true)
    (uDCN : PySem.W.subIn K (.ref CN) (.ref CD) = some true)
    (uCNCW : PySem.W.subIn K (.ref CN) (.ref CW) = some false)
    (uCNCS : PySem.W.subIn K (.ref CN) (.ref CS) = some false)
    (uCNCN : PySem.W.subIn K (.ref CN) (.ref CN) = some true)
    (uCNCC : PySem.W.subIn K (.ref CN) (.ref CC) = some false)
    (uCNCA : PySem.W.subIn K (.ref CN) (.ref CA) = some false)
    (uCNCU : PySem.W.subIn K (.ref CN) (.ref CU) = some false)
    (uCNCR : PySem.W.subIn K (.ref CN) (.ref CR) = some false)
    (xCC : K.lookup CC = some (excClassObj nm_CC q_CC CC N_CC bs_CC [.ref CD, .type "ValueError", .type "Exception", .type "BaseException", .type "object"] true sn_CC sub_CC ab_CC col_CC dd_CC m0_CC m1_CC m2_CC m3_CC m5_CC "ValueError.__new__"))
    (sCC : PySem.W.findIn K (.ref CC) "__setattr__" = some (some (.builtin "object.__setattr__")))
    (bCC : PySem.W.subIn K (.ref CC) (.type "BaseException") = some true)
    (kCC : PySem.W.keepIn K (.ref CC) = true)
    (vCC : PySem.W.findIn K (.ref CC) "value" = some none)
    (iCC : PySem.W.findIn K (.ref CC) "__init__" = some (some (.ref fE)))
    (gCC : PySem.W.findIn K (.ref CC) "__getattribute__" = some (some (.builtin "BaseException.__getattribute__")))
    (hCC : PySem.W.findIn K (.ref CC) "__getattr__" = some none)
    (lCC : PySem.W.findIn K (.ref CC) "__class__" = some (some (.builtin "object.__class__")))
    (mCC : PySem.W.mroIn K CC (.type "object") = some true)
    (uDCC : PySem.W.subIn K (.ref CC) (.ref CD) = some true)
    (uCCCW : PySem.W.subIn K (.ref CC) (.ref CW) = some false)
    (uCCCS : PySem.W.subIn K (.ref CC) (.ref CS) = some false)
    (uCCCN : PySem.W.subIn K (.ref CC) (.ref CN) = some false)
    (uCCCC : PySem.W.subIn K (.ref CC) (.ref CC) = some true)
    (uCCCA : PySem.W.subIn K (.ref CC) (.ref CA) = some false)
    (uCCCU : PySem.W.subIn K (.ref CC) (.ref CU) = some false)
    (uCCCR : PySem.W.subIn K (.ref CC) (.ref CR) = some false)
    (icN : PySem.W.specialIn K (.builtin "object.__class__") "__get__" = some (some (.builtin "getset_descriptor.__get__")))
    (icT : PySem.W.takesIn K (.builtin "object.__class__") = some true)
    (lE : K.lookup fE = some ⟨ocE, odE, .func (PySem.W.fnOf "__init__" "DueError.__init__" (defArgs sErr) (defBody sErr) (defScope sErr) .none kVE dcE pmE anE cdE ctE), slE⟩)
    (cE : PySem.W.codeIn K cdE "DueError.__init__" = true)
    (kE : PySem.W.keepIn K (.ref fE) = true)
    (tE : PySem.W.typeIn K (.ref fE) = some (.type "function")) :
    ∃ fd : FuncData, (∀ (s : Shared) (v : Value), BindsTo s fd ⟨[v], []⟩ [("script", v)]) ∧ ∀ base : Heap, K.In base → base.Ns mainGlobals mg → FnG l.prog w K mg base 9 fa fd ["script"] (spLaw K) := by
  have e := hfa.symm.trans (PySem.W.mg_of X G a15)
  cases e
  have F_sChkWeek := fun_mk (st := sChkWeek) l0 c0 k0
  have b_sChkWeek := F_sChkWeek.binds (ps := ["number"]) fun _ _ _ _ _ _ us hl => match us, hl with | [_], _ => rfl
  have m_sChkWeek := PySem.W.mg_of X G a0
  have k_sChkWeek := k0
  have F_sBehind := fun_mk (st := sBehind) l1 c1 k1
  have b_sBehind := F_sBehind.binds (ps := ["changes", "index"]) fun _ _ _ _ _ _ us hl => match us, hl with | [_, _], _ => rfl
  have m_sBehind := PySem.W.mg_of X G a1
  have k_sBehind := k1
  have F_sIsSpeed := fun_mk (st := sIsSpeed) l2 c2 k2
  have b_sIsSpeed := F_sIsSpeed.binds (ps := ["number"]) fun _ _ _ _ _ _ us hl => match us, hl with | [_], _ => rfl
  have m_sIsSpeed := PySem.W.mg_of X G a2
  have k_sIsSpeed := k2
  have F_sChkSpeeds := fun_mk (st := sChkSpeeds) l3 c3 k3
  have b_sChkSpeeds := F_sChkSpeeds.binds (ps := ["speeds"]) fun _ _ _ _ _ _ us hl => match us, hl with | [_], _ => rfl
  have m_sChkSpeeds := PySem.W.mg_of X G a3
  have k_sChkSpeeds := k3
  have F_sChkChanges := fun_mk (st := sChkChanges) l4 c4 k4
  have b_sChkChanges := F_sChkChanges.binds (ps := ["changes"]) fun _ _ _ _ _ _ us hl => match us, hl with | [_], _ => rfl
  have m_sChkChanges := PySem.W.mg_of X G a4
  have k_sChkChanges := k4
  have F_sWell := fun_mk (st := sWell) l5 c5 k5
  have b_sWell := F_sWell.binds (ps := ["script", "place"]) fun _ _ _ _ _ _ us hl => match us, hl with | [_, _], _ => rfl
  have m_sWell := PySem.W.mg_of X G a5
  have k_sWell := k5
  have F_sTake := fun_mk (st := sTake) l6 c6 k6
  have b_sTake := F_sTake.binds (ps := ["well", "many"]) fun _ _ _ _ _ _ us hl => match us, hl with | [_, _], _ => rfl
  have m_sTake := PySem.W.mg_of X G a6
  have k_sTake := k6
  have F_sNumber := fun_mk (st := sNumber) l7 c7 k7
  have b_sNumber := F_sNumber.binds (ps := ["well"]) fun _ _ _ _ _ _ us hl => match us, hl with | [_], _ => rfl
  have m_sNumber := PySem.W.mg_of X G a7
  have k_sNumber := k7
  have F_sOdd := fun_mk (st := sOdd) l8 c8 k8
  have b_sOdd := F_sOdd.binds (ps := ["well"]) fun _ _ _ _ _ _ us hl => match us, hl with | [_], _ => rfl
  have m_sOdd := PySem.W.mg_of X G a8
  have k_sOdd := k8
  have F_sWeeksL := fun_mk (st := sWeeksL) l9 c9 k9
  have b_sWeeksL := F_sWeeksL.binds (ps := ["well"]) fun _ _ _ _ _ _ us hl => match us, hl with | [_], _ => rfl
  have m_sWeeksL := PySem.W.mg_of X G a9
  have k_sWeeksL := k9
  have F_sPairsL := fun_mk (st := sPairsL) l10 c10 k10
  have b_sPairsL := F_sPairsL.binds (ps := ["well"]) fun _ _ _ _ _ _ us hl => match us, hl with | [_], _ => rfl
  have m_sPairsL := PySem.W.mg_of X G a10
  have k_sPairsL := k10
  have F_sWrong := fun_mk (st := sWrong) l11 c11 k11
  have b_sWrong := F_sWrong.binds (ps := ["paces", "pairs"]) fun _ _ _ _ _ _ us hl => match us, hl with | [_, _], _ => rfl
  have m_sWrong := PySem.W.mg_of X G a11
  have k_sWrong := k11
  have F_sMended := fun_mk (st := sMended) l12 c12 k12
  have b_sMended := F_sMended.binds (ps := ["paces", "pairs", "wrong"]) fun _ _ _ _ _ _ us hl => match us, hl with | [_, _, _], _ => rfl
  have m_sMended := PySem.W.mg_of X G a12
  have k_sMended := k12
  have F_sTold := fun_mk (st := sTold) l13 c13 k13
  have b_sTold := F_sTold.binds (ps := ["paces", "pairs"]) fun _ _ _ _ _ _ us hl => match us, hl with | [_, _], _ => rfl
  have m_sTold := PySem.W.mg_of X G a13
  have k_sTold := k13
  have F_sFits := fun_mk (st := sFits) l14 c14 k14
  have b_sFits := F_sFits.binds (ps := ["well"]) fun _ _ _ _ _ _ us hl => match us, hl with | [_], _ => rfl
  have m_sFits := PySem.W.mg_of X G a14
  have k_sFits := k14
  have F_sLaw := fun_mk (st := sLaw) l15 c15 k15
  have b_sLaw := F_sLaw.binds (ps := ["script"]) fun _ _ _ _ _ _ us hl => match us, hl with | [_], _ => rfl
  have m_sLaw := PySem.W.mg_of X G a15
  have k_sLaw := k15
  have F_sInit := fun_mk (st := sInit) l16 c16 k16
  have b_sInit := F_sInit.binds (ps := ["self", "speeds", "changes"]) fun _ _ _ _ _ _ us hl => match us, hl with | [_, _, _], _ => rfl
  have h_sInit : Meth K C "__init__" f16 := ⟨a16, i16, k16⟩
  have MK : Mk K C f16 := ⟨mkC, a16, i16, kcC⟩
  have F_sSpeeds := fun_mk (st := sSpeeds) l17 c17 k17
  have b_sSpeeds := F_sSpeeds.binds (ps := ["self"]) fun _ _ _ _ _ _ us hl => match us, hl with | [_], _ => rfl
  have P_sSpeeds : PropOf K C "speeds" p17 f17 := ⟨a17, g17, t17, _, r17⟩
  have F_sChanges := fun_mk (st := sChanges) l18 c18 k18
  have b_sChanges := F_sChanges.binds (ps := ["self"]) fun _ _ _ _ _ _ us hl => match us, hl with | [_], _ => rfl
  have P_sChanges : PropOf K C "changes" p18 f18 := ⟨a18, g18, t18, _, r18⟩
  have n_int : mg "int" = none := PySem.W.mg_none_of X G z_int
  have n_len : mg "len" = none := PySem.W.mg_none_of X G z_len
  have n_abs : mg "abs" = none := PySem.W.mg_none_of X G z_abs
  have n_max : mg "max" = none := PySem.W.mg_none_of X G z_max
  have n_min : mg "min" = none := PySem.W.mg_none_of X G z_min
  have n_range : mg "range" = none := PySem.W.mg_none_of X G z_range
  have n_repr : mg "repr" = none := PySem.W.mg_none_of X G z_repr
  have n_list : mg "list" = none := PySem.W.mg_none_of X G z_list
  have n_enumerate : mg "enumerate" = none := PySem.W.mg_none_of X G z_enumerate
  have n_sum : mg "sum" = none := PySem.W.mg_none_of X G z_sum
  have n_divmod : mg "divmod" = none := PySem.W.mg_none_of X G z_divmod
  have n_sorted : mg "sorted" = none := PySem.W.mg_none_of X G z_sorted
  have n_zip : mg "zip" = none := PySem.W.mg_none_of X G z_zip
  have n_set : mg "set" = none := PySem.W.mg_none_of X G z_set
  have n_isinstance : mg "isinstance" = none := PySem.W.mg_none_of X G z_isinstance
  have n_bool : mg "bool" = none := PySem.W.mg_none_of X G z_bool
  have v_GREATEST_WEEK := PySem.W.mg_of X G q_GREATEST_WEEK
  have v_GREATEST_SPEED := PySem.W.mg_of X G q_GREATEST_SPEED
  have mgC := PySem.W.mg_of X G aC
  have clC : Cls K C := ⟨pgC, hdC, poC, saC⟩
  refine ⟨PySem.W.fnOf "law" "law" (defArgs sLaw) (defBody sLaw) (defScope sLaw) .none kV15 dc15 pm15 an15 cd15 ct15, fun s v => .of_eq rfl, fun base _ _ => ?_⟩
  have T : Blt mg := ⟨n_int, n_len, n_abs, n_max, n_min, n_range, n_repr, n_list⟩
  have Q : Con mg := ⟨⟨_, v_GREATEST_WEEK⟩, ⟨_, v_GREATEST_SPEED⟩, n_enumerate⟩
  have Z : Cal K mg C := ⟨clC, n_speeds, n_changes, mgC⟩
  have IS : At l.prog w K mg base 1 "is_speed" ["number"] spIsSpeed _ _ := ⟨ok_isSpeed F_sIsSpeed Q, m_sIsSpeed, k_sIsSpeed, b_sIsSpeed⟩
  have L : Tk l.prog w K mg base _ _ := ⟨ok_take F_sTake T, m_sTake, k_sTake, b_sTake⟩
  have B : Nb l.prog w K mg base _ _ := ⟨ok_number F_sNumber T L, m_sNumber, k_sNumber, b_sNumber⟩
  have W : At l.prog w K mg base 1 "_law_well" ["script", "place"] (spWell K) _ _ := ⟨ok_well F_sWell T, m_sWell, k_sWell, b_sWell⟩
  have W2 : Pp l.prog w K mg base C "speeds" (spSpeeds C) _ _ _ := ⟨P_sSpeeds, ok_speeds F_sSpeeds Z T, b_sSpeeds⟩
  have W3 : Pp l.prog w K mg base C "changes" (spChanges C) _ _ _ := ⟨P_sChanges, ok_changes F_sChanges Z T, b_sChanges⟩
  have Od : At l.prog w K mg base 2 "_law_odd" ["well"] spOdd _ _ := ⟨ok_odd F_sOdd L, m_sOdd, k_sOdd, b_sOdd⟩
  have Wk3 : At l.prog w K mg base 3 "_law_weeks" ["well"] spWeeksL _ _ := ⟨ok_weeksL F_sWeeksL T L Od, m_sWeeksL, k_sWeeksL, b_sWeeksL⟩
  have Wr : At l.prog w K mg base 1 "_law_wrong" ["paces", "pairs"] spPrsW _ _ := ⟨ok_wrong F_sWrong T, m_sWrong, k_sWrong, b_sWrong⟩
  have Md : At l.prog w K mg base 1 "_law_mended" ["paces", "pairs", "wrong"] spMended _ _ := ⟨ok_mended F_sMended, m_sMended, k_sMended, b_sMended⟩
  have ECW : ErrC K CW fE := ⟨⟨⟨_, _, _, _, _, _, _, _, _, _, _, _, _, _, _, xCW, rfl⟩, sCW, bCW, tCW, kCW⟩, vCW, iCW, ⟨gCW, hCW, bCW, dCW, lCW, icN, icT, mCW⟩⟩
  have ECS : ErrC K CS fE := ⟨⟨⟨_, _, _, _, _, _, _, _, _, _, _, _, _, _, _, xCS, rfl⟩, sCS, bCS, tCS, kCS⟩, vCS, iCS, ⟨gCS, hCS, bCS, dCS, lCS, icN, icT, mCS⟩⟩
  have ECN : ErrC K CN fE := ⟨⟨⟨_, _, _, _, _, _, _, _, _, _, _, _, _, _, _, xCN, rfl⟩, sCN, bCN, tCN, kCN⟩, vCN, iCN, ⟨gCN, hCN, bCN, dCN, lCN, icN, icT, mCN⟩⟩
  have ECC : ErrC K CC fE := ⟨⟨⟨_, _, _, _, _, _, _, _, _, _, _, _, _, _, _, xCC, rfl⟩, sCC, bCC, tCC, kCC⟩, vCC, iCC, ⟨gCC, hCC, bCC, dCC, lCC, icN, icT, mCC⟩⟩
  have R : Errs K mg CW CS CN CC fE := ⟨ECW, ECS, ECN, ECC, PySem.W.mg_of X G aCW, PySem.W.mg_of X G aCS, PySem.W.mg_of X G aCN, PySem.W.mg_of X G aCC, tE⟩
  have KI : KitE K CW CS CN CC CA CU CR CD := by
    refine ⟨fun k h0 h3 => ?_⟩
    rcases (show k = 0 ∨ k = 1 ∨ k = 2 ∨ k = 3 by omega) with rfl | rfl | rfl | rfl
    · exact ⟨kit_eq, kit_ne uCWCS uCWCW dCS tCS, kit_ne uCWCN uCWCW dCN tCN, kit_ne uCWCC uCWCW dCC tCC, kit_ne uCWCA uCWCW dCA tCA, kit_ne uCWCU uCWCW dCU tCU, kit_ne uCWCR uCWCW dCR tCR, PySem.W.exm_ref bCD dCD tCD uDCW⟩
    · exact ⟨kit_ne uCSCW uCSCS dCW tCW, kit_eq, kit_ne uCSCN uCSCS dCN tCN, kit_ne uCSCC uCSCS dCC tCC, kit_ne uCSCA uCSCS dCA tCA, kit_ne uCSCU uCSCS dCU tCU, kit_ne uCSCR uCSCS dCR tCR, PySem.W.exm_ref bCD dCD tCD uDCS⟩
    · exact ⟨kit_ne uCNCW uCNCN dCW tCW, kit_ne uCNCS uCNCN dCS tCS, kit_eq, kit_ne uCNCC uCNCN dCC tCC, kit_ne uCNCA uCNCN dCA tCA, kit_ne uCNCU uCNCN dCU tCU, kit_ne uCNCR uCNCN dCR tCR, PySem.W.exm_ref bCD dCD tCD uDCN⟩
    · exact ⟨kit_ne uCCCW uCCCC dCW tCW, kit_ne uCCCS uCCCC dCS tCS, kit_ne uCCCN uCCCC dCN tCN, kit_eq, kit_ne uCCCA uCCCC dCA tCA, kit_ne uCCCU uCCCC dCU tCU, kit_ne uCCCR uCCCC dCR tCR, PySem.W.exm_ref bCD dCD tCD uDCC⟩
  have F_sErr := fun_mk (st := sErr) lE cE kE
  have b_sErr := F_sErr.binds (ps := ["self", "value"]) fun _ _ _ _ _ _ us hl => match us, hl with | [_, _], _ => rfl
  have F1 : FnOk l.prog w K mg base CX0 1 fE _ ["self", "value"] (spErr K) := ok_err F_sErr
  have S0 : AtX l.prog w K mg base 3 "check_week" ["number"] (spChkWX CW) _ _ := ⟨ok_chkWX F_sChkWeek Q R F1 b_sErr, m_sChkWeek, k_sChkWeek, b_sChkWeek⟩
  have Bh0 : At l.prog w K mg base 1 "is_behind" ["changes", "index"] (spBehind K) _ _ := ⟨ok_behind F_sBehind, m_sBehind, k_sBehind, b_sBehind⟩
  have S1 : AtX l.prog w K mg base 4 "check_speeds" ["speeds"] (spChkSX K CW CS CN CC) _ _ := ⟨ok_chkSX F_sChkSpeeds Q T IS S0 R F1 b_sErr, m_sChkSpeeds, k_sChkSpeeds, b_sChkSpeeds⟩
  have S2 : AtX l.prog w K mg base 4 "check_changes" ["changes"] (spChkCX K CC) _ _ := ⟨ok_chkCX F_sChkChanges Q T IS Bh0 R F1 b_sErr, m_sChkChanges, k_sChkChanges, b_sChkChanges⟩
  have GI : FnOk l.prog w K mg base (L2.CX l.prog w) 5 _ _ ["self", "speeds", "changes"] (spInitX C CW CS CN CC K) := ok_initX F_sInit Z T S1 S2
  have Pr : At l.prog w K mg base 3 "_law_pairs" ["well"] spPrs _ _ := ⟨ok_prs F_sPairsL T L B Od, m_sPairsL, k_sPairsL, b_sPairsL⟩
  have To : At l.prog w K mg base 7 "_law_told" ["paces", "pairs"] spToldE _ _ := ⟨ok_toldE F_sTold T Z n_isinstance R KI (PySem.W.mg_of X G aCD) (PySem.W.mg_of X G aCA) (PySem.W.mg_of X G aCU) (PySem.W.mg_of X G aCR) MK GI b_sInit W2 W3, m_sTold, k_sTold, b_sTold⟩
  have GF : FnG l.prog w K mg base 8 _ _ ["well"] spFits := ok_fits F_sFits T Wk3 Pr Wr To Md
  exact ok_law (by decide) F_sLaw T W GF m_sFits k_sFits b_sFits
end
end DK
open PySem PySem.W PyProof.Rows
set_option maxRecDepth 100000 in
set_option maxHeartbeats 0 in
theorem PySem.Challenge.cw_dueclocks_k03_errors_of_calendars_holds : PySem.Challenge.rw_dueclocks_k03_errors_of_calendars.Holds := by
  w_on; o_law; k_head; (case hw => w_witness2)
  k_fill
  refine DK.walkG (l := PySem.Challenge.rw_dueclocks_k03_errors_of_calendars) (n := 63) (k := 9) (x := "script") (sp := DK.spLaw) rfl (by decide) rfl ⟨rfl, by decide, by decide⟩ (fun w h Y => PySem.W.kIn_of Y) ?F (fun J H a ns hl hO hS => ⟨a, ns, rfl, DK.Scr.of hO hS, hl, fun _ => rfl⟩)
  case F =>
    intro w mg fa h KX G hmg
    refine' DK.all_mk KX G hmg ?aC ?a0 ?l0 ?c0 ?k0 ?a1 ?l1 ?c1 ?k1 ?a2 ?l2 ?c2 ?k2 ?a3 ?l3 ?c3 ?k3 ?a4 ?l4 ?c4 ?k4 ?a5 ?l5 ?c5 ?k5 ?a6 ?l6 ?c6 ?k6 ?a7 ?l7 ?c7 ?k7 ?a8 ?l8 ?c8 ?k8 ?a9 ?l9 ?c9 ?k9 ?a10 ?l10 ?c10 ?k10 ?a11 ?l11 ?c11 ?k11 ?a12 ?l12 ?c12 ?k12 ?a13 ?l13 ?c13 ?k13 ?a14 ?l14 ?c14 ?k14 ?a15 ?l15 ?c15 ?k15 ?a16 ?i16 ?j16 ?l16 ?c16 ?k16 ?a17 ?g17 ?t17 ?r17 ?l17 ?c17 ?k17 ?a18 ?g18 ?t18 ?r18 ?l18 ?c18 ?k18 ?z_int ?z_len ?z_abs ?z_max ?z_min ?z_range ?z_repr ?z_list ?z_enumerate ?z_sum ?z_divmod ?z_sorted ?z_zip ?z_set ?z_isinstance ?z_bool ?q_GREATEST_WEEK ?q_GREATEST_SPEED ?pgC ?hdC ?poC ?saC ?mkC ?kcC ?n_speeds ?n_changes ?aCD ?tCD ?dCD ?aCW ?tCW ?dCW ?aCS ?tCS ?dCS ?aCN ?tCN ?dCN ?aCC ?tCC ?dCC ?aCA ?tCA ?dCA ?aCU ?tCU ?dCU ?aCR ?tCR ?dCR ?bCD ?xCW ?sCW ?bCW ?kCW ?vCW ?iCW ?gCW ?hCW ?lCW ?mCW ?uDCW ?uCWCW ?uCWCS ?uCWCN ?uCWCC ?uCWCA ?uCWCU ?uCWCR ?xCS ?sCS ?bCS ?kCS ?vCS ?iCS ?gCS ?hCS ?lCS ?mCS ?uDCS ?uCSCW ?uCSCS ?uCSCN ?uCSCC ?uCSCA ?uCSCU ?uCSCR ?xCN ?sCN ?bCN ?kCN ?vCN ?iCN ?gCN ?hCN ?lCN ?mCN ?uDCN ?uCNCW ?uCNCS ?uCNCN ?uCNCC ?uCNCA ?uCNCU ?uCNCR ?xCC ?sCC ?bCC ?kCC ?vCC ?iCC ?gCC ?hCC ?lCC ?mCC ?uDCC ?uCCCW ?uCCCS ?uCCCN ?uCCCC ?uCCCA ?uCCCU ?uCCCR ?icN ?icT ?lE ?cE ?kE ?tE
    (case aC => k_is)
    (case a0 => k_is)
    (case l0 => k_is)
    (case c0 => k_is)
    (case k0 => k_is)
    (case a1 => k_is)
    (case l1 => k_is)
    (case c1 => k_is)
    (case k1 => k_is)
    (case a2 => k_is)
    (case l2 => k_is)
    (case c2 => k_is)
    (case k2 => k_is)
    (case a3 => k_is)
    (case l3 => k_is)
    (case c3 => k_is)
    (case k3 => k_is)
    (case a4 => k_is)
    (case l4 => k_is)
    (case c4 => k_is)
    (case k4 => k_is)
    (case a5 => k_is)
    (case l5 => k_is)
    (case c5 => k_is)
    (case k5 => k_is)
    (case a6 => k_is)
    (case l6 => k_is)
    (case c6 => k_is)
    (case k6 => k_is)
    (case a7 => k_is)
    (case l7 => k_is)
    (case c7 => k_is)
    (case k7 => k_is)
    (case a8 => k_is)
    (case l8 => k_is)
    (case c8 => k_is)
    (case k8 => k_is)
    (case a9 => k_is)
    (case l9 => k_is)
    (case c9 => k_is)
    (case k9 => k_is)
    (case a10 => k_is)
    (case l10 => k_is)
    (case c10 => k_is)
    (case k10 => k_is)
    (case a11 => k_is)
    (case l11 => k_is)
    (case c11 => k_is)
    (case k11 => k_is)
    (case a12 => k_is)
    (case l12 => k_is)
    (case c12 => k_is)
    (case k12 => k_is)
    (case a13 => k_is)
    (case l13 => k_is)
    (case c13 => k_is)
    (case k13 => k_is)
    (case a14 => k_is)
    (case l14 => k_is)
    (case c14 => k_is)
    (case k14 => k_is)
    (case a15 => k_is)
    (case l15 => k_is)
    (case c15 => k_is)
    (case k15 => k_is)
    (case a16 => k_is)
    (case i16 => k_is)
    (case j16 => k_is)
    (case l16 => k_is)
    (case c16 => k_is)
    (case k16 => k_is)
    (case a17 => k_is)
    (case g17 => k_is)
    (case t17 => k_is)
    (case r17 => k_is)
    (case l17 => k_is)
    (case c17 => k_is)
    (case k17 => k_is)
    (case a18 => k_is)
    (case g18 => k_is)
    (case t18 => k_is)
    (case r18 => k_is)
    (case l18 => k_is)
    (case c18 => k_is)
    (case k18 => k_is)
    (case z_int => k_is)
    (case z_len => k_is)
    (case z_abs => k_is)
    (case z_max => k_is)
    (case z_min => k_is)
    (case z_range => k_is)
    (case z_repr => k_is)
    (case z_list => k_is)
    (case z_enumerate => k_is)
    (case z_sum => k_is)
    (case z_divmod => k_is)
    (case z_sorted => k_is)
    (case z_zip => k_is)
    (case z_set => k_is)
    (case z_isinstance => k_is)
    (case z_bool => k_is)
    (case q_GREATEST_WEEK => k_is)
    (case q_GREATEST_SPEED => k_is)
    (case pgC => k_is)
    (case hdC => k_is)
    (case poC => k_is)
    (case saC => k_is)
    (case mkC => k_is)
    (case kcC => k_is)
    (case n_speeds => k_is)
    (case n_changes => k_is)
    (case aCD => k_is)
    (case tCD => k_is)
    (case dCD => k_is)
    (case aCW => k_is)
    (case tCW => k_is)
    (case dCW => k_is)
    (case aCS => k_is)
    (case tCS => k_is)
    (case dCS => k_is)
    (case aCN => k_is)
    (case tCN => k_is)
    (case dCN => k_is)
    (case aCC => k_is)
    (case tCC => k_is)
    (case dCC => k_is)
    (case aCA => k_is)
    (case tCA => k_is)
    (case dCA => k_is)
    (case aCU => k_is)
    (case tCU => k_is)
    (case dCU => k_is)
    (case aCR => k_is)
    (case tCR => k_is)
    (case dCR => k_is)
    (case bCD => k_is)
    (case xCW => k_is)
    (case sCW => k_is)
    (case bCW => k_is)
    (case kCW => k_is)
    (case vCW => k_is)
    (case iCW => k_is)
    (case gCW => k_is)
    (case hCW => k_is)
    (case lCW => k_is)
    (case mCW => k_is)
    (case uDCW => k_is)
    (case uCWCW => k_is)
    (case uCWCS => k_is)
    (case uCWCN => k_is)
    (case uCWCC => k_is)
    (case uCWCA => k_is)
    (case uCWCU => k_is)
    (case uCWCR => k_is)
    (case xCS => k_is)
    (case sCS => k_is)
    (case bCS => k_is)
    (case kCS => k_is)
    (case vCS => k_is)
    (case iCS => k_is)
    (case gCS => k_is)
    (case hCS => k_is)
    (case lCS => k_is)
    (case mCS => k_is)
    (case uDCS => k_is)
    (case uCSCW => k_is)
    (case uCSCS => k_is)
    (case uCSCN => k_is)
    (case uCSCC => k_is)
    (case uCSCA => k_is)
    (case uCSCU => k_is)
    (case uCSCR => k_is)
    (case xCN => k_is)
    (case sCN => k_is)
    (case bCN => k_is)
    (case kCN => k_is)
    (case vCN => k_is)
    (case iCN => k_is)
    (case gCN => k_is)
    (case hCN => k_is)
    (case lCN => k_is)
    (case mCN => k_is)
    (case uDCN => k_is)
    (case uCNCW => k_is)
    (case uCNCS => k_is)
    (case uCNCN => k_is)
    (case uCNCC => k_is)
    (case uCNCA => k_is)
    (case uCNCU => k_is)
    (case uCNCR => k_is)
    (case xCC => k_is)
    (case sCC => k_is)
    (case bCC => k_is)
    (case kCC => k_is)
    (case vCC => k_is)
    (case iCC => k_is)
    (case gCC => k_is)
    (case hCC => k_is)
    (case lCC => k_is)
    (case mCC => k_is)
    (case uDCC => k_is)
    (case uCCCW => k_is)
    (case uCCCS => k_is)
    (case uCCCN => k_is)
    (case uCCCC => k_is)
    (case uCCCA => k_is)
    (case uCCCU => k_is)
    (case uCCCR => k_is)
    (case icN => k_is)
    (case icT => k_is)
    (case lE => k_is)
    (case cE => k_is)
    (case kE => k_is)
    (case tE => k_is)

