import PyProof.Rows.All
import Wide.All
import OpenK.AllK
import Wide.FinOn
import HandS.ForMost
import HandS.Codes
import HandS.Walk
import HandS.DictComp
import HandS.ListItems
import HandS.Property
import HandS.Wide
import HandS.Style
import HandS.More
import HandS.Defaults
import HandS.MakeKwOnly
import HandS.IsInst
import HandS.SetBool
import HandS.Strs
import HandS.Zip
import KE.DatumOrd
import KE.KDictZip
import HandS.SetFor
import HandS.TryOnly
import HandS.OwnEq
import HandS.DeepEq
import HandS.DictEq
import HandS.RaiseMore
import HandS.ExcInit
import HandS.IsInst
import PyProof.InstNe
import KE.KExcPX
import PyProof.ReprRoads
import PySem.Challenge.RW_dueclocks_k07_equal_calendars
set_option Elab.async false
set_option linter.all false
set_option maxRecDepth 100000
set_option maxHeartbeats 4000000
namespace DK
open PySem PySem.Spec PyProof.Rows L2

/-- a def that is only run where no repr is under way -/
structure FnG (P : Program) (w : World) (K : PySem.W.Frag) (mg : Str → Option Value) (b0 : Heap) (k : Nat) (f : Addr)
    (fd : FuncData) (ps : List Str) (sp : Sp) : Prop where
  size : ∀ vs H Q E, sp vs H Q E → vs.length = ps.length
  go : ∀ (B : Around) (stk : List Env) (s : Shared) (H : Hp) (ar : Args) (us : List Value) (vs : List V) (Q : VK) (E : XK),
    B.guards = some [] → Room k B → Env0 P w K mg b0 B stk s H → BindsTo s fd ar (ps.zip us) → Vals vs us → sp vs H Q E →
      codeAny (model P w) B (.call (.ref f) ar) (CR CX0 stk P w H s Q E) s

section
variable {P : Program} {w : World} {K : PySem.W.Frag} {mg : Str → Option Value} {b0 : Heap}

theorem okG {x qual : Str} {st : Stmt} {f : Addr} {fd : FuncData} {N ps : List Str} {k : Nat} {sp : Sp}
    (F : Fun K x qual st f fd) (S : FnScope N ps (defScope st)) (size : ∀ vs H Q E, sp vs H Q E → vs.length = ps.length)
    (body : ∀ (cdv : Value) (B : Around) (stk : List Env) (s : Shared) (H : Hp) (vs : List V) (Q : VK) (E : XK),
      B.guards = some [] → Room k (B.deeper (envOfC qual (defScope st) s.heap.objs.size f cdv)) → sp vs H Q E →
      ∃ t, PSs (cxOf CX0 P w K mg b0 N qual (defScope st) f cdv B stk s H E).nox (defBody st) t ∧
        t { nx := fun _ J => Q .non J, rt := Q } (start N vs) H) : FnG P w K mg b0 (k + 1) f fd ps sp := by
  obtain ⟨oc, od, kV, dc, pm, an, cv, ct, osl, rfl, hf, hcode⟩ := F.ex
  refine ⟨size, fun B stk s H ar us vs Q E hgd hr env hbi hv hs => ?_⟩
  have hlen := size _ _ _ _ hs
  have inK : K.In s.heap := env.mod.kin.keeps fun c u g => (env.bs c u g).1
  have noL : s.heap.NoLimit := env.mod.nolimit.keeps fun c u g => (env.bs c u g).1
  have kinds : ∀ z ∈ ps.zip us, (defScope st).names.lookup z.1 = some .local ∨
      ((defScope st).names.lookup z.1 = some .cell ∧
        ((cellsFrom (s.heap.objs.size + 1) (defScope st).names []).lookup z.1).isSome = true) := by
    rintro ⟨n, v⟩ hz
    rcases S.par n (List.of_mem_zip hz).1 with g | g
    · exact Or.inl g
    · exact Or.inr ⟨g, PySem.W.cellsFrom_some _ _ _ (Or.inl g)⟩
  refine codeAny_call_function hr.depth (inK _ _ hf) rfl S.co S.gen rfl (PySem.W.codeRec_of inK hcode) (hbi _ _ _ _ ?_)
  refine wpAny_newFunctionEnv_cells S.kind kinds fun en hen s2 inc => ?_
  subst hen
  refine ⟨noL.keeps inc.toInCall.keep, codeAny_func ?_⟩
  obtain ⟨t, ht0, hq⟩ := body cv B stk s H vs Q E hgd (hr.deeper _) hs
  have ht := ht0.nox
  have I : Inv (cxOf CX0 P w K mg b0 N qual (defScope st) f cv B stk s H E) [] (start N vs) H s2 := inv_start S hr.hd env hlen hv inc
  refine wpAny_mono (ht.run [] s2 (start N vs) H _ I hq) (fun fl s3 h3 => ?_) fun e s3 h3 => h3
  have close : ∀ {τ : L2.St} {J : Hp} {v : V} {u : Value}, Inv (cxOf CX0 P w K mg b0 N qual (defScope st) f cv B stk s H E) [] τ J s3 →
      RelV v u → Q v J → CE stk P w H s Q u s3 := fun {τ J v u} I3 rv q => ⟨v, J, I3.os, I3.bare, I3.base, I3.hok, rv, q⟩
  cases fl with
  | next =>
    obtain ⟨τ, J, I3, q⟩ := h3
    exact close (v := V.non) (u := Value.none) I3 rfl q
  | ret u =>
    obtain ⟨v, τ, J, I3, rv, q⟩ := h3
    exact close I3 rv q
  | cont =>
    obtain ⟨_, _, _, q⟩ := h3
    exact q.elim
  | brk =>
    obtain ⟨_, _, _, q⟩ := h3
    exact q.elim
end

section
variable {X : Cx}
/-- f(e, ..) of such a def -/
theorem pe_callG {k : Nat} {f : Addr} {fd : FuncData} {ps : List Str} {sp : Sp} {x : Str} {p pos : Pos} {e : Expr} {es : List Expr} {t : TA}
    (F : FnG X.prog X.w X.K X.mg X.base k f fd ps sp) (hgd : X.A.guards = some []) (hr : Room k X.A) (hg : Gl X x)
    (hm : X.mg x = some (.ref f)) (hk : PySem.W.keepIn X.K (.ref f) = true) (hb : Binds X.K fd ps []) (ha : PA X (e :: es) t)
    (hdb : (x == ("__debug__" : Str)) = false := by decide)
    (he : starEach (e :: es) X.env = (false, eval e X.env) :: starEach es X.env := by rfl)
    (hpl : (backTo pos (starEach es X.env)).any (·.1) = false := by rfl) :
    PE X (.Call (.Name x p) (e :: es) [] pos) (tCall sp [] E0 t) := by
  refine ⟨fun pins s σ H Q I h => ?_⟩
  refine wpAny_Call_Name_kw (ld_glob I hg hm ?_ hdb)
  refine PySem.W.callWith_K (h₀ := X.base) I.ok.mod.kin hk (thn (ha.run pos pins s σ H _ I h) fun us s1 hh => ?_) he hpl
  obtain ⟨vs, J, I1, r, q⟩ := hh
  refine ⟨I1.kIn, ?_⟩
  rw [List.append_nil] at q
  have hl : us.length = ps.length := r.length.symm.trans (F.size _ _ _ _ q)
  have bi := hb s1 us I1.kIn (by rw [List.append_nil]; exact hl)
  rw [List.append_nil] at bi
  refine wpAny_call (codeAny_mono (F.go X.A X.stack s1 J ⟨us, []⟩ us vs Q E0 hgd hr I1.env0 bi r q) fun res s2 hq => ?_)
  cases res with
  | error er => exact False.elim hq
  | ok fl =>
    cases fl with
    | ret u => exact I1.after hq
    | next => exact False.elim hq
    | brk => exact False.elim hq
    | cont => exact False.elim hq

/-- repr(x), x a list or a tuple of data -/
def rRepr (K : PySem.W.Frag) : List V → Hp → VK → Prop := fun xs H Q => ∃ (a : Addr) (d : PyData), xs = [.ref a] ∧ Dp K H (.ref a) d ∧
  d.showable = true ∧ d.hasDict = false ∧ d.depth ≤ 60 ∧ d.shown.length ≤ sizeLine ∧ Q (.str d.shown) H
theorem call_repr (hgd : X.A.guards = some []) (hu : X.A.units + 64 < cLine) : CallR X (.builtin "repr") (rRepr X.K) := by
  intro pins s σ H xs us Q I r h
  obtain ⟨a, d, rfl, hd, hs, hn, hdp, hz, q⟩ := h
  cases r with
  | cons r1 r2 =>
    cases r2
    rename_i u
    obtain rfl : u = Value.ref a := r1
    obtain ⟨as, rd⟩ := Dp.reads I d _ _ hd (show RelV (V.ref a) (Value.ref a) from rfl)
    refine repr_of_reads' rd hs (PyData.noDict_hsm hn) hgd (by omega) (fun _ _ e => e) (fun h' u tk hk => ?_) hz
    exact ⟨.str d.shown, H, I.kept hk, ⟨u, rfl⟩, q⟩
end

/-- what is hidden of the heap behind the top: the script alone, where it is not the module's own -/
structure Veil (P : Program) (w : World) (K : PySem.W.Frag) (h : Heap) (a : Addr) (ns : List Int) (H : Hp) : Prop where
  only : Only H
  at_ : SqL K H a (ns.map V.int)
  ok : HOk P w H h
  one : ∀ c, H c ≠ none → c = a
  out : H a ≠ none → K.lookup a = none

theorem veil_of {P : Program} {w : World} {K : PySem.W.Frag} {h : Heap} {a : Addr} {us : List Value} {ns : List Int} (inK : K.In h)
    (ha : h.get? a = some { cls := .type "list", data := .seq us.toArray }) (hi : IntsAre us ns) (hz : ns.length ≤ sizeLine) :
    ∃ H, Veil P w K h a ns H := by
  have rv := vals_ints hi
  cases hk : K.lookup a with
  | some o =>
    have e := (inK a o hk).symm.trans ha
    cases e
    refine ⟨fun _ => none, fun _ => Or.inl rfl, Or.inr ⟨_, us.toArray, _, hk, rfl, rfl, rfl, ?_, ?_⟩, fun c u z => ?_, fun c z => absurd rfl z, fun z => absurd rfl z⟩
    · rw [List.size_toArray, hi.length]
      exact hz
    · simpa using rv
    · exact nomatch (show (none : Option HO) = some u from z)
  | none =>
    let O : Obj := { cls := .type "list", data := .seq us.toArray }
    let H : Hp := fun c => if c = a then some (.frz O (.lst (ns.map V.int))) else none
    have hA : H a = some (.frz O (.lst (ns.map V.int))) := if_pos rfl
    have hN : ∀ c, c ≠ a → H c = none := fun c g => if_neg g
    refine ⟨H, fun c => ?_, Or.inl (Or.inr ⟨O, hA⟩), fun c u z => ?_, fun c z => ?_, fun _ => hk⟩
    · by_cases g : c = a
      · subst g
        exact Or.inr ⟨_, _, hA⟩
      · exact Or.inl (hN c g)
    · by_cases g : c = a
      · subst g
        have z2 := hA.symm.trans z
        cases z2
        refine ⟨ha, ?_, us, _, rv, ha⟩
        rw [List.length_map]
        exact hz
      · exact nomatch (hN c g).symm.trans z
    · by_cases g : c = a
      · exact g
      · exact absurd (hN c g) z

theorem lawG {P : Program} {w : World} {K : PySem.W.Frag} {mg mb : Str → Option Value} {k : Nat} {fa a : Addr} {fd : FuncData} {x : Str} {sp : Sp} {s : Shared} {us : List Value} {ns : List Int}
    (inK : K.In s.heap) (hmg : s.heap.Ns mainGlobals mg) (hmb : s.heap.Ns builtinsNs mb) (hbo : ∀ y : Str, y ≠ "__name__" → mb y = bootBuiltins y)
    (noL : s.heap.NoLimit) (gen : s.gens = #[]) (ha : s.heap.get? a = some { cls := .type "list", data := .seq us.toArray })
    (hi : IntsAre us ns) (hz : ns.length ≤ sizeLine) (hr : Room k callerA)
    (F : ∀ b0 : Heap, K.In b0 → b0.Ns mainGlobals mg → FnG P w K mg b0 k fa fd [x] sp)
    (bind : ∀ (t : Shared) (u : Value), BindsTo t fd ⟨[u], []⟩ [(x, u)])
    (hsp : ∀ H : Hp, Only H → SqL K H a (ns.map V.int) → sp [.ref a] H (fun v _ => v = .bl true) E0) :
    codeAny (model P w) callerA (.call (.ref fa) ⟨[.ref a], []⟩)
      (fun r t => r = .ok (.ret (.bool true)) ∧ OldK s.heap t.heap ∧ t.os = s.os ∧ AllBare t.gens) s := by
  obtain ⟨H, W⟩ := veil_of (P := P) (w := w) inK ha hi hz
  have through : ∀ {c : Addr} {o : Obj}, s.heap.get? c = some o → H c = none → (hidT s.heap H).get? c = some o := fun g n => hidT_get g n
  have dicts : ∀ {c : Addr} {o : Obj} {es : Array DictEntry} {ep : Nat}, s.heap.get? c = some o → o.data = .dict es ep → H c = none := by
    intro c o es ep g d
    by_cases n : H c = none
    · exact n
    · have := W.one c n
      subst this
      rw [ha] at g
      cases g
      exact nomatch d
  have names : ∀ {c : Addr} {m : Str → Option Value}, s.heap.Ns c m → (hidT s.heap H).Ns c m := fun {c m} ⟨o, es, ep, g, d, r⟩ => ⟨o, es, ep, through g (dicts g d), d, r⟩
  have inB : K.In (hidT s.heap H) := by
    intro c o g
    refine through (inK c o g) ?_
    by_cases n : H c = none
    · exact n
    · have e := W.one c n
      subst e
      rw [W.out n] at g
      exact nomatch g
  have md : Mod K mg (hidT s.heap H) := ⟨inB, names hmg, ⟨mb, names hmb, hbo⟩, noL.elim fun mc q => ⟨mc, names q.1, q.2⟩⟩
  have nil : ∀ c : Addr, c ∉ ([] : List Addr) := fun c q => nomatch q
  have env : Env0 P w K mg (hidT s.heap H) callerA [] s H :=
    ⟨rfl, md, fun c o g => of_hidT g, Nat.le_of_eq (hidT_size _ _), trivial, fun c q => absurd q (nil c), W.ok, .of_eq gen⟩
  refine codeAny_mono ((F _ inB (names hmg)).go callerA [] s H ⟨[.ref a], []⟩ [.ref a] [.ref a] _ _ rfl hr env (bind s (.ref a)) (.cons rfl .nil) (hsp H W.only W.at_)) fun r t q => ?_
  rcases r with er | fl
  · exact False.elim q
  · rcases fl with _ | _ | _ | u
    iterate 3 exact False.elim q
    · obtain ⟨v, H', os, bare, un, ok2, rv, rfl⟩ := q
      obtain rfl : u = Value.bool true := rv
      refine ⟨rfl, OldK.of_keep fun c o g => ?_, os, bare⟩
      by_cases n : H c = none
      · exact un.keep c o g n (fun z => absurd z (nil c)) (nil c)
      · rcases W.only c with z | ⟨O, xs, z⟩
        · exact absurd z n
        · have e1 := (W.ok c _ z).1
          have e2 := (ok2 c _ (un.frzs c O _ z)).1
          rw [g] at e1
          cases e1
          exact e2
/-- the end of a law row -/
theorem walkG {l : PySem.W.OpenLaw} {n k : Nat} {q : Program} {loose : List Str} {XP : (Str → Option Value) → Heap → Prop} {YP : World → Heap → Prop} {d : DefRec} {K : Params → PySem.W.Frag} {sp : PySem.W.Frag → Sp} {x : Str}
    (hn : l.most = some n) (hn2 : n ≤ sizeLine) (hdf : d.params.defaults = []) (hr : Room k callerA)
    (hY : ∀ (w : World) (h : Heap), YP w h → (K w.params).In h)
    (F : ∀ (w : World) (mg : Str → Option Value) (fa : Addr) (h : Heap), (K w.params).In h → h.Ns mainGlobals mg → mg d.name = some (.ref fa) →
      ∃ fd : FuncData, (∀ (t : Shared) (u : Value), BindsTo t fd ⟨[u], []⟩ [(x, u)]) ∧
        ∀ b0 : Heap, (K w.params).In b0 → b0.Ns mainGlobals mg → FnG l.prog w (K w.params) mg b0 k fa fd [x] (sp (K w.params)))
    (hsp : ∀ (J : PySem.W.Frag) (H : Hp) (a : Addr) (ns : List Int), ns.length ≤ n → Only H → SqL J H a (ns.map V.int) → sp J [.ref a] H (fun v _ => v = .bl true) E0) :
    PySem.W.WalkO q loose XP YP l.row.toRowW d [] (fun f vs => PySem.call f vs) := by
  refine Att.attach_call hn hdf fun w s₀ s₁ mg mb fa o pm cd doc a vs ns G Y ho hd hcd hmg hobj hints hlen hg => ?_
  have inK := hY w _ Y
  obtain ⟨fd, bi, hF⟩ := F w mg fa _ inK G.T.g hmg
  exact lawG inK G.T.g G.T.b G.T.builtins G.T.nolimit hg hobj hints (Nat.le_trans hlen hn2) hr hF bi fun H hO hS => hsp _ H a ns hlen hO hS
def top (i : Nat) : Stmt := PySem.Challenge.pw_dueclocks_k07_equal_calendars.main.body.getD i (.Pass ⟨0, 0, 0, 0⟩)
abbrev sWell : Stmt := top 22
abbrev sTake : Stmt := top 23
abbrev sNumber : Stmt := top 24
abbrev sPaces : Stmt := top 25
abbrev sMarks : Stmt := top 26
abbrev sFits : Stmt := top 30
abbrev sLaw : Stmt := top 31
abbrev sIsSpeed : Stmt := top 16
abbrev sChkSpeeds : Stmt := top 17
abbrev sChkChanges : Stmt := top 18
abbrev sInit : Stmt := inClass (top 20) 0
abbrev sWeek : Stmt := inClass (top 20) 1
abbrev sSpeeds : Stmt := inClass (top 20) 2
abbrev sChanges : Stmt := inClass (top 20) 3
abbrev sGet : Stmt := inClass (top 20) 4
abbrev sHas : Stmt := inClass (top 20) 6
abbrev sEq : Stmt := inClass (top 20) 10
abbrev sErr : Stmt := inClass (top 1) 0
abbrev sPace : Stmt := top 27
abbrev sWeeks : Stmt := top 10
abbrev sMoved : Stmt := inClass (top 20) 9
abbrev sOr : Stmt := inClass (top 20) 7
abbrev sAnd : Stmt := inClass (top 20) 8
abbrev sPairs : Stmt := top 19
abbrev sChanged : Stmt := top 13
abbrev sOther : Stmt := top 28
abbrev sSame : Stmt := top 29
abbrev sChkWeek : Stmt := top 9
abbrev sBehind : Stmt := top 11
/-! ### the well -/
def Fr (p : Addr) (H H' : Hp) : Prop := ∀ b o, H b = some o → b ≠ p → H' b = some o
theorem Fr.refl (p : Addr) (H : Hp) : Fr p H H := fun _ _ h _ => h
theorem Fr.trans {p : Addr} {H H1 H2 : Hp} (a : Fr p H H1) (b : Fr p H1 H2) : Fr p H H2 := fun c o h g => b c o (a c o h g) g
theorem Fr.of {p : Addr} {H H' : Hp} (a : Same H H') : Fr p H H' := fun c o h _ => a c o h
theorem Fr.at_ {p : Addr} {o : HO} {H : Hp} : Fr p H (upd H p o) := fun b u h g => by
  rw [upd_ne g]
  exact h
theorem Fr.new {p q : Addr} {o : HO} {H : Hp} (h : H q = none) : Fr p H (upd H q o) := fun b u e _ => by
  rw [upd_ne (ne_of_none e h)]
  exact e
theorem Fr.seq {K : PySem.W.Frag} {p a : Addr} {H H' : Hp} {xs : List V} (f : Fr p H H') (g : a ≠ p) (h : SqL K H a xs) : SqL K H' a xs := by
  rcases h with (h | ⟨o, h⟩) | h
  · exact .inl (.inl (f _ _ h g))
  · exact .inl (.inr ⟨o, f _ _ h g⟩)
  · exact .inr h
theorem same_new {H : Hp} {q : Addr} {o : HO} (h : H q = none) : Same H (upd H q o) := fun b u e => by
  rw [upd_ne (ne_of_none e h)]
  exact e
/-- a well at p, from which n or fewer draws were mixed -/
def Well (H : Hp) (p : Addr) (n : Nat) : Prop := ∃ a b c : Int, H p = some (.lst [.int a, .int b, .int c]) ∧ 0 ≤ b ∧ b < 2 ^ 62 ∧ 0 ≤ c ∧ c ≤ n
theorem Well.mono {H : Hp} {p : Addr} {n m : Nat} (h : Well H p n) (g : n ≤ m) : Well H p m := by
  obtain ⟨a, b, c, h1, h2, h3, h4, h5⟩ := h
  exact ⟨a, b, c, h1, h2, h3, h4, by omega⟩
theorem Well.same {H H' : Hp} {p : Addr} {n : Nat} (h : Well H p n) (g : Same H H') : Well H' p n := by
  obtain ⟨a, b, c, h1, h2⟩ := h
  exact ⟨a, b, c, g _ _ h1, h2⟩
theorem Well.new {H : Hp} {p q : Addr} {n : Nat} {o : HO} (h : Well H p n) (g : H q = none) : Well (upd H q o) p n := h.same (same_new g)
theorem Well.upd_ne {H : Hp} {p q : Addr} {n : Nat} {o : HO} (h : Well H p n) (g : p ≠ q) : Well (upd H q o) p n := by
  obtain ⟨a, b, c, h1, h2⟩ := h
  exact ⟨a, b, c, by rw [L2.upd_ne g]; exact h1, h2⟩
theorem Well.ne {H : Hp} {p q : Addr} {n : Nat} (h : Well H p n) (g : H q = none) : p ≠ q := by
  obtain ⟨a, b, c, h1, h2⟩ := h
  exact ne_of_none h1 g
def spTake : Sp := fun vs H Q _ => ∃ (p : Addr) (n : Nat) (m : Int), vs = [.ref p, .int m] ∧ Well H p n ∧ n ≤ 10 ^ 9 ∧ 0 < m ∧ m < 2 ^ 200 ∧
  ∀ (r : Int) (H' : Hp), 0 ≤ r → r < m → Fr p H H' → Well H' p (n + 1) → Q (.int r) H'
theorem spTake_ok {p : Addr} {n : Nat} {m : Int} {H : Hp} {Q : VK} {E : XK} (h : Well H p n) (hn : n ≤ 10 ^ 9) (h0 : 0 < m) (h1 : m < 2 ^ 200)
    (q : ∀ (r : Int) (H' : Hp), 0 ≤ r → r < m → Fr p H H' → Well H' p (n + 1) → Q (.int r) H') : spTake [.ref p, .int m] H Q E := ⟨p, n, m, rfl, h, hn, h0, h1, q⟩
/-- the built-in names are still the built-in ones -/
structure Blt (mg : Str → Option Value) : Prop where
  int : mg "int" = none
  len : mg "len" = none
  abs : mg "abs" = none
  max : mg "max" = none
  min : mg "min" = none
  range : mg "range" = none
  repr : mg "repr" = none
  list : mg "list" = none
theorem set0 (a b c v : V) : ([a, b, c] : List V).set 0 v = [v, b, c] := rfl
theorem set2 (a b c v : V) : ([a, b, c] : List V).set 2 v = [a, b, v] := rfl
section
variable {P : Program} {w : World} {K : PySem.W.Frag} {mg : Str → Option Value} {base : Heap}
theorem scTake : FnScope ["well", "many", "taken", "mixed"] ["well", "many"] (defScope sTake) := ⟨rfl, rfl, rfl, by decide +kernel, rfl, by decide +kernel, by decide +kernel⟩
theorem ok_take {f : Addr} {fd : FuncData} (F : Fun K "_law_take" "_law_take" sTake f fd) (T : Blt mg) : FnOk P w K mg base CX0 1 f fd ["well", "many"] spTake := by
  refine F.ok scTake (fun vs H Q E h => ?_) (fun cdv A outer s H vs Q E hr h => ?_)
  · obtain ⟨p, n, m, rfl, _⟩ := h
    rfl
  · obtain ⟨p, n, m, rfl, ⟨a, b, c, hp, b0, b1, c0, c1⟩, hn, m0, m1, k⟩ := h
    refine ⟨_, pss_cons (ps_if (pt_cmpR op_gt (pe_ix ix_list (pv 0) pe_int (fun _ _ => rfl)) pe_int (nomark _))
      (pss_cons (ps_set (i := 2) scTake.nd rfl (.inl rfl) (pe_op op_mod (pe_callTy call_int1 (by rfl) T.int (by decide +kernel) (pa_cons (pe_ix ix_list (pv 0) pe_int (fun _ _ => rfl)) pa_nil)) (pv 1)))
      (pss_cons (ps_asg (pe_op op_fdivW (pe_ix ix_list (pv 0) pe_int (fun _ _ => rfl)) (pv 1)) (pg_sub (pv 0) pe_int set_list))
      (pss_one (ps_ret (pv 2))))) pss_nil)
      (pss_cons (ps_asg (pe_op op_add (pe_ix ix_list (pv 0) pe_int (fun _ _ => rfl)) pe_int) (pg_sub (pv 0) pe_int set_list))
      (pss_cons (ps_set (i := 3) scTake.nd rfl (.inl rfl) (pe_op op_add (pe_op op_pow (pe_op op_add (pe_ix ix_list (pv 0) pe_int (fun _ _ => rfl)) (pe_op op_mul pe_int (pe_ix ix_list (pv 0) pe_int (fun _ _ => rfl)))) pe_int) (pe_op op_mul pe_int (pe_ix ix_list (pv 0) pe_int (fun _ _ => rfl)))))
      (pss_cons (ps_set (i := 3) scTake.nd rfl (.inl rfl) (pe_op op_add (pe_op op_mod (pe_callTy call_int1 (by rfl) T.int (by decide +kernel) (pa_cons (pv 3) pa_nil)) pe_int) (pe_op op_mul pe_int (pe_ix ix_list (pv 0) pe_int (fun _ _ => rfl)))))
      (pss_cons (ps_set (i := 3) scTake.nd rfl (.inl rfl) (pe_op op_mod (pe_callTy call_int1 (by rfl) T.int (by decide +kernel) (pa_cons (pe_op op_pow (pv 3) pe_int) pa_nil)) pe_int))
      (pss_one (ps_ret (pe_op op_mod (pe_callTy call_int1 (by rfl) T.int (by decide +kernel) (pa_cons (pe_op op_fdiv (pv 3) pe_int) pa_nil)) (pv 1)))))))), ?_⟩
    refine ⟨_, rfl, p, _, 0, _, rfl, rfl, SqL.of hp, atI_nat (j := 0) rfl, _, _, rfl, rfl, _, rfl, ite2 (fun hw => ?_) (fun hw => ?_)⟩
    · refine ⟨_, rfl, p, _, 0, _, rfl, rfl, SqL.of hp, atI_nat (j := 0) rfl, .inl ⟨_, rfl, _, rfl, a, m, rfl, rfl, m0, ?_⟩⟩
      refine ⟨_, rfl, p, _, 0, _, rfl, rfl, SqL.of hp, atI_nat (j := 0) rfl, _, rfl, a, m, rfl, rfl, wide_div (b := 200) m0 (by omega) (by decide) (by decide), ?_⟩
      refine ⟨_, rfl, p, _, 0, 0, rfl, rfl, hp, rfl, ?_⟩
      refine ⟨_, rfl, k _ _ (Int.emod_nonneg _ (by omega)) (Int.emod_lt_of_pos _ m0) Fr.at_ ⟨a / m, b, c, upd_same, b0, b1, c0, by omega⟩⟩
    · refine ⟨_, rfl, p, _, 2, _, rfl, rfl, SqL.of hp, atI_nat (j := 2) rfl, _, _, rfl, rfl, ?_⟩
      refine ⟨_, rfl, p, _, 2, 2, rfl, rfl, hp, rfl, ?_⟩
      rw [set2]
      generalize hH : upd H p (.lst [.int a, .int b, .int (c + 1)]) = H1
      have h1 : H1 p = some (.lst [.int a, .int b, .int (c + 1)]) := by rw [← hH]; exact upd_same
      have e1 : (0 : Int) ≤ 6700417 * (c + 1) := by omega
      refine ⟨_, rfl, p, _, 1, _, rfl, rfl, SqL.of h1, atI_nat (j := 1) rfl, _, rfl, p, _, 2, _, rfl, rfl, SqL.of h1, atI_nat (j := 2) rfl, _, _, rfl, rfl, .inl ⟨by decide, by decide⟩, _, _, rfl, rfl, _, _, rfl, rfl, ⟨by decide, by decide, by omega⟩,
        _, rfl, p, _, 2, _, rfl, rfl, SqL.of h1, atI_nat (j := 2) rfl, _, _, rfl, rfl, .inl ⟨by decide, by decide⟩, _, _, rfl, rfl, ?_⟩
      refine ⟨_, rfl, .inl ⟨_, rfl, _, _, rfl, rfl, (by show (0 : Int) < 2305843009213693951; decide), _, rfl, p, _, 2, _, rfl, rfl, SqL.of h1, atI_nat (j := 2) rfl, _, _, rfl, rfl, .inl ⟨by decide, by decide⟩, _, _, rfl, rfl, ?_⟩⟩
      generalize hx : ((b + 6700417 * (c + 1)) ^ (3 : Int).toNat + 97 * (c + 1)) % 2305843009213693951 = x
      have x0 : 0 ≤ x := by rw [← hx]; exact Int.emod_nonneg _ (by decide)
      have x1 : x < 2305843009213693951 := by rw [← hx]; exact Int.emod_lt_of_pos _ (by decide)
      refine ⟨_, rfl, _, _, rfl, rfl, ⟨by decide, by decide, by omega⟩, .inl ⟨_, rfl, _, _, rfl, rfl, (by show (0 : Int) < 618970019642690137449562111; decide), ?_⟩⟩
      refine ⟨_, rfl, _, _, rfl, rfl, ⟨by decide, by decide⟩, .inl ⟨_, rfl, _, rfl, _, _, rfl, rfl, m0, ?_⟩⟩
      refine k _ _ (Int.emod_nonneg _ (by omega)) (Int.emod_lt_of_pos _ m0) ?_ ⟨a, b, c + 1, h1, b0, b1, by omega, by omega⟩
      rw [← hH]
      exact Fr.at_
end

/-! ### the draws of a law -/
theorem atI_ints {xs : List Int} {i : Int} (h0 : 0 ≤ i) (h1 : i < xs.length) : ∃ v, v ∈ xs ∧ xs[i.toNat]? = some v ∧ atI (xs.map V.int) i = some (.int v) := by
  obtain ⟨j, rfl⟩ : ∃ j : Nat, i = (j : Int) := ⟨i.toNat, by omega⟩
  have hj : j < xs.length := by omega
  refine ⟨xs[j], List.getElem_mem hj, by simp [hj], atI_nat (j := j) ?_⟩
  rw [List.getElem?_map, List.getElem?_eq_getElem hj]
  rfl
def spWell (K : PySem.W.Frag) : Sp := fun vs H Q _ => ∃ (a : Addr) (ns : List Int) (i : Int), vs = [.ref a, .int i] ∧ SqL K H a (ns.map V.int) ∧ ns.length ≤ 63 ∧ 0 ≤ i ∧ i ≤ 63 ∧
  ∀ (p : Addr) (H' : Hp), H p = none → Same H H' → Well H' p 0 → Q (.ref p) H'
def spNumber : Sp := fun vs H Q _ => ∃ (p : Addr) (n : Nat), vs = [.ref p] ∧ Well H p n ∧ n ≤ 10 ^ 8 ∧
  ∀ (r : Int) (H' : Hp), -10 ^ 30 < r → r < 10 ^ 30 → Fr p H H' → Well H' p (n + 4) → Q (.int r) H'
/-- a list of speeds that a calendar may have -/
structure Paces (xs : List Int) : Prop where
  lo : ∀ v ∈ xs, 0 ≤ v ∧ v ≤ 3
  pos : ∃ v ∈ xs, v ≠ 0
  len0 : 0 < xs.length
  len1 : xs.length ≤ 12
def spPaces : Sp := fun vs H Q _ => ∃ (p : Addr) (n : Nat) (z : Int), vs = [.ref p, .int z] ∧ Well H p n ∧ n ≤ 10 ^ 8 ∧ 1 ≤ z ∧ z ≤ 12 ∧
  ∀ (q : Addr) (xs : List Int) (H' : Hp), Paces xs → (xs.length : Int) = z → H q = none → q ≠ p → H' q = some (.lst (xs.map V.int)) → Fr p H H' → Well H' p (n + 20) → Q (.ref q) H'
section
variable {P : Program} {w : World} {K : PySem.W.Frag} {mg : Str → Option Value} {base : Heap}
theorem scWell : FnScope ["script", "place", "cell", "seed"] ["script", "place"] (defScope sWell) := ⟨rfl, rfl, rfl, by decide +kernel, rfl, by decide +kernel, by decide +kernel⟩
theorem ok_well {f : Addr} {fd : FuncData} (F : Fun K "_law_well" "_law_well" sWell f fd) (T : Blt mg) : FnOk P w K mg base CX0 1 f fd ["script", "place"] (spWell K) := by
  refine F.ok scWell (fun vs H Q E h => ?_) (fun cdv A outer s H vs Q E hr h => ?_)
  · obtain ⟨a, ns, i, rfl, _⟩ := h
    rfl
  · obtain ⟨a, ns, i, rfl, hS, hl, i0, i1, k⟩ := h
    refine ⟨_, pss_cons (ps_set (i := 2) scWell.nd rfl (.inl rfl) pe_int)
      (C8.pss_cut (ps_if (pt_cmpR op_lt (pv 1) (pe_callB call_len_seq (by rfl) T.len PySem.boot_len (pa_cons (pv 0) pa_nil)) (nomark _))
        (pss_one (ps_set (i := 2) scWell.nd rfl (.inl rfl) (pe_ix ix_list (pv 0) (pv 1) (fun _ _ => rfl)))) pss_nil)
      (pss_cons (ps_set (i := 3) scWell.nd rfl (.inl rfl) (pe_op op_mod (pe_callTy call_int1 (by rfl) T.int (by decide +kernel) (pa_cons (pe_op op_add (pe_op op_mul (pe_callB call_abs (by rfl) T.abs (by decide +kernel) (pa_cons (pv 2) pa_nil)) pe_int) (pe_callTy call_int1 (by rfl) T.int (by decide +kernel) (pa_cons (pe_cmpR op_lt (pv 2) pe_int (nomark _)) pa_nil))) pa_nil)) pe_int))
      (pss_one (ps_ret (pe_lst (pa_cons (pe_op op_mul (pv 2) (pe_callTy call_int1 (by rfl) T.int (by decide +kernel) (pa_cons (pe_cmpR op_ge (pv 2) (pe_op op_pow pe_int pe_int) (nomark _)) pa_nil))) (pa_cons (pe_op op_add (pv 3) (pe_op op_mul pe_int (pv 1))) (pa_cons pe_int pa_nil)))))))), ?_⟩
    refine ⟨fun σ H1 => H1 = H ∧ ∃ z : Int, σ = [some (.ref a), some (.int i), some (.int z), none], ?_, ?_⟩
    · refine ⟨_, rfl, _, rfl, a, _, rfl, .inl hS, _, _, rfl, rfl, _, rfl, ite2 (fun hc => ?_) (fun hc => ?_)⟩
      · have hi : i < ns.length := by
          have := of_decide_eq_true hc
          rw [List.length_map] at this
          exact this
        obtain ⟨v, hv, hv2, e⟩ := atI_ints i0 hi
        exact ⟨_, rfl, _, rfl, a, _, i, _, rfl, rfl, hS, e, rfl, v, rfl⟩
      · exact ⟨rfl, 0, rfl⟩
    · rintro σ H1 ⟨rfl, z, rfl⟩
      refine ⟨_, rfl, _, rfl, _, _, rfl, rfl, .inr ⟨by decide, by decide⟩, _, rfl, _, _, rfl, rfl, .inr ⟨_, rfl, _, _, rfl, rfl, .inl ⟨_, rfl, _, _, rfl, rfl, (by show (0 : Int) < 2305843009213693951; decide), ?_⟩⟩⟩
      generalize hx : ((if z < 0 then -z else z) * 2 + (if decide (z < 0) = true then (1 : Int) else 0)) % 2305843009213693951 = x
      have x0 : 0 ≤ x := by rw [← hx]; exact Int.emod_nonneg _ (by decide)
      have x1 : x < 2305843009213693951 := by rw [← hx]; exact Int.emod_lt_of_pos _ (by decide)
      refine ⟨_, rfl, _, rfl, _, _, rfl, rfl, ⟨by decide, by decide, by decide⟩, _, _, rfl, rfl, .inr ⟨_, rfl, _, _, rfl, rfl, .inr ?_, ?_⟩⟩
      · split <;> exact ⟨by decide, by decide⟩
      refine ⟨_, rfl, _, rfl, _, _, rfl, rfl, .inl ⟨by decide, by decide⟩, _, _, rfl, rfl, (by show 3 ≤ sizeLine; decide), fun p hp => ?_⟩
      exact k p _ hp (same_new hp) ⟨_, _, _, upd_same, by omega, by omega, by decide, by decide⟩
theorem scNumber : FnScope ["well", "way", "found"] ["well"] (defScope sNumber) := ⟨rfl, rfl, rfl, by decide +kernel, rfl, by decide +kernel, by decide +kernel⟩
/-- what a law calls to draw -/
structure Tk (P : Program) (w : World) (K : PySem.W.Frag) (mg : Str → Option Value) (base : Heap) (fT : Addr) (fdT : FuncData) : Prop where
  ok : FnOk P w K mg base CX0 1 fT fdT ["well", "many"] spTake
  at_ : mg "_law_take" = some (.ref fT)
  kp : PySem.W.keepIn K (.ref fT) = true
  bi : Binds K fdT ["well", "many"] []
theorem ok_number {f fT : Addr} {fd fdT : FuncData} (F : Fun K "_law_number" "_law_number" sNumber f fd) (T : Blt mg) (L : Tk P w K mg base fT fdT) : FnOk P w K mg base CX0 2 f fd ["well"] spNumber := by
  refine F.ok scNumber (fun vs H Q E h => ?_) (fun cdv A outer s H vs Q E hr h => ?_)
  · obtain ⟨p, n, rfl, _⟩ := h
    rfl
  · obtain ⟨p, n, rfl, hW, hn, k⟩ := h
    refine ⟨_, pss_cons (ps_set (i := 1) scNumber.nd rfl (.inl rfl) (pe_call L.ok hr (by rfl) L.at_ L.kp L.bi .nil pass0 (pa_cons (pv 0) (pa_cons pe_int pa_nil))))
      (pss_cons (ps_set (i := 2) scNumber.nd rfl (.inl rfl) (pe_call L.ok hr (by rfl) L.at_ L.kp L.bi .nil pass0 (pa_cons (pv 0) (pa_cons (pe_ix ix_list (pe_lst (pa_cons pe_int (pa_cons pe_int (pa_cons pe_int (pa_cons (pe_op op_pow pe_int pe_int) pa_nil))))) (pv 1) (fun _ _ => rfl)) pa_nil))))
      (C8.pss_cut (ps_if (pt_cmpR op_eq (pv 1) pe_int (nomark _))
        (pss_one (ps_set (i := 2) scNumber.nd rfl (.inl rfl) (pe_op op_add (pe_op op_mul (pv 2) (pe_op op_pow pe_int pe_int)) (pe_call L.ok hr (by rfl) L.at_ L.kp L.bi .nil pass0 (pa_cons (pv 0) (pa_cons (pe_op op_pow pe_int pe_int) pa_nil)))))) pss_nil)
      (pss_one (ps_ret (pe_op op_mul (pv 2) (pe_op op_sub pe_int (pe_op op_mul pe_int (pe_call L.ok hr (by rfl) L.at_ L.kp L.bi .nil pass0 (pa_cons (pv 0) (pa_cons pe_int pa_nil)))))))))), ?_⟩
    refine ⟨_, rfl, ⟨_, _, _, rfl, hW, (by omega), (by decide), (by decide), fun r H1 r0 r1 f1 w1 => ?_⟩⟩
    refine ⟨_, rfl, _, _, rfl, rfl, ⟨by decide, by decide, by decide⟩, (by show 4 ≤ sizeLine; decide), fun l hl => ⟨_, rfl, ?_⟩⟩
    have w1' := w1.new (o := .lst [.int 13, .int 60, .int 1000, .int (10 ^ (15 : Int).toNat)]) hl
    obtain ⟨v, hv, hv2, he⟩ := atI_ints (xs := [13, 60, 1000, 10 ^ (15 : Int).toNat]) r0 r1
    have v0 : 0 < v ∧ v ≤ 10 ^ 15 := by
      simp only [List.mem_cons, List.not_mem_nil, or_false] at hv
      rcases hv with rfl | rfl | rfl | rfl <;> decide
    refine ⟨l, _, r, _, rfl, rfl, SqL.of upd_same, he, ⟨_, _, _, rfl, w1', (by omega), v0.1, (by omega), fun x H2 x0 x1 f2 w2 => ?_⟩⟩
    have f02 : Fr p H H2 := (f1.trans (Fr.new hl)).trans f2
    refine ⟨fun σ H3 => ∃ z : Int, σ = [some (.ref p), some (.int r), some (.int z)] ∧ 0 ≤ z ∧ z < 10 ^ 30 ∧ Fr p H H3 ∧ Well H3 p (n + 3), ?_, ?_⟩
    · refine ⟨_, rfl, rfl, _, rfl, ite2 (fun hc => ?_) (fun hc => ?_)⟩
      · refine ⟨_, rfl, _, _, rfl, rfl, ⟨by decide, by decide, by decide⟩, _, _, rfl, rfl, .inl ⟨by omega, by omega⟩, _, rfl, _, _, rfl, rfl, ⟨by decide, by decide, by decide⟩, ?_⟩
        refine ⟨_, _, _, rfl, w2, (by omega), (by decide), (by decide), fun y H3 y0 y1 f3 w3 => ⟨_, _, rfl, rfl, ?_⟩⟩
        refine ⟨_, rfl, ?_, ?_, f02.trans f3, w3⟩
        · have : (0 : Int) ≤ x * 10 ^ (15 : Int).toNat := Int.mul_nonneg x0 (by decide)
          omega
        · have e : (10 : Int) ^ (15 : Int).toNat = 10 ^ 15 := by decide
          rw [e] at y1 ⊢
          omega
      · exact ⟨x, rfl, x0, by omega, f02, w2.mono (by omega)⟩
    · rintro σ H3 ⟨z, rfl, z0, z1, f3, w3⟩
      refine ⟨_, rfl, _, rfl, ⟨_, _, _, rfl, w3, (by omega), (by decide), (by decide), fun y H4 y0 y1 f4 w4 => ?_⟩⟩
      refine ⟨_, _, rfl, rfl, .inl ⟨by decide, by decide⟩, _, _, rfl, rfl, _, _, rfl, rfl, .inr ⟨by omega, by omega⟩, ?_⟩
      have hy : y = 0 ∨ y = 1 := by omega
      refine k _ H4 ?_ ?_ (f3.trans f4) w4
      · rcases hy with rfl | rfl <;> omega
      · rcases hy with rfl | rfl <;> omega
end

theorem Fr.put {p q : Addr} {o : HO} {H J : Hp} (h : H q = none) (f : Fr p H J) : Fr p H (upd J q o) := fun b u e g => by
  rw [upd_ne (fun z => by rw [z, h] at e; cases e)]
  exact f b u e g
theorem rep_ints (k : Nat) (x : Int) : (List.replicate k [V.int x]).flatten = (List.replicate k x).map V.int := by
  induction k with
  | zero => rfl
  | succ k ih =>
    rw [List.replicate_succ, List.flatten_cons, ih, List.replicate_succ, List.map_cons]
    rfl
section
variable {P : Program} {w : World} {K : PySem.W.Frag} {mg : Str → Option Value} {base : Heap}
theorem scPaces : FnScope ["well", "size", "way", "found", "spot", "turn"] ["well", "size"] (defScope sPaces) := ⟨rfl, rfl, rfl, by decide +kernel, rfl, by decide +kernel, by decide +kernel⟩
/-- what stands between the statements of _law_paces -/
structure PMid (H : Hp) (p : Addr) (z : Int) (m : Nat) (q : Addr) (xs : List Int) (H1 : Hp) : Prop where
  new : H q = none
  ne : q ≠ p
  at_ : H1 q = some (.lst (xs.map V.int))
  len : (xs.length : Int) = z
  lo : ∀ v ∈ xs, 0 ≤ v ∧ v ≤ 3
  fr : Fr p H H1
  well : Well H1 p m
theorem ok_paces {f fT : Addr} {fd fdT : FuncData} (F : Fun K "_law_paces" "_law_paces" sPaces f fd) (T : Blt mg) (L : Tk P w K mg base fT fdT) : FnOk P w K mg base CX0 2 f fd ["well", "size"] spPaces := by
  refine F.ok scPaces (fun vs H Q E h => ?_) (fun cdv A outer s H vs Q E hr h => ?_)
  · obtain ⟨p, n, z, rfl, _⟩ := h
    rfl
  · obtain ⟨p, n, z, rfl, hW, hn, z0, z1, k⟩ := h
    refine ⟨_, pss_cons (ps_set (i := 2) scPaces.nd rfl (Or.inr rfl) (pe_call L.ok hr (by rfl) L.at_ L.kp L.bi .nil pass0 (pa_cons (pv 0) (pa_cons pe_int pa_nil))))
      (pss_cons (ps_set (i := 3) scPaces.nd rfl (.inl rfl) (pe_op op_rep (pe_lst (pa_cons pe_int pa_nil)) (pv 1)))
      (C8.pss_cut (ps_if (pt_cmpR op_lt (pv 2) pe_int (nomark _))
        (pss_one (ps_setLc (i := 3) (own := [("turn", 5)]) (g := gName 5) (tt := tYes) rfl scPaces.nd rfl rfl (sw_true rfl rfl rfl (by decide +kernel)) (pi_range1 (by rfl) T.range (pa_cons (pv 1) pa_nil))
          (blkOk_by (N := ["well", "size", "way", "found", "spot", "turn"]) (sc := defScope sPaces) (by decide +kernel)) (fun _ _ _ _ _ => pg_name (i := 5) scPaces.nd rfl (Or.inl rfl)) (fun _ _ _ _ _ => pts_nil)
          (fun _ _ _ _ _ => pe_call L.ok hr (by rfl) L.at_ L.kp L.bi .nil pass0 (pa_cons (pv 0) (pa_cons (pe_op op_sub pe_int (pe_op op_mul pe_int (pv 2))) pa_nil))))) pss_nil)
      (C8.pss_cut (ps_if (pt_cmpR op_eq (pv 2) pe_int (nomark _))
        (pss_one (ps_set (i := 3) scPaces.nd rfl (.inl rfl) (pe_op op_rep (pe_lst (pa_cons (pe_op op_add pe_int (pe_call L.ok hr (by rfl) L.at_ L.kp L.bi .nil pass0 (pa_cons (pv 0) (pa_cons pe_int pa_nil)))) pa_nil)) (pv 1)))) pss_nil)
      (C8.pss_cut (ps_if (pt_cmpR op_eq (pe_callB (cr_max rfl) (by rfl) T.max (by decide +kernel) (pa_cons (pv 3) pa_nil)) pe_int (nomark _))
        (pss_cons (ps_set (i := 4) scPaces.nd rfl (.inl rfl) (pe_call L.ok hr (by rfl) L.at_ L.kp L.bi .nil pass0 (pa_cons (pv 0) (pa_cons (pv 1) pa_nil))))
        (pss_one (ps_asg (pe_op op_add pe_int (pe_call L.ok hr (by rfl) L.at_ L.kp L.bi .nil pass0 (pa_cons (pv 0) (pa_cons pe_int pa_nil)))) (pg_sub (pv 3) (pv 4) set_list)))) pss_nil)
      (pss_one (ps_ret (pv 3))))))), ?_⟩
    refine ⟨_, rfl, ⟨_, _, _, rfl, hW, (by omega), (by decide), (by decide), fun r H1 r0 r1 f1 w1 => ?_⟩⟩
    refine ⟨(by show 1 ≤ sizeLine; decide), fun l hl => ⟨_, rfl, l, z, _, rfl, rfl, upd_same, by omega, by omega, by show 1 * z.toNat ≤ sizeLine; rw [sizeLine_eq]; omega, fun q hq => ?_⟩⟩
    rw [rep_ints]
    have hq1 : H1 q = none := by
      have ne : q ≠ l := fun e => by rw [e, upd_same] at hq; cases hq
      rw [upd_ne ne] at hq
      exact hq
    have free : ∀ {c : Addr} {J : Hp}, Fr p H J → Well J p (n + 1) → J c = none → H c = none ∧ c ≠ p := fun {c J} g g2 e => by
      refine ⟨?_, (g2.ne e).symm⟩
      cases e2 : H c with
      | none => rfl
      | some o =>
        rw [g c o e2 (g2.ne e).symm] at e
        cases e
    have hqH := free f1 w1 hq1
    have wL := (w1.new (o := .lst [V.int 0]) hl).new (o := .lst ((List.replicate z.toNat 0).map V.int)) hq
    have fL : Fr p H _ := (f1.trans (Fr.new (o := .lst [V.int 0]) hl)).trans (Fr.new (o := .lst ((List.replicate z.toNat 0).map V.int)) hq)
    have base0 : PMid H p z (n + 1) q (List.replicate z.toNat 0) (upd (upd H1 l (.lst [V.int 0])) q (.lst ((List.replicate z.toNat 0).map V.int))) :=
      ⟨hqH.1, hqH.2, upd_same, by rw [List.length_replicate]; omega, fun v hv => by rw [List.eq_of_mem_replicate hv]; exact ⟨by decide, by decide⟩, fL, wL⟩
    generalize upd (upd H1 l (.lst [V.int 0])) q (.lst ((List.replicate z.toNat 0).map V.int)) = HL at base0
    refine ⟨fun σ J => ∃ (q : Addr) (xs : List Int), σ = [some (.ref p), some (.int z), some (.int r), some (.ref q), none, none] ∧ PMid H p z (n + 13) q xs J, ?_, ?_⟩
    · refine ⟨_, rfl, _, _, rfl, rfl, _, rfl, ite2 (fun hc => ?_) (fun hc => ?_)⟩
      · have hr2 : r < 2 := of_decide_eq_true hc
        refine ⟨_, rfl, z, rfl, by omega, by omega, fun D hD => ?_⟩
        have hDn : D ≠ p := (base0.well.ne hD).symm
        have hDH := free base0.fr base0.well hD
        refine lc_range (lo := 0) (n := z.toNat) (fun i J => ∃ xs : List Int, J D = some (.lst (xs.map V.int)) ∧ xs.length = i ∧ (∀ v ∈ xs, 0 ≤ v ∧ v ≤ 3) ∧ Fr p H J ∧ Well J p (n + 1 + i))
          ⟨[], upd_same, rfl, fun v hv => absurd hv List.not_mem_nil, base0.fr.trans (Fr.new hD), base0.well.new hD⟩ ?_ ?_
        · rintro i J hi ⟨xs, hx, xl, xr, xf, xw⟩
          refine ⟨rfl, _, rfl, _, rfl, _, _, rfl, rfl, .inl ⟨by decide, by decide⟩, _, _, rfl, rfl, ⟨_, _, _, rfl, xw, (by omega), (by omega), (by omega), fun y J2 y0 y1 f2 w2 => ?_⟩⟩
          have hx2 := f2 _ _ hx hDn
          refine ⟨_, hx2, by rw [List.length_map]; exact small1000 (by omega), xs ++ [y], ?_, by simp [xl], ?_, Fr.put hDH.1 (xf.trans f2), (w2.upd_ne hDn.symm).mono (by omega)⟩
          · rw [upd_same, List.map_append]
            rfl
          · intro v hv
            rcases List.mem_append.mp hv with g | g
            · exact xr v g
            · rw [List.mem_singleton.mp g]
              exact ⟨y0, by omega⟩
        · rintro J ⟨xs, hx, xl, xr, xf, xw⟩
          exact ⟨D, xs, rfl, hDH.1, hDH.2, hx, by omega, xr, xf, xw.mono (by omega)⟩
      · exact ⟨q, _, rfl, base0.new, base0.ne, base0.at_, base0.len, base0.lo, base0.fr, base0.well.mono (by omega)⟩
    · rintro σ J ⟨q, xs, rfl, M⟩
      refine ⟨fun σ J => ∃ (q : Addr) (xs : List Int), σ = [some (.ref p), some (.int z), some (.int r), some (.ref q), none, none] ∧ PMid H p z (n + 14) q xs J, ?_, ?_⟩
      · refine ⟨_, rfl, rfl, _, rfl, ite2 (fun hc => ?_) (fun hc => ?_)⟩
        · refine ⟨_, rfl, ⟨_, _, _, rfl, M.well, (by omega), (by decide), (by decide), fun y J2 y0 y1 f2 w2 => ⟨_, _, rfl, rfl, (by show 1 ≤ sizeLine; decide), fun l hl => ?_⟩⟩⟩
          refine ⟨_, rfl, l, z, _, rfl, rfl, upd_same, by omega, by omega, by show 1 * z.toNat ≤ sizeLine; rw [sizeLine_eq]; omega, fun D hD => ?_⟩
          rw [rep_ints]
          have hD2 : J2 D = none := by
            have ne : D ≠ l := fun e => by rw [e, upd_same] at hD; cases hD
            rw [upd_ne ne] at hD
            exact hD
          have g2 := M.fr.trans f2
          refine ⟨D, _, rfl, ?_, (w2.ne hD2).symm, upd_same, by rw [List.length_replicate]; omega, fun v hv => by rw [List.eq_of_mem_replicate hv]; omega, (g2.trans (Fr.new hl)).trans (Fr.new hD), (w2.new hl).new hD⟩
          cases e2 : H D with
          | none => rfl
          | some o =>
            rw [g2 D o e2 (w2.ne hD2).symm] at hD2
            cases hD2
        · exact ⟨q, xs, rfl, M.new, M.ne, M.at_, M.len, M.lo, M.fr, M.well.mono (by omega)⟩
      · rintro σ J ⟨q, xs, rfl, M⟩
        have xl := M.len
        refine ⟨fun σ J => ∃ (q : Addr) (xs : List Int) (y4 : Option V), σ = [some (.ref p), some (.int z), some (.int r), some (.ref q), y4, none] ∧ PMid H p z (n + 20) q xs J ∧ ∃ v ∈ xs, v ≠ 0, ?_, ?_⟩
        · refine ⟨_, rfl, q, xs, rfl, SqL.of M.at_, by omega, fun m hm hmax => ⟨rfl, _, rfl, ite2 (fun hc => ?_) (fun hc => ?_)⟩⟩
          · refine ⟨_, rfl, _, rfl, ⟨_, _, _, rfl, M.well, (by omega), (by omega), (by omega), fun y J2 y0 y1 f2 w2 => ?_⟩⟩
            refine ⟨_, rfl, ⟨_, _, _, rfl, w2, (by omega), (by decide), (by decide), fun x J3 x0 x1 f3 w3 => ⟨_, _, rfl, rfl, ?_⟩⟩⟩
            have h3 := f3 _ _ (f2 _ _ M.at_ M.ne) M.ne
            have hj : ixN (xs.map V.int).length y = some y.toNat := by
              unfold ixN
              rw [if_pos y0, if_pos (by rw [List.length_map]; omega)]
            refine ⟨_, rfl, _, rfl, q, _, y, y.toNat, rfl, rfl, h3, hj, ?_⟩
            refine ⟨q, xs.set y.toNat (1 + x), _, rfl, ⟨M.new, M.ne, ?_, by rw [List.length_set]; exact xl, fun v hv => ?_, Fr.put M.new ((M.fr.trans f2).trans f3), (w3.upd_ne M.ne.symm).mono (by omega)⟩, 1 + x, ?_, by omega⟩
            · rw [upd_same, List.map_set]
            · rcases List.mem_or_eq_of_mem_set hv with g | g
              · exact M.lo v g
              · rw [g]
                omega
            · exact List.mem_set (by omega) _
          · refine ⟨q, xs, _, rfl, ⟨M.new, M.ne, M.at_, M.len, M.lo, M.fr, M.well.mono (by omega)⟩, m, hm, fun e => hc ?_⟩
            rw [e]
            exact decide_eq_true rfl
        · rintro σ J ⟨q, xs, y4, rfl, M, hp⟩
          have xl := M.len
          exact ⟨_, rfl, k q xs J ⟨M.lo, hp, by omega, by omega⟩ M.len M.new M.ne M.at_ M.fr M.well⟩
end

/-! ### the changes that a law draws: tuples of a moment and a speed -/
def Tups (H : Hp) : List Addr → List (Int × Int) → Prop
  | [], [] => True
  | t :: ts, m :: ms => H t = some (.tup [.int m.1, .int m.2]) ∧ Tups H ts ms
  | _, _ => False
theorem Tups.len {H : Hp} : ∀ {ts : List Addr} {ms : List (Int × Int)}, Tups H ts ms → ts.length = ms.length
  | [], [], _ => rfl
  | _ :: _, _ :: _, h => by
    rw [List.length_cons, List.length_cons, Tups.len h.2]
theorem Tups.imp {H H' : Hp} : ∀ {ts : List Addr} {ms : List (Int × Int)}, (∀ t xs, H t = some (.tup xs) → H' t = some (.tup xs)) → Tups H ts ms → Tups H' ts ms
  | [], [], _, _ => trivial
  | _ :: _, _ :: _, f, h => ⟨f _ _ h.1, Tups.imp f h.2⟩
theorem Tups.same {H H' : Hp} {ts : List Addr} {ms : List (Int × Int)} (h : Tups H ts ms) (f : Same H H') : Tups H' ts ms := h.imp fun _ _ e => f _ _ e
theorem Tups.fr {H H' : Hp} {p : Addr} {n : Nat} {ts : List Addr} {ms : List (Int × Int)} (h : Tups H ts ms) (w : Well H p n) (f : Fr p H H') : Tups H' ts ms := h.imp fun t xs e => f _ _ e fun z => by
  obtain ⟨a, b, c, g, _⟩ := w
  rw [z, g] at e
  cases e
theorem Tups.put {H : Hp} {q : Addr} {ys : List V} {o : HO} {ts : List Addr} {ms : List (Int × Int)} (h : Tups H ts ms) (g : H q = some (.lst ys)) : Tups (upd H q o) ts ms := h.imp fun t xs e => by
  rw [upd_ne (fun z => by rw [z, g] at e; cases e)]
  exact e
theorem Tups.snoc {H : Hp} {t : Addr} {m : Int × Int} : ∀ {ts : List Addr} {ms : List (Int × Int)}, Tups H ts ms → H t = some (.tup [.int m.1, .int m.2]) → Tups H (ts ++ [t]) (ms ++ [m])
  | [], [], _, g => ⟨g, trivial⟩
  | _ :: _, _ :: _, h, g => ⟨h.1, Tups.snoc h.2 g⟩
theorem Tups.get {H : Hp} : ∀ {ts : List Addr} {ms : List (Int × Int)} {i : Nat} {t : Addr}, Tups H ts ms → ts[i]? = some t → ∃ m, ms[i]? = some m ∧ H t = some (.tup [.int m.1, .int m.2])
  | _ :: _, m :: _, 0, t, h, e => by
    obtain rfl := Option.some.inj e
    exact ⟨m, rfl, h.1⟩
  | _ :: _, _ :: _, i + 1, t, h, e => Tups.get (i := i) h.2 e
/-- what a calendar takes as changes -/
structure Marks (cap : Int) (ms : List (Int × Int)) : Prop where
  asc : ms.Pairwise fun a b => a.1 < b.1
  val : ∀ m ∈ ms, 0 ≤ m.2 ∧ m.2 ≤ 3
  big : ∀ m ∈ ms, -(2 * 10 ^ 30) < m.1 ∧ m.1 < 2 * 10 ^ 30
  len : (ms.length : Int) ≤ cap
def spMarks : Sp := fun vs H Q _ => ∃ (p : Addr) (n : Nat) (z cap : Int), vs = [.ref p, .int z, .int cap] ∧ Well H p n ∧ n ≤ 10 ^ 7 ∧ 1 ≤ z ∧ z ≤ 1000 ∧ 0 ≤ cap ∧ cap ≤ 3 ∧
  ∀ (q : Addr) (ts : List Addr) (ms : List (Int × Int)) (H' : Hp), Marks cap ms → H q = none → q ≠ p → H' q = some (.lst (ts.map V.ref)) → Tups H' ts ms → (∀ t ∈ ts, H t = none) → Fr p H H' → Well H' p (n + 20) → Q (.ref q) H'
/-- _law_number stands at fN -/
structure Nb (P : Program) (w : World) (K : PySem.W.Frag) (mg : Str → Option Value) (base : Heap) (fN : Addr) (fdN : FuncData) : Prop where
  ok : FnOk P w K mg base CX0 2 fN fdN ["well"] spNumber
  at_ : mg "_law_number" = some (.ref fN)
  kp : PySem.W.keepIn K (.ref fN) = true
  bi : Binds K fdN ["well"] []
section
variable {P : Program} {w : World} {K : PySem.W.Frag} {mg : Str → Option Value} {base : Heap}
theorem scMarks : FnScope ["well", "size", "cap", "found", "many", "at", "turn"] ["well", "size", "cap"] (defScope sMarks) := ⟨rfl, rfl, rfl, by decide +kernel, rfl, by decide +kernel, by decide +kernel⟩
theorem free_of {p c : Addr} {n : Nat} {H J : Hp} (f : Fr p H J) (wl : Well J p n) (e : J c = none) : H c = none ∧ c ≠ p := by
  have g := (wl.ne e).symm
  refine ⟨?_, g⟩
  cases e2 : H c with
  | none => rfl
  | some o =>
    rw [f c o e2 g] at e
    cases e
theorem ok_marks {f fT fN : Addr} {fd fdT fdN : FuncData} (F : Fun K "_law_marks" "_law_marks" sMarks f fd) (T : Blt mg) (L : Tk P w K mg base fT fdT) (B : Nb P w K mg base fN fdN) : FnOk P w K mg base CX0 3 f fd ["well", "size", "cap"] spMarks := by
  refine F.ok scMarks (fun vs H Q E h => ?_) (fun cdv A outer s H vs Q E hr h => ?_)
  · obtain ⟨p, n, z, cap, rfl, _⟩ := h
    rfl
  · obtain ⟨p, n, z, cap, rfl, hW, hn, z0, z1, c0, c1, k⟩ := h
    have hr1 : Room 1 _ := hr.mono (by decide)
    refine ⟨_, pss_cons (ps_set (i := 3) scMarks.nd rfl (.inl rfl) (pe_lst pa_nil))
      (pss_cons (ps_set (i := 4) scMarks.nd rfl (.inl rfl) (pe_call L.ok hr1 (by rfl) L.at_ L.kp L.bi .nil pass0 (pa_cons (pv 0) (pa_cons (pe_op op_add (pv 2) pe_int) pa_nil))))
      (pss_cons (ps_set (i := 5) scMarks.nd rfl (.inl rfl) (pe_call B.ok hr (by rfl) B.at_ B.kp B.bi .nil pass0 (pa_cons (pv 0) pa_nil)))
      (pss_cons (ps_for PassesOwn.never rfl (pi_range1 (by rfl) T.range (pa_cons (pv 4) pa_nil)) (pg_name (i := 6) scMarks.nd rfl (.inl rfl))
        (pss_cons (ps_expr (pe_bm PySem.F.plainAttrs_list PySem.F.slot_list_append PySem.F.type_list_append mt_append (pv 3) (pa_cons (pe_tup (pa_cons (pv 5) (pa_cons (pe_call L.ok hr1 (by rfl) L.at_ L.kp L.bi .nil pass0 (pa_cons (pv 0) (pa_cons pe_int pa_nil))) pa_nil))) pa_nil)))
        (pss_one (ps_set (i := 5) scMarks.nd rfl (.inl rfl) (pe_op op_add (pe_op op_add (pv 5) pe_int) (pe_call L.ok hr1 (by rfl) L.at_ L.kp L.bi .nil pass0 (pa_cons (pv 0) (pa_cons (pe_ix ix_list (pe_lst (pa_cons pe_int (pa_cons pe_int (pa_cons (pe_op op_mul pe_int (pv 1)) (pa_cons (pe_op op_pow pe_int pe_int) pa_nil)))))
          (pe_call L.ok hr1 (by rfl) L.at_ L.kp L.bi .nil pass0 (pa_cons (pv 0) (pa_cons pe_int pa_nil))) (fun _ _ => rfl)) pa_nil))))))))
      (pss_one (ps_ret (pv 3)))))), ?_⟩
    refine ⟨Nat.zero_le _, fun q hq => ?_⟩
    have qp : q ≠ p := (hW.ne hq).symm
    refine ⟨_, rfl, _, rfl, _, _, rfl, rfl, ⟨_, _, _, rfl, hW.new hq, (by omega), (by omega), (by omega), fun m H1 m0 m1 f1 w1 => ?_⟩⟩
    refine ⟨_, rfl, ⟨_, _, rfl, w1, by omega, fun a0 H2 a1 a2 f2 w2 => ?_⟩⟩
    have f02 : Fr p H H2 := ((Fr.new hq).trans f1).trans f2
    have q2 : H2 q = some (.lst []) := f2 _ _ (f1 _ _ upd_same qp) qp
    refine ⟨_, rfl, m, rfl, by omega, by omega, for_range (lo := 0) (n := m.toNat) (fun i σ J => ∃ (ts : List Addr) (ms : List (Int × Int)) (a : Int) (y : Option V), σ = [some (.ref p), some (.int z), some (.int cap), some (.ref q), some (.int m), some (.int a), y] ∧
        J q = some (.lst (ts.map V.ref)) ∧ Tups J ts ms ∧ (∀ t ∈ ts, H t = none) ∧ ms.length = i ∧ (ms.Pairwise fun a b => a.1 < b.1) ∧ (∀ v ∈ ms, 0 ≤ v.2 ∧ v.2 ≤ 3) ∧ (∀ v ∈ ms, -10 ^ 30 < v.1 ∧ v.1 < a) ∧ -10 ^ 30 < a ∧ a < 10 ^ 30 + i * (10 ^ 29 + 1) ∧ Fr p H J ∧ Well J p (n + 5 + i * 3))
      ⟨[], [], a0, none, rfl, q2, trivial, fun t ht => absurd ht List.not_mem_nil, rfl, List.Pairwise.nil, fun v hv => absurd hv List.not_mem_nil, fun v hv => absurd hv List.not_mem_nil, a1, by omega, f02, w2.mono (by omega)⟩ ?_ ?_⟩
    · rintro i σ J hi ⟨ts, ms, a, y, rfl, hq3, tp, tn, ml, asc, val, big, b0, b1, fJ, wJ⟩
      have him : (i : Int) < m := by omega
      have ml3 : i ≤ 3 := by omega
      refine ⟨_, rfl, .inl ⟨rfl, _, SqL.of hq3⟩, _, rfl, _, rfl, ⟨_, _, _, rfl, wJ, (by omega), (by decide), (by decide), fun v J2 v0 v1 f2 w2 => ?_⟩⟩
      have hq4 := f2 _ _ hq3 qp
      have tp2 := tp.fr wJ f2
      refine ⟨(by show 2 ≤ sizeLine; decide), fun t ht => ?_⟩
      have tq : q ≠ t := ne_of_none hq4 ht
      have ft := free_of (fJ.trans f2) w2 ht
      have w3 := w2.new (o := .tup [.int a, .int v]) ht
      have hq5 : (upd J2 t (.tup [.int a, .int v])) q = some (.lst (ts.map V.ref)) := by rw [upd_ne tq]; exact hq4
      have tl := tp.len
      refine ⟨q, _, .ref t, rfl, rfl, hq5, by rw [List.length_map]; exact small1000 (by omega), ?_⟩
      have tp3 : Tups (upd (upd J2 t (.tup [.int a, .int v])) q (.lst (ts.map V.ref ++ [.ref t]))) (ts ++ [t]) (ms ++ [(a, v)]) :=
        ((tp2.same (same_new ht)).snoc (m := (a, v)) upd_same).put hq5
      have w4 := w3.upd_ne (o := .lst (ts.map V.ref ++ [.ref t])) qp.symm
      have f4 : Fr p H (upd (upd J2 t (.tup [.int a, .int v])) q (.lst (ts.map V.ref ++ [.ref t]))) := Fr.put (by exact (free_of (Fr.refl p H) hW hq).1) (Fr.put ft.1 (fJ.trans f2))
      have hq6 : (upd (upd J2 t (.tup [.int a, .int v])) q (.lst (ts.map V.ref ++ [.ref t]))) q = some (.lst ((ts ++ [t]).map V.ref)) := by rw [upd_same, List.map_append]; rfl
      generalize upd (upd J2 t (.tup [.int a, .int v])) q (.lst (ts.map V.ref ++ [.ref t])) = J4 at tp3 w4 f4 hq6
      refine ⟨_, rfl, _, _, rfl, rfl, _, rfl, _, rfl, _, _, rfl, rfl, .inl ⟨by decide, by decide⟩, _, _, rfl, rfl, ⟨by decide, by decide, by decide⟩, (by show 4 ≤ sizeLine; decide), fun l hl => ?_⟩
      have w5 := w4.new (o := .lst [.int 1, .int 4, .int (3 * z), .int (10 ^ (29 : Int).toNat)]) hl
      have lp := (w4.ne hl).symm
      refine ⟨_, rfl, ⟨_, _, _, rfl, w5, (by omega), (by decide), (by decide), fun x J6 x0 x1 f6 w6 => ?_⟩⟩
      obtain ⟨d, hd, hd2, he⟩ := atI_ints (xs := [1, 4, 3 * z, 10 ^ (29 : Int).toNat]) x0 x1
      have d0 : 0 < d ∧ d ≤ 10 ^ 29 := by
        have e : (10 : Int) ^ (29 : Int).toNat = 10 ^ 29 := by decide
        rw [e] at hd
        simp only [List.mem_cons, List.not_mem_nil, or_false] at hd
        rcases hd with rfl | rfl | rfl | rfl <;> omega
      refine ⟨l, _, x, _, rfl, rfl, SqL.of (f6 _ _ upd_same lp), he, ⟨_, _, _, rfl, w6, (by omega), d0.1, (by omega), fun u J7 u0 u1 f7 w7 => ?_⟩⟩
      have f47 : Fr p J4 J7 := ((Fr.new hl).trans f6).trans f7
      refine ⟨_, _, rfl, rfl, ts ++ [t], ms ++ [(a, v)], a + 1 + u, _, rfl, f47 _ _ hq6 qp, tp3.fr w4 f47, ?_, by simp [ml], ?_, ?_, ?_, by omega, by omega, f4.trans f47, w7.mono (by omega)⟩
      · intro t' ht'
        rcases List.mem_append.mp ht' with g | g
        · exact tn t' g
        · rw [List.mem_singleton.mp g]
          exact ft.1
      · rw [List.pairwise_append]
        refine ⟨asc, List.pairwise_singleton _ _, fun a1 h1 b1 h2 => ?_⟩
        rw [List.mem_singleton.mp h2]
        exact (big a1 h1).2
      · intro v' hv'
        rcases List.mem_append.mp hv' with g | g
        · exact val v' g
        · rw [List.mem_singleton.mp g]
          exact ⟨v0, by omega⟩
      · intro v' hv'
        rcases List.mem_append.mp hv' with g | g
        · have := big v' g
          omega
        · rw [List.mem_singleton.mp g]
          omega
    · rintro σ J ⟨ts, ms, a, y, rfl, hq3, tp, tn, ml, asc, val, big, b0, b1, fJ, wJ⟩
      have hm : m ≤ cap := by omega
      have ml3 : m.toNat ≤ 3 := by omega
      exact ⟨_, rfl, k q ts ms J ⟨asc, val, fun v hv => by have := big v hv; omega, by omega⟩ (free_of (Fr.refl p H) hW hq).1 qp hq3 tp tn fJ (wJ.mono (by omega))⟩
end

/-! ### the calendar: what its constructor asks, and what it leaves -/
structure Con (mg : Str → Option Value) : Prop where
  gw : ∃ t, mg "GREATEST_WEEK" = some (.int 12 t)
  gs : ∃ t, mg "GREATEST_SPEED" = some (.int 3 t)
  enum : mg "enumerate" = none
def spIsSpeed : Sp := fun vs H Q _ => ∃ v : Int, vs = [.int v] ∧ Q (.bl (decide (0 ≤ v ∧ v ≤ 3))) H
def spChkS (K : PySem.W.Frag) : Sp := fun vs H Q _ => ∃ (a : Addr) (ps : List Int), vs = [.ref a] ∧ SqL K H a (ps.map V.int) ∧ Paces ps ∧ ∀ H', Same H H' → Q .non H'
/-- changes that are right -/
structure Fit (ms : List (Int × Int)) : Prop where
  asc : ms.Pairwise fun a b => a.1 < b.1
  val : ∀ m ∈ ms, 0 ≤ m.2 ∧ m.2 ≤ 3
  len : ms.length ≤ 1000
def spChkC (K : PySem.W.Frag) : Sp := fun vs H Q _ => ∃ (a : Addr) (ts : List Addr) (ms : List (Int × Int)), vs = [.ref a] ∧ SqL K H a (ts.map V.ref) ∧ Tups H ts ms ∧ Fit ms ∧ ∀ H', Same H H' → Q .non H'
/-- whether a change stands behind the one ahead of it -/
def behind (ms : List (Int × Int)) (i : Nat) : Bool := decide (i = 0) || decide ((ms.getD (i - 1) (0, 0)).1 < (ms.getD i (0, 0)).1)
def spChkW : Sp := fun vs H Q _ => ∃ n : Int, vs = [.int n] ∧ 1 ≤ n ∧ n ≤ 12 ∧ Q .non H
def spBehind (K : PySem.W.Frag) : Sp := fun vs H Q _ => ∃ (a : Addr) (ts : List Addr) (ms : List (Int × Int)) (i : Nat), vs = [.ref a, .int (i : Int)] ∧ SqL K H a (ts.map V.ref) ∧ Tups H ts ms ∧ i < ms.length ∧ Q (.bl (behind ms i)) H
/-- a def of the program stands under a name of its module -/
structure At (P : Program) (w : World) (K : PySem.W.Frag) (mg : Str → Option Value) (base : Heap) (k : Nat) (x : Str) (ps : List Str) (sp : Sp) (f : Addr) (fd : FuncData) : Prop where
  ok : FnOk P w K mg base CX0 k f fd ps sp
  at_ : mg x = some (.ref f)
  kp : PySem.W.keepIn K (.ref f) = true
  bi : Binds K fd ps []
section
variable {P : Program} {w : World} {K : PySem.W.Frag} {mg : Str → Option Value} {base : Heap}
theorem scIsSpeed : FnScope ["number"] ["number"] (defScope sIsSpeed) := ⟨rfl, rfl, rfl, by decide +kernel, rfl, by decide +kernel, by decide +kernel⟩
theorem ok_isSpeed {f : Addr} {fd : FuncData} (F : Fun K "is_speed" "is_speed" sIsSpeed f fd) (C : Con mg) : FnOk P w K mg base CX0 1 f fd ["number"] spIsSpeed := by
  refine F.ok scIsSpeed (fun vs H Q E h => ?_) (fun cdv A outer s H vs Q E hr h => ?_)
  · obtain ⟨v, rfl, _⟩ := h
    rfl
  · obtain ⟨v, rfl, q⟩ := h
    obtain ⟨t, ht⟩ := C.gs
    refine ⟨_, pss_one (ps_ret (pe_chain op_le op_le pe_int (pv 0) (pe_glob (v := .int 3) (by rfl) ht ⟨t, rfl⟩))), ?_⟩
    refine ⟨_, rfl, _, _, rfl, rfl, _, rfl, ite2 (fun h => ?_) (fun h => ?_)⟩
    · refine ⟨_, _, rfl, rfl, ?_⟩
      have h0 : 0 ≤ v := of_decide_eq_true h
      have e : decide (0 ≤ v ∧ v ≤ 3) = decide (v ≤ 3) := by
        rw [decide_eq_decide]
        omega
      rw [e] at q
      exact q
    · have h0 : ¬ 0 ≤ v := fun g => h (decide_eq_true g)
      have e : decide (0 ≤ v ∧ v ≤ 3) = false := decide_eq_false fun g => h0 g.1
      rw [e] at q
      exact q
theorem scChkW : FnScope ["number"] ["number"] (defScope sChkWeek) := ⟨rfl, rfl, rfl, by decide +kernel, rfl, by decide +kernel, by decide +kernel⟩
theorem ok_chkW {f : Addr} {fd : FuncData} (F : Fun K "check_week" "check_week" sChkWeek f fd) (C : Con mg) : FnOk P w K mg base CX0 1 f fd ["number"] spChkW := by
  refine F.ok scChkW (fun vs H Q E h => ?_) (fun cdv A outer s H vs Q E hr h => ?_)
  · obtain ⟨n, rfl, _⟩ := h
    rfl
  · obtain ⟨n, rfl, n1, n2, q⟩ := h
    obtain ⟨t, ht⟩ := C.gw
    refine ⟨_, pss_one (ps_if (pt_not (pt_chain op_le op_le pe_int (pv 0) (pe_glob (v := .int 12) (by rfl) ht ⟨t, rfl⟩))) (pss_one ps_never) pss_nil), ?_⟩
    refine ⟨_, rfl, _, _, rfl, rfl, _, rfl, ite2 (fun g => ?_) (fun g => absurd (decide_eq_true (by omega)) g)⟩
    refine ⟨_, _, rfl, rfl, _, rfl, ite2 (fun g2 => absurd g2 ?_) (fun _ => q)⟩
    rw [decide_eq_true (by omega)]
    decide
theorem scBehind : FnScope ["changes", "index"] ["changes", "index"] (defScope sBehind) := ⟨rfl, rfl, rfl, by decide +kernel, rfl, by decide +kernel, by decide +kernel⟩
theorem behind_fit {ms : List (Int × Int)} {i : Nat} (h : ms.Pairwise fun a b => a.1 < b.1) (hi : i < ms.length) : behind ms i = true := by
  unfold behind
  cases i with
  | zero => rfl
  | succ j =>
    have lt := List.pairwise_iff_getElem.mp h j (j + 1) (by omega) hi (by omega)
    simp only [Nat.add_sub_cancel]
    rw [List.getD_eq_getElem?_getD, List.getD_eq_getElem?_getD, List.getElem?_eq_getElem hi, List.getElem?_eq_getElem (by omega : j < ms.length)]
    simp [lt]
theorem ok_behind {f : Addr} {fd : FuncData} (F : Fun K "is_behind" "is_behind" sBehind f fd) : FnOk P w K mg base CX0 1 f fd ["changes", "index"] (spBehind K) := by
  refine F.ok scBehind (fun vs H Q E h => ?_) (fun cdv A outer s H vs Q E hr h => ?_)
  · obtain ⟨a, ts, ms, i, rfl, _⟩ := h
    rfl
  · obtain ⟨a, ts, ms, i, rfl, hS, tp, hi, q⟩ := h
    refine ⟨_, pss_one (ps_ret (pe_or (pe_cmpR op_eq (pv 1) pe_int (nomark _)) (pe_one (pe_cmpR op_lt
      (pe_ix ix_tup (pe_ix ix_list (pv 0) (pe_op op_sub (pv 1) pe_int) (fun _ _ => rfl)) pe_int (fun _ _ => rfl))
      (pe_ix ix_tup (pe_ix ix_list (pv 0) (pv 1) (fun _ _ => rfl)) pe_int (fun _ _ => rfl)) (nomark _))))), ?_⟩
    have tl := tp.len
    have ez : decide (V.int (i : Int) = V.int 0) = decide (i = 0) := by
      rw [decide_eq_decide]
      exact ⟨fun e => by injection e with e; omega, fun e => by rw [e]; rfl⟩
    refine ⟨_, rfl, rfl, _, rfl, ?_⟩
    rw [ez]
    cases i with
    | zero => exact q
    | succ j =>
      have hj : j < ts.length := by omega
      have hj1 : j + 1 < ts.length := by omega
      obtain ⟨m', hm', hm2'⟩ := tp.get (List.getElem?_eq_getElem hj)
      obtain ⟨m, hm, hm2⟩ := tp.get (List.getElem?_eq_getElem hj1)
      have ej : (((j + 1 : Nat) : Int) - 1) = (j : Nat) := by omega
      refine ⟨_, rfl, _, rfl, _, _, rfl, rfl, a, _, _, _, rfl, rfl, hS, at_of (j := j) (v := V.ref ts[j]) ej (by rw [List.getElem?_map, List.getElem?_eq_getElem hj]; rfl), ts[j], _, 0, _, rfl, rfl, SqT.of hm2', atI_nat (j := 0) rfl,
        _, rfl, _, rfl, a, _, _, _, rfl, rfl, hS, atI_nat (j := j + 1) (v := V.ref ts[j + 1]) (by rw [List.getElem?_map, List.getElem?_eq_getElem hj1]; rfl), ts[j + 1], _, 0, _, rfl, rfl, SqT.of hm2, atI_nat (j := 0) rfl, _, _, rfl, rfl, ?_⟩
      have e : behind ms (j + 1) = decide (m'.1 < m.1) := by
        unfold behind
        simp only [Nat.add_sub_cancel]
        rw [List.getD_eq_getElem?_getD, List.getD_eq_getElem?_getD, hm, hm']
        simp
      rw [e] at q
      exact q
theorem scChkS : FnScope ["speeds", "index", "speed"] ["speeds"] (defScope sChkSpeeds) := ⟨rfl, rfl, rfl, by decide +kernel, rfl, by decide +kernel, by decide +kernel⟩
theorem ok_chkS {f fI fW : Addr} {fd fdI fdW : FuncData} (F : Fun K "check_speeds" "check_speeds" sChkSpeeds f fd) (C : Con mg) (T : Blt mg) (I : At P w K mg base 1 "is_speed" ["number"] spIsSpeed fI fdI) (W : At P w K mg base 1 "check_week" ["number"] spChkW fW fdW) :
    FnOk P w K mg base CX0 2 f fd ["speeds"] (spChkS K) := by
  refine F.ok scChkS (fun vs H Q E h => ?_) (fun cdv A outer s H vs Q E hr h => ?_)
  · obtain ⟨a, ps, rfl, _⟩ := h
    rfl
  · obtain ⟨a, ps, rfl, hS, hp, k⟩ := h
    refine ⟨_, pss_cons (ps_expr (pe_call W.ok hr (by rfl) W.at_ W.kp W.bi .nil pass0 (pa_cons (pe_callB call_len_seq (by rfl) T.len PySem.boot_len (pa_cons (pv 0) pa_nil)) pa_nil)))
      (pss_cons (ps_for PassesOwn.never rfl (pi_enum (by rfl) C.enum (pa_cons (pv 0) pa_nil)) (pg_tup rfl (pgs_cons (pg_name (i := 1) scChkS.nd rfl (.inl rfl)) (pgs_cons (pg_name (i := 2) scChkS.nd rfl (.inl rfl)) pgs_nil)))
        (pss_one (ps_if (pt_not (pt_val (pe_call I.ok hr (by rfl) I.at_ I.kp I.bi .nil pass0 (pa_cons (pv 2) pa_nil)))) (pss_one ps_never) pss_nil)))
      (pss_one (ps_if (pt_cmpR op_eq (pe_callB (cr_max rfl) (by rfl) T.max (by decide +kernel) (pa_cons (pv 0) pa_nil)) pe_int (nomark _)) (pss_one ps_never) pss_nil))), ?_⟩
    have l0 := hp.len0
    have l1 := hp.len1
    have hlen : (((ps.map V.int).length : Nat) : Int) = ps.length := by rw [List.length_map]
    refine ⟨_, rfl, a, _, rfl, .inl hS, ⟨_, rfl, by rw [hlen]; omega, by rw [hlen]; omega, ?_⟩⟩
    refine ⟨_, rfl, a, _, rfl, hS, for_it (walk_enum (K := K) (a := a) (xs := ps.map V.int)) (fun i σ J => ∃ y1 y2 : Option V, σ = [some (.ref a), y1, y2] ∧ Same H J) ⟨none, none, rfl, Same.refl H⟩ (fun i σ J _ ⟨_, _, _, g⟩ => g.seq hS) ?_ ?_⟩
    · rintro i x σ J J' hi ⟨y1, y2, rfl, hs⟩ ⟨T', x1, x2, rfl, nT, rfl, e1, e2⟩
      obtain rfl := Option.some.inj e1
      have hi' : i < ps.length := by simpa using hi
      replace e2 : (List.map _ _)[i]? = some x2 := e2
      rw [List.getElem?_map, List.getElem?_eq_getElem hi'] at e2
      obtain rfl := Option.some.inj e2
      refine ⟨T', _, rfl, .inl (.inl upd_same), rfl, _, _, rfl, _, [], rfl, rfl, ?_⟩
      have hv := hp.lo _ (List.getElem_mem hi')
      refine ⟨_, rfl, _, rfl, _, rfl, ?_⟩
      rw [decide_eq_true hv]
      exact ⟨_, _, rfl, hs.trans (same_new nT)⟩
    · rintro σ J ⟨y1, y2, rfl, hs⟩
      refine ⟨_, rfl, a, ps, rfl, hs.seq hS, l0, fun m hm hmax => ⟨rfl, _, rfl, ite2 (fun g => ?_) (fun _ => k J hs)⟩⟩
      have g2 : m = 0 := by
        have := of_decide_eq_true g
        injection this
      obtain ⟨v, hv, v0⟩ := hp.pos
      have := hmax v hv
      have := hp.lo v hv
      omega
theorem scChkC : FnScope ["changes", "index", "_", "speed"] ["changes"] (defScope sChkChanges) := ⟨rfl, rfl, rfl, by decide +kernel, rfl, by decide +kernel, by decide +kernel⟩
theorem ok_chkC {f fI fB : Addr} {fd fdI fdB : FuncData} (F : Fun K "check_changes" "check_changes" sChkChanges f fd) (C : Con mg) (T : Blt mg) (I : At P w K mg base 1 "is_speed" ["number"] spIsSpeed fI fdI) (B : At P w K mg base 1 "is_behind" ["changes", "index"] (spBehind K) fB fdB) :
    FnOk P w K mg base CX0 2 f fd ["changes"] (spChkC K) := by
  refine F.ok scChkC (fun vs H Q E h => ?_) (fun cdv A outer s H vs Q E hr h => ?_)
  · obtain ⟨a, ts, ms, rfl, _⟩ := h
    rfl
  · obtain ⟨a, ts, ms, rfl, hS, tp, fit, k⟩ := h
    refine ⟨_, pss_one (ps_for PassesOwn.never rfl (pi_enum (by rfl) C.enum (pa_cons (pv 0) pa_nil))
        (pg_tup rfl (pgs_cons (pg_name (i := 1) scChkC.nd rfl (.inl rfl)) (pgs_cons (pg_tup rfl (pgs_cons (pg_name (i := 2) scChkC.nd rfl (.inl rfl)) (pgs_cons (pg_name (i := 3) scChkC.nd rfl (.inl rfl)) pgs_nil))) pgs_nil)))
        (pss_one (ps_if (PW.pt (pw_or (pt_not (pt_val (pe_call I.ok hr (by rfl) I.at_ I.kp I.bi .nil pass0 (pa_cons (pv 3) pa_nil))))
          (pw_or1 (pt_not (pt_val (pe_call B.ok hr (by rfl) B.at_ B.kp B.bi .nil pass0 (pa_cons (pv 0) (pa_cons (pv 1) pa_nil)))))))) (pss_one ps_never) pss_nil))), ?_⟩
    have tl := tp.len
    refine ⟨_, rfl, a, _, rfl, hS, for_it (walk_enum (K := K) (a := a) (xs := ts.map V.ref)) (fun i σ J => ∃ y1 y2 y3 : Option V, σ = [some (.ref a), y1, y2, y3] ∧ Same H J) ⟨none, none, none, rfl, Same.refl H⟩ (fun i σ J _ ⟨_, _, _, _, g⟩ => g.seq hS) ?_ ?_⟩
    · rintro i x σ J J' hi ⟨y1, y2, y3, rfl, hs⟩ ⟨T', x1, x2, rfl, nT, rfl, e1, e2⟩
      obtain rfl := Option.some.inj e1
      have hi' : i < ts.length := by simpa using hi
      replace e2 : (List.map _ _)[i]? = some x2 := e2
      rw [List.getElem?_map, List.getElem?_eq_getElem hi'] at e2
      obtain rfl := Option.some.inj e2
      have s2 := hs.trans (same_new (o := .tup [.int (i : Nat), .ref ts[i]]) nT)
      obtain ⟨m, hm, hm2⟩ := (tp.same s2).get (List.getElem?_eq_getElem hi')
      refine ⟨T', _, rfl, .inl (.inl upd_same), rfl, _, _, rfl, _, [], rfl, ⟨_, _, rfl, .inl (.inl hm2), rfl, _, _, rfl, _, [], rfl, rfl, rfl, ?_⟩⟩
      have hv := fit.val _ (List.mem_of_getElem? hm)
      refine ⟨_, rfl, _, rfl, _, rfl, ?_⟩
      rw [decide_eq_true hv]
      refine ⟨_, rfl, _, rfl, ⟨a, ts, ms, i, rfl, s2.seq hS, tp.same s2, by omega, ?_⟩⟩
      rw [behind_fit fit.asc (by omega)]
      exact ⟨_, rfl, _, _, _, rfl, s2⟩
    · rintro σ J ⟨y1, y2, y3, rfl, hs⟩
      exact k J hs
end

/-- a dict comprehension over anything that is walked -/
theorem dc_it {J : It} {n : Nat} {G : Hp → Prop} {Y : Nat → Hp → V → Hp → Prop} (wk : Walk J n G Y) {g : TG} {tt : TT} {tk tv : TE} {vs : List Nat} {σ : L2.St} {H1 : Hp} {D : Addr} {Qd : Hp → Prop}
    (Pv : Nat → Hp → Prop) (h0 : Pv 0 (upd H1 D (.dK []))) (hG : ∀ i H, i ≤ n → Pv i H → G H)
    (hs : ∀ i x H H', i < n → Pv i H → Y i H x H' → g x (wipe σ vs) H' fun σ2 H2 => wipe σ2 vs = wipe σ vs ∧ tt σ2 H2 fun b H3 =>
      if b = true then tk σ2 H3 fun y H4 => tv σ2 H4 fun z H5 => ∃ kvs k, y = kV k ∧ H5 D = some (.dK kvs) ∧ kvs.length < sizeLine ∧
        Pv (i + 1) (upd H5 D (.dK (putK kvs k z))) else Pv (i + 1) H3) (hd : ∀ H, Pv n H → Qd H) :
    ∃ W : Nat → Nat → Hp → Prop, (∃ m, W 0 m (upd H1 D (.dK []))) ∧ ∀ i m H, W i m H →
      (J.stop i H ∧ Qd H) ∨ (J.go i H ∧ ∃ Nx : Hp → Prop, (∀ H', Nx H' → ∃ m', m' < m ∧ W (i + 1) m' H') ∧
        ∀ x H', J.yld i H x H' → g x (wipe σ vs) H' fun σ2 H2 => wipe σ2 vs = wipe σ vs ∧ tt σ2 H2 fun b H3 =>
          if b = true then tk σ2 H3 fun y H4 => tv σ2 H4 fun z H5 => ∃ kvs k, y = kV k ∧ H5 D = some (.dK kvs) ∧
            kvs.length < sizeLine ∧ Nx (upd H5 D (.dK (putK kvs k z))) else Nx H3) := by
  refine ⟨fun i m H => m = n - i ∧ i ≤ n ∧ Pv i H, ⟨n - 0, rfl, Nat.zero_le _, h0⟩, fun i m H hw => ?_⟩
  obtain ⟨rfl, hle, hp⟩ := hw
  rcases Nat.lt_or_ge i n with hlt | hge
  · refine Or.inr ⟨wk.goes i H hlt (hG i H hle hp), Pv (i + 1), fun H' q => ⟨n - (i + 1), by omega, rfl, hlt, q⟩, fun x H' hy => ?_⟩
    exact hs i x H H' hlt hp (wk.yields i H x H' hlt (hG i H hle hp) hy)
  · obtain rfl : i = n := by omega
    exact Or.inl ⟨wk.stops H (hG i H hle hp), hd H hp⟩
/-- the speed of the bare week -/
def paceOf (ps : List Int) (t : Int) : Int := ps.getD (t % ps.length).toNat 0
/-- the changes that change something -/
def realOf (ps : List Int) (ms : List (Int × Int)) : List (Int × Int) := ms.filter fun m => decide (m.2 ≠ paceOf ps m.1)
def kvP (m : Int × Int) : Key × V := (Sum.inl m.1, V.int m.2)
theorem valV_kvP : ∀ (ms : List (Int × Int)) (t : Int), valV (ms.map kvP) (Sum.inl t : Key) = (ms.find? fun m => decide (m.1 = t)).map fun m => V.int m.2
  | [], _ => rfl
  | m :: ms, t => by
    have ih := valV_kvP ms t
    unfold valV at ih ⊢
    rw [List.map_cons, List.find?_cons, List.find?_cons]
    have e : decide ((kvP m).1 = (Sum.inl t : Key)) = decide (m.1 = t) := by
      rw [decide_eq_decide]
      unfold kvP
      constructor
      · intro h
        injection h
      · intro h
        rw [h]
    rw [e]
    cases decide (m.1 = t) with
    | true => rfl
    | false => exact ih
theorem atI_pace {ps : List Int} {t : Int} (h : 0 < ps.length) : atI (ps.map V.int) (t % ps.length) = some (.int (paceOf ps t)) := by
  have h0 := Int.emod_nonneg t (show (ps.length : Int) ≠ 0 by omega)
  have h1 := Int.emod_lt_of_pos t (show (0 : Int) < ps.length by omega)
  obtain ⟨v, _, e, e2⟩ := atI_ints h0 h1
  rw [e2]
  unfold paceOf
  rw [List.getD_eq_getElem?_getD, e]
  rfl
def calF (l d : Addr) : List (Str × V) := putF "_changes" (.ref d) (putF "_speeds" (.ref l) [])
theorem calNe : ¬ (("_speeds" : Str) = "_changes") := by decide +kernel
theorem calF_s (l d : Addr) : (calF l d).lookup ("_speeds" : Str) = some (.ref l) := by
  unfold calF
  rw [lookup_putF, if_neg calNe, lookup_putF, if_pos rfl]
theorem calF_c (l d : Addr) : (calF l d).lookup ("_changes" : Str) = some (.ref d) := by
  unfold calF
  rw [lookup_putF, if_pos rfl]
theorem calF_no (l d : Addr) {m : Str} (h1 : ¬ m = "_changes") (h2 : ¬ m = "_speeds") : (calF l d).lookup m = none := by
  unfold calF
  rw [lookup_putF, if_neg h1, lookup_putF, if_neg h2]
  rfl
/-- a calendar with these speeds and these changes stands at x; its list at l, its dict at d -/
structure CalAt (C : Addr) (H : Hp) (x l d : Addr) (ps : List Int) (ms : List (Int × Int)) : Prop where
  ob : ∃ dx, H x = some (.ins C dx (calF l d))
  ls : H l = some (.lst (ps.map V.int))
  dc : H d = some (.dK (ms.map kvP))
theorem CalAt.same {C : Addr} {H H' : Hp} {x l d : Addr} {ps : List Int} {ms : List (Int × Int)} (h : CalAt C H x l d ps ms) (f : Same H H') : CalAt C H' x l d ps ms := by
  obtain ⟨⟨dx, h1⟩, h2, h3⟩ := h
  exact ⟨⟨dx, f _ _ h1⟩, f _ _ h2, f _ _ h3⟩
theorem CalAt.put {C : Addr} {H : Hp} {x l d c : Addr} {o : HO} {ps : List Int} {ms : List (Int × Int)} (h : CalAt C H x l d ps ms) (n1 : x ≠ c) (n2 : l ≠ c) (n3 : d ≠ c) : CalAt C (upd H c o) x l d ps ms := by
  obtain ⟨⟨dx, h1⟩, h2, h3⟩ := h
  exact ⟨⟨dx, by rw [upd_ne n1]; exact h1⟩, by rw [upd_ne n2]; exact h2, by rw [upd_ne n3]; exact h3⟩
theorem CalAt.fr {C : Addr} {H H' : Hp} {x l d p : Addr} {ps : List Int} {ms : List (Int × Int)} (h : CalAt C H x l d ps ms) (f : Fr p H H') (n1 : x ≠ p) (n2 : l ≠ p) (n3 : d ≠ p) : CalAt C H' x l d ps ms := by
  obtain ⟨⟨dx, h1⟩, h2, h3⟩ := h
  exact ⟨⟨dx, f _ _ h1 n1⟩, f _ _ h2 n2, f _ _ h3 n3⟩
def spInit (C : Addr) (K : PySem.W.Frag) : Sp := fun vs H Q _ => ∃ (x dx a b : Addr) (ps : List Int) (ts : List Addr) (ms : List (Int × Int)), vs = [.ref x, .ref a, .ref b] ∧ H x = some (.ins C dx []) ∧
  SqL K H a (ps.map V.int) ∧ SqL K H b (ts.map V.ref) ∧ Tups H ts ms ∧ Paces ps ∧ Fit ms ∧ a ≠ x ∧ b ≠ x ∧
  ∀ H' l d, CalAt C H' x l d ps (realOf ps ms) → H l = none → H d = none → (∀ c o, H c = some o → c ≠ x → H' c = some o) → Q .non H'
/-- len of a list or a tuple, told by the written part -/
def rLen (K : PySem.W.Frag) : List V → Hp → VK → Prop := fun vs H Q => ∃ (p : Addr) (ys : List V), vs = [.ref p] ∧
  (SqL K H p ys ∨ SqT K H p ys) ∧ Q (.int (ys.length : Nat)) H
/-- the class of calendars as the top has made it -/
structure Cal (K : PySem.W.Frag) (mg : Str → Option Value) (C : Addr) : Prop where
  cl : Cls K C
  nS : NoAttr K C "_speeds"
  nC : NoAttr K C "_changes"
  at_ : mg "Calendar" = some (.ref C)
section
variable {P : Program} {w : World} {K : PySem.W.Frag} {mg : Str → Option Value} {base : Heap}
theorem scInit : FnScope ["self", "speeds", "changes", "moment", "speed"] ["self", "speeds", "changes"] (defScope sInit) := ⟨rfl, rfl, rfl, by decide +kernel, rfl, by decide +kernel, by decide +kernel⟩
theorem ok_init {f fS fC C : Addr} {fd fdS fdC : FuncData} (F : Fun K "__init__" "Calendar.__init__" sInit f fd) (Z : Cal K mg C) (T : Blt mg)
    (S : At P w K mg base 2 "check_speeds" ["speeds"] (spChkS K) fS fdS) (B : At P w K mg base 2 "check_changes" ["changes"] (spChkC K) fC fdC) :
    FnOk P w K mg base CX0 3 f fd ["self", "speeds", "changes"] (spInit C K) := by
  refine F.ok scInit (fun vs H Q E h => ?_) (fun cdv A outer s H vs Q E hr h => ?_)
  · obtain ⟨x, dx, a, b, ps, ts, ms, rfl, _⟩ := h
    rfl
  · obtain ⟨x, dx, a, b, ps, ts, ms, rfl, hx, ha, hb, tp, hp, fit, ax, bx, k⟩ := h
    refine ⟨_, pss_cons (ps_expr (pe_call S.ok hr (by rfl) S.at_ S.kp S.bi .nil pass0 (pa_cons (pv 1) pa_nil)))
      (pss_cons (ps_expr (pe_call B.ok hr (by rfl) B.at_ B.kp B.bi .nil pass0 (pa_cons (pv 2) pa_nil)))
      (pss_cons (ps_fld (pv 0) (pe_callTy call_list_of (by rfl) T.list (by decide +kernel) (pa_cons (pv 1) pa_nil)) rfl)
      (pss_one (ps_fld (pv 0) (pe_dc (own := [("moment", 3), ("speed", 4)]) (g := gTup K 2 (gCons (gName 3) (gCons (gName 4) gNil))) rfl scInit.nd (pi_list (pv 2)) (blkOk_by (N := ["self", "speeds", "changes", "moment", "speed"]) (sc := defScope sInit) (by decide +kernel))
        (fun _ _ _ _ _ => pg_tup rfl (pgs_cons (pg_name (i := 3) scInit.nd rfl (.inl rfl)) (pgs_cons (pg_name (i := 4) scInit.nd rfl (.inl rfl)) pgs_nil)))
        (fun _ _ _ _ _ => pts_one (pt_cmpR op_ne (pv 4) (pe_ix (r := rIxL K) ix_list (pv 1) (pe_op op_mod (pv 3) (pe_callB (r := rLen K) call_len_seq (by rfl) T.len PySem.boot_len (pa_cons (pv 1) pa_nil))) (fun _ _ => rfl)) (nomark _)))
        (fun _ _ _ _ _ => pv 3) (fun _ _ _ _ _ => pv 4)) rfl)))), ?_⟩
    have l0 := hp.len0
    have l1 := hp.len1
    refine ⟨_, rfl, a, ps, rfl, ha, hp, fun H1 s1 => ?_⟩
    refine ⟨_, rfl, b, ts, ms, rfl, s1.seq hb, tp.same s1, fit, fun H2 s2 => ?_⟩
    have s12 := s1.trans s2
    refine ⟨_, rfl, a, _, rfl, .inl (s12.seq ha), fun l hl => ?_⟩
    have hx2 := s12 _ _ hx
    have xl : x ≠ l := ne_of_none hx2 hl
    refine ⟨_, rfl, x, C, dx, _, rfl, (by rw [upd_ne xl]; exact hx2), Z.cl, Z.nS, (by show 0 < 1000; decide), ?_⟩
    generalize hH3 : upd (upd H2 l (.lst (ps.map V.int))) x (.ins C dx (putF "_speeds" (.ref l) [])) = H3
    have f3 : ∀ c o, H c = some o → c ≠ x → H3 c = some o := fun c o e g => by
      have e2 := s12 _ _ e
      rw [← hH3, upd_ne g, upd_ne (ne_of_none e2 hl)]
      exact e2
    have sq : ∀ {c : Addr} {xs : List V}, c ≠ x → SqL K H c xs → SqL K H3 c xs := fun {c xs} g h => by
      rcases h with (h | ⟨o, h⟩) | h
      · exact .inl (.inl (f3 _ _ h g))
      · exact .inl (.inr ⟨o, f3 _ _ h g⟩)
      · exact .inr h
    have hx3 : H3 x = some (.ins C dx (putF "_speeds" (.ref l) [])) := by rw [← hH3]; exact upd_same
    have hl3 : H3 l = some (.lst (ps.map V.int)) := by rw [← hH3, upd_ne xl.symm]; exact upd_same
    have tp3 : Tups H3 ts ms := tp.imp fun t xs e => f3 _ _ e fun z => by
      rw [z, hx] at e
      cases e
    have tl := tp.len
    refine ⟨_, rfl, b, rfl, ⟨_, sq bx hb⟩, fun D hD => dc_it (walk_list (K := K) (a := b) (xs := ts.map V.ref)) (fun i J => J D = some (.dK ((realOf ps (ms.take i)).map kvP)) ∧ ∀ c o, H3 c = some o → J c = some o) ⟨upd_same, same_new hD⟩
      (fun i J _ h => (show Same H3 J from h.2).seq (sq bx hb)) ?_ ?_⟩
    · rintro i y J J' hi ⟨hJ, sJ⟩ ⟨rfl, hy⟩
      have hi' : i < ts.length := by simpa using hi
      rw [List.getElem?_map, List.getElem?_eq_getElem hi'] at hy
      obtain rfl := Option.some.inj hy
      obtain ⟨m, hm, hm2⟩ := (tp3.same (show Same H3 J' from sJ)).get (List.getElem?_eq_getElem hi')
      have et : ms.take (i + 1) = ms.take i ++ [m] := by rw [List.take_add_one, hm]; rfl
      refine ⟨_, _, rfl, .inl (.inl hm2), rfl, _, _, rfl, _, [], rfl, rfl, rfl, ?_⟩
      have hb' := sq ax ha
      have ha' : SqL K J' a (ps.map V.int) := (show Same H3 J' from sJ).seq hb'
      refine ⟨_, rfl, _, rfl, _, rfl, _, rfl, a, _, rfl, .inl ha', _, _, rfl, rfl, (by rw [List.length_map]; omega), a, _, _, _, rfl, rfl, ha', (by rw [List.length_map]; exact atI_pace l0), rfl, ?_⟩
      have ei : decide (V.int m.2 = V.int (paceOf ps m.1)) = decide (m.2 = paceOf ps m.1) := by
        rw [decide_eq_decide]
        exact ⟨fun e => by injection e, fun e => by rw [e]⟩
      rw [ei]
      by_cases hc : m.2 = paceOf ps m.1
      · rw [decide_eq_true hc]
        refine ⟨false, rfl, ?_, sJ⟩
        rw [et]
        unfold realOf
        rw [List.filter_append]
        have : List.filter (fun m => decide (m.2 ≠ paceOf ps m.1)) [m] = [] := by simp [hc]
        rw [this, List.append_nil]
        exact hJ
      · rw [decide_eq_false hc]
        have hr' : ((realOf ps (ms.take i)).map kvP).length < sizeLine := by
          rw [List.length_map]
          refine small1000 (Nat.le_trans (List.length_filter_le _ _) ?_)
          rw [List.length_take]
          have := fit.len
          omega
        have hv : valV ((realOf ps (ms.take i)).map kvP) (Sum.inl m.1 : Key) = none := by
          rw [valV_kvP, List.find?_eq_none.mpr]
          · rfl
          · intro m' hm' e'
            have h1 := (List.mem_filter.mp hm').1
            obtain ⟨j, hj, e⟩ := List.getElem_of_mem h1
            rw [List.length_take] at hj
            rw [List.getElem_take] at e
            have hi2 : i < ms.length := by omega
            have hlt := List.pairwise_iff_getElem.mp fit.asc j i (by omega) hi2 (by omega)
            rw [List.getElem?_eq_getElem hi2] at hm
            have := Option.some.inj hm
            have e3 : m'.1 = m.1 := by simpa using e'
            rw [e, this, e3] at hlt
            omega
        refine ⟨true, rfl, _, rfl, _, rfl, _, Sum.inl m.1, rfl, hJ, hr', ?_, fun c o e => ?_⟩
        · rw [upd_same, putK_new _ hv, et]
          unfold realOf
          rw [List.filter_append]
          have : List.filter (fun m => decide (m.2 ≠ paceOf ps m.1)) [m] = [m] := by simp [hc]
          rw [this, List.map_append]
          rfl
        · rw [upd_ne (ne_of_none e hD)]
          exact sJ c o e
    · rintro J ⟨hJ, sJ⟩
      rw [List.length_map, tl, List.take_length] at hJ
      refine ⟨_, rfl, x, C, dx, _, rfl, sJ _ _ hx3, Z.cl, Z.nC, (by show 1 < 1000; decide), ?_⟩
      have xD : x ≠ D := ne_of_none hx3 hD
      refine k _ l D ⟨⟨dx, upd_same⟩, ?_, ?_⟩ (s12.free hl) ?_ fun c o e g => ?_
      · rw [upd_ne xl.symm]
        exact sJ _ _ hl3
      · rw [upd_ne xD.symm]
        exact hJ
      · cases e : H D with
        | none => rfl
        | some o =>
          rw [f3 D o e (fun z => xD z.symm)] at hD
          cases hD
      · rw [upd_ne g]
        exact sJ _ _ (f3 c o e g)
end

/-! ### what a calendar tells: week, speeds, changes -/
def spWeek (C : Addr) : Sp := fun vs H Q _ => ∃ (x l d : Addr) (ps : List Int) (ms : List (Int × Int)), vs = [.ref x] ∧ CalAt C H x l d ps ms ∧ Q (.int (ps.length : Nat)) H
def spSpeeds (C : Addr) : Sp := fun vs H Q _ => ∃ (x l d : Addr) (ps : List Int) (ms : List (Int × Int)), vs = [.ref x] ∧ CalAt C H x l d ps ms ∧
  ∀ q, H q = none → Q (.ref q) (upd H q (.lst (ps.map V.int)))
def spChanges (C : Addr) : Sp := fun vs H Q _ => ∃ (x l d : Addr) (ps : List Int) (ms : List (Int × Int)), vs = [.ref x] ∧ CalAt C H x l d ps ms ∧
  ∀ (H' : Hp) (q : Addr) (ts : List Addr), Same H H' → H q = none → (∀ t ∈ ts, H t = none) → q ∉ ts → H' q = some (.lst (ts.map V.ref)) → Tups H' ts ms → Q (.ref q) H'
theorem tups_paired {H : Hp} : ∀ {ts : List Addr} {ms : List (Int × Int)}, Paired (fun (t : Addr) (q : Key × V) => H t = some (.tup [kV q.1, q.2])) ts (ms.map kvP) → Tups H ts ms
  | [], [], _ => trivial
  | [], m :: ms, h => nomatch h
  | t :: ts, [], h => nomatch h
  | t :: ts, m :: ms, h => by
    have h' : Paired (fun (t : Addr) (q : Key × V) => H t = some (.tup [kV q.1, q.2])) (t :: ts) (kvP m :: ms.map kvP) := h
    cases h' with
    | cons a b => exact ⟨a, tups_paired b⟩
section
variable {P : Program} {w : World} {K : PySem.W.Frag} {mg : Str → Option Value} {base : Heap}
theorem scGet1 : FnScope ["self"] ["self"] (defScope sWeek) := ⟨rfl, rfl, rfl, by decide +kernel, rfl, by decide +kernel, by decide +kernel⟩
theorem scGet2 : FnScope ["self"] ["self"] (defScope sSpeeds) := ⟨rfl, rfl, rfl, by decide +kernel, rfl, by decide +kernel, by decide +kernel⟩
theorem scGet3 : FnScope ["self"] ["self"] (defScope sChanges) := ⟨rfl, rfl, rfl, by decide +kernel, rfl, by decide +kernel, by decide +kernel⟩
theorem ok_week {f C : Addr} {fd : FuncData} (F : Fun K "week" "Calendar.week" sWeek f fd) (Z : Cal K mg C) (T : Blt mg) : FnOk P w K mg base CX0 1 f fd ["self"] (spWeek C) := by
  refine F.ok scGet1 (fun vs H Q E h => ?_) (fun cdv A outer s H vs Q E hr h => ?_)
  · obtain ⟨x, l, d, ps, ms, rfl, _⟩ := h
    rfl
  · obtain ⟨x, l, d, ps, ms, rfl, ⟨⟨dx, hx⟩, hl, hd⟩, k⟩ := h
    refine ⟨_, pss_one (ps_ret (pe_callB call_len_seq (by rfl) T.len PySem.boot_len (pa_cons (pe_fld (pv 0) rfl) pa_nil))), ?_⟩
    refine ⟨_, rfl, x, C, dx, _, _, rfl, hx, Z.cl, Z.nS, calF_s l d, l, _, rfl, .inl (SqL.of hl), ?_⟩
    rw [List.length_map]
    exact k
theorem ok_speeds {f C : Addr} {fd : FuncData} (F : Fun K "speeds" "Calendar.speeds" sSpeeds f fd) (Z : Cal K mg C) (T : Blt mg) : FnOk P w K mg base CX0 1 f fd ["self"] (spSpeeds C) := by
  refine F.ok scGet2 (fun vs H Q E h => ?_) (fun cdv A outer s H vs Q E hr h => ?_)
  · obtain ⟨x, l, d, ps, ms, rfl, _⟩ := h
    rfl
  · obtain ⟨x, l, d, ps, ms, rfl, ⟨⟨dx, hx⟩, hl, hd⟩, k⟩ := h
    refine ⟨_, pss_one (ps_ret (pe_callTy call_list_of (by rfl) T.list (by decide +kernel) (pa_cons (pe_fld (pv 0) rfl) pa_nil))), ?_⟩
    exact ⟨_, rfl, x, C, dx, _, _, rfl, hx, Z.cl, Z.nS, calF_s l d, l, _, rfl, .inl (SqL.of hl), k⟩
theorem ok_changes {f C : Addr} {fd : FuncData} (F : Fun K "changes" "Calendar.changes" sChanges f fd) (Z : Cal K mg C) (T : Blt mg) : FnOk P w K mg base CX0 1 f fd ["self"] (spChanges C) := by
  refine F.ok scGet3 (fun vs H Q E h => ?_) (fun cdv A outer s H vs Q E hr h => ?_)
  · obtain ⟨x, l, d, ps, ms, rfl, _⟩ := h
    rfl
  · obtain ⟨x, l, d, ps, ms, rfl, ⟨⟨dx, hx⟩, hl, hd⟩, k⟩ := h
    refine ⟨_, pss_one (ps_ret (LiI.pe_listItems rfl (pe_fld (pv 0) rfl) (by rfl) T.list (by decide +kernel))), ?_⟩
    exact ⟨_, rfl, x, C, dx, _, _, rfl, hx, Z.cl, Z.nC, calF_c l d, d, _, rfl, hd, fun H' q ts s1 nq nt qt hq hp => k H' q ts s1 nq nt qt hq (tups_paired hp)⟩
end
/-- a property of the calendars, by its getter -/
structure Pp (P : Program) (w : World) (K : PySem.W.Frag) (mg : Str → Option Value) (base : Heap) (C : Addr) (x : Str) (sp : Sp) (p g : Addr) (fd : FuncData) : Prop where
  of : PropOf K C x p g
  ok : FnOk P w K mg base CX0 1 g fd ["self"] sp
  bi : Binds K fd ["self"] []

/-! ### data whose repr is short -/
structure Rp (d : PyData) (n k : Nat) : Prop where
  lv : d.leavesShort 42 = true
  sh : d.showable = true
  nd : d.hasDict = false
  dp : d.depth ≤ k
  bk : d.bulk ≤ n
structure RpA (xs : List PyData) (n k : Nat) : Prop where
  lv : PyData.leavesShortAll 42 xs = true
  sh : PyData.showableAll xs = true
  nd : PyData.hasDictAll xs = false
  dp : PyData.depthAll xs ≤ k
  bk : PyData.bulkAll xs ≤ n
theorem Rp.int {i : Int} (h0 : -10 ^ 40 < i) (h1 : i < 10 ^ 40) : Rp (.int i) 0 0 := by
  have h : i.natAbs < 10 ^ 40 := by omega
  refine ⟨?_, ?_, rfl, Nat.le_refl _, Nat.le_refl _⟩
  · refine decide_eq_true ?_
    have e := int_text_length_le10 (k := 40) (by decide) h
    show (Str.ofString (toString i)).length ≤ 42
    rw [PySem.ofString_length]
    omega
  · refine decide_eq_true ?_
    by_cases z : i.natAbs = 0
    · rw [z]
      decide
    · have : i.natAbs < 2 ^ 1920 := Nat.lt_trans h (by decide)
      exact (Nat.log2_lt z).mpr this
theorem Rp.bool (b : Bool) : Rp (.bool b) 0 0 := ⟨rfl, rfl, rfl, Nat.le_refl _, Nat.le_refl _⟩
theorem Rp.none : Rp .none 0 0 := ⟨rfl, rfl, rfl, Nat.le_refl _, Nat.le_refl _⟩
theorem Rp.mono {d : PyData} {n k n' k' : Nat} (h : Rp d n k) (g1 : n ≤ n') (g2 : k ≤ k') : Rp d n' k' := ⟨h.lv, h.sh, h.nd, Nat.le_trans h.dp g2, Nat.le_trans h.bk g1⟩
theorem RpA.mono {d : List PyData} {n k n' k' : Nat} (h : RpA d n k) (g1 : n ≤ n') (g2 : k ≤ k') : RpA d n' k' := ⟨h.lv, h.sh, h.nd, Nat.le_trans h.dp g2, Nat.le_trans h.bk g1⟩
theorem Rp.list {xs : List PyData} {n k : Nat} (h : RpA xs n k) : Rp (.list xs) n (k + 1) :=
  ⟨by simp only [PyData.leavesShort, h.lv], by simp only [PyData.showable, h.sh], by simp only [PyData.hasDict, h.nd], by simp only [PyData.depth]; have := h.dp; omega, by simp only [PyData.bulk]; exact h.bk⟩
theorem Rp.tup {xs : List PyData} {n k : Nat} (h : RpA xs n k) : Rp (.tuple xs) n (k + 1) :=
  ⟨by simp only [PyData.leavesShort, h.lv], by simp only [PyData.showable, h.sh], by simp only [PyData.hasDict, h.nd], by simp only [PyData.depth]; have := h.dp; omega, by simp only [PyData.bulk]; exact h.bk⟩
theorem RpA.nil : RpA [] 0 0 := ⟨rfl, rfl, rfl, Nat.le_refl _, Nat.le_refl _⟩
theorem RpA.cons {d : PyData} {xs : List PyData} {n k m j : Nat} (h : Rp d n k) (g : RpA xs m j) : RpA (d :: xs) (n + 1 + m) (k + j) :=
  ⟨by simp only [PyData.leavesShortAll, h.lv, g.lv, Bool.and_self], by simp only [PyData.showableAll, h.sh, g.sh, Bool.and_self], by simp only [PyData.hasDictAll, h.nd, g.nd, Bool.or_self],
    by simp only [PyData.depthAll]; have := h.dp; have := g.dp; omega, by simp only [PyData.bulkAll]; have := h.bk; have := g.bk; omega⟩
theorem RpA.all {n k : Nat} : ∀ {xs : List PyData}, (∀ d ∈ xs, Rp d n k) → RpA xs (xs.length * (n + 1)) k
  | [], _ => RpA.nil.mono (Nat.zero_le _) (Nat.zero_le _)
  | d :: xs, h => by
    have h1 := h d List.mem_cons_self
    have h2 := RpA.all (xs := xs) fun e he => h e (List.mem_cons_of_mem _ he)
    refine ⟨by simp only [PyData.leavesShortAll, h1.lv, h2.lv, Bool.and_self], by simp only [PyData.showableAll, h1.sh, h2.sh, Bool.and_self], by simp only [PyData.hasDictAll, h1.nd, h2.nd, Bool.or_self], ?_, ?_⟩
    · simp only [PyData.depthAll]
      have := h1.dp
      have := h2.dp
      omega
    · simp only [PyData.bulkAll]
      have := h1.bk
      have := h2.bk
      rw [List.length_cons, Nat.add_mul]
      omega
theorem Rp.fits {d : PyData} {n k : Nat} (h : Rp d n k) (g : n ≤ 300000) : d.shown.length ≤ sizeLine := by
  have e := PyData.shown_le_bulk 42 (by decide) d h.lv
  have := h.bk
  rw [sizeLine_eq]
  omega
def rRep2 (K : PySem.W.Frag) : List V → Hp → VK → Prop := fun xs H Q => ∃ (a : Addr) (d : PyData) (n k : Nat), xs = [.ref a] ∧ Dp K H (.ref a) d ∧ Rp d n k ∧ k ≤ 60 ∧ n ≤ 300000 ∧ Q (.str d.shown) H
theorem call_rep2 {X : Cx} (hgd : X.A.guards = some []) (hu : X.A.units + 64 < cLine) : CallR X (.builtin "repr") (rRep2 X.K) := by
  intro pins s σ H xs us Q I r h
  obtain ⟨a, d, n, k, e, hd, hr, hk, hn, q⟩ := h
  exact call_repr hgd hu pins s σ H xs us Q I r ⟨a, d, e, hd, hr.sh, hr.nd, Nat.le_trans hr.dp hk, hr.fits hn, q⟩
/-! ### which data stand where -/
def dInts (xs : List Int) : PyData := .list (xs.map PyData.int)
def dMarks (ms : List (Int × Int)) : PyData := .list (ms.map fun m => PyData.tuple [.int m.1, .int m.2])
theorem dpAll_ints {K : PySem.W.Frag} {H : Hp} : ∀ xs : List Int, DpAll K H (xs.map V.int) (xs.map PyData.int)
  | [] => .nil
  | x :: xs => .cons (.int x) (dpAll_ints xs)
theorem dp_ints {K : PySem.W.Frag} {H : Hp} {a : Addr} {xs : List Int} (h : SqL K H a (xs.map V.int)) : Dp K H (.ref a) (dInts xs) := .lst h (dpAll_ints xs)
theorem dpAll_marks {K : PySem.W.Frag} {H : Hp} : ∀ {ts : List Addr} {ms : List (Int × Int)}, Tups H ts ms → DpAll K H (ts.map V.ref) (ms.map fun m => PyData.tuple [.int m.1, .int m.2])
  | [], [], _ => .nil
  | _ :: _, m :: _, h => .cons (.tup (SqT.of h.1) (.cons (.int m.1) (.cons (.int m.2) .nil))) (dpAll_marks h.2)
theorem dp_marks {K : PySem.W.Frag} {H : Hp} {a : Addr} {ts : List Addr} {ms : List (Int × Int)} (h : SqL K H a (ts.map V.ref)) (g : Tups H ts ms) : Dp K H (.ref a) (dMarks ms) := .lst h (dpAll_marks g)
theorem rp_ints {xs : List Int} (h : ∀ v ∈ xs, -10 ^ 40 < v ∧ v < 10 ^ 40) : Rp (dInts xs) xs.length 1 := by
  have := RpA.all (xs := xs.map PyData.int) (n := 0) (k := 0) fun d hd => by
    obtain ⟨v, hv, rfl⟩ := List.mem_map.mp hd
    exact Rp.int (h v hv).1 (h v hv).2
  refine (Rp.list this).mono ?_ (Nat.le_refl _)
  rw [List.length_map]
  omega
theorem rp_marks {ms : List (Int × Int)} (h : ∀ m ∈ ms, -10 ^ 40 < m.1 ∧ m.1 < 10 ^ 40 ∧ -10 ^ 40 < m.2 ∧ m.2 < 10 ^ 40) : Rp (dMarks ms) (ms.length * 3) 2 := by
  have := RpA.all (xs := ms.map fun m => PyData.tuple [.int m.1, .int m.2]) (n := 2) (k := 1) fun d hd => by
    obtain ⟨m, hm, rfl⟩ := List.mem_map.mp hd
    have g := h m hm
    exact (Rp.tup (.cons (Rp.int g.1 g.2.1) (.cons (Rp.int g.2.2.1 g.2.2.2) .nil))).mono (by omega) (by omega)
  refine (Rp.list this).mono ?_ (Nat.le_refl _)
  rw [List.length_map]
  omega

/-! ### operators of own classes -/
section
variable {X : Cx} {k : Nat} {f C : Addr} {fd : FuncData} {ps : List Str} {sp : Sp}
theorem run_in1 {pins : List (Addr × Obj)} {σ : L2.St} {H : Hp} {s : Shared} {Q : VK} {us : List Value} {vs : List V} (F : FnOk X.prog X.w X.K X.mg X.base CX0 k f fd ps sp) (hr : Room (k + 1) X.A)
    (hb : Binds X.K fd ps []) (I : Inv X pins σ H s) (r : Vals vs us) (h : sp vs H Q E0) : wpAny (model X.prog X.w) X.A.in1 (call (.ref f) us) (EP X pins σ Q) X.xe s := by
  have hl : us.length = ps.length := r.length.symm.trans (F.len _ _ _ _ h)
  have bi := hb s us I.kIn (by rw [List.append_nil]; exact hl)
  rw [List.append_nil] at bi
  refine wpAny_call (codeAny_mono (F.run X.A.in1 X.stack s H ⟨us, []⟩ us vs Q E0 hr.in1 I.env0.in1 bi r h) fun res s2 hq => ?_)
  rcases res with er | fl
  · exact False.elim hq
  · rcases fl with _ | _ | _ | u
    iterate 3 exact False.elim hq
    exact I.after hq
theorem run_here {pins : List (Addr × Obj)} {σ : L2.St} {H : Hp} {s : Shared} {Q : VK} {us : List Value} {vs : List V} (F : FnOk X.prog X.w X.K X.mg X.base CX0 k f fd ps sp) (hr : Room k X.A)
    (hb : Binds X.K fd ps []) (I : Inv X pins σ H s) (r : Vals vs us) (h : sp vs H Q E0) : wpAny (model X.prog X.w) X.A (call (.ref f) us) (EP X pins σ Q) X.xe s := by
  have q : sp (vs ++ []) H Q E0 := by rw [List.append_nil]; exact h
  exact run_fn F hr hb .nil pass0 I r q
/-- what stands behind x[i], i in x of an own class -/
structure Own (K : PySem.W.Frag) (C : Addr) (m : Str) (f : Addr) : Prop where
  at_ : PySem.W.findIn K (.ref C) m = some (some (.ref f))
  fn : PySem.W.isFn K (.ref f) = true
  fi : PySem.W.fnIn K f = true
def rOwn (C : Addr) (sp : Sp) : R2 := fun x y H Q => ∃ a dx fs, x = .ref a ∧ H a = some (.ins C dx fs) ∧ sp [.ref a, y] H Q E0
theorem ix_own (o : Own X.K C "__getitem__" f) (F : FnOk X.prog X.w X.K X.mg X.base CX0 k f fd ps sp) (hr : Room (k + 1) X.A) (hb : Binds X.K fd ps [])
    {a b : Expr} {ta tb : TE} {pos : Pos} (ha : PE X a ta) (hi : PE X b tb)
    (hsl : ∀ (x : Addr) (i : Value), subscripted b true (.ref x) i = runValue (.builtin "lifetime.subscript" ⟨[.ref x, i], []⟩) := by intro _ _; with_unfolding_all rfl) :
    PE X (.Subscript a b pos) (tOp (rOwn C sp) ta tb) := by
  refine ⟨fun pins s σ H Q I h => ?_⟩
  refine Subscript_ (binT ha hi I h fun v u s2 x y H2 I2 rx ry q => ?_)
  obtain ⟨p, dx, fs, rfl, ea, hq⟩ := q
  obtain rfl : v = Value.ref p := rx
  obtain ⟨m, fr⟩ := I2.fr
  obtain ⟨mA, O, _⟩ := ins_get I2.hok ea
  obtain ⟨od, J, _⟩ := O.look
  exact PySem.W.sub_K fr I2.ok.mod.kin J o.at_ o.fi o.fn (run_in1 F hr hb I2 (.cons (show L2.RelV (V.ref p) (Value.ref p) from rfl) (.cons ry .nil)) hq) (hsl p u)
def rIn (C : Addr) (sp : Sp) : R2 := fun y x H Q => ∃ a dx fs, x = .ref a ∧ H a = some (.ins C dx fs) ∧ sp [.ref a, y] H (fun r H' => ∃ b, r = .bl b ∧ Q (.bl b) H') E0
theorem op_inOwn (o : Own X.K C "__contains__" f) (F : FnOk X.prog X.w X.K X.mg X.base CX0 k f fd ps sp) (hr : Room k X.A) (hb : Binds X.K fd ps []) : OpR X (compareOp .In) (rIn C sp) := by
  intro pins s σ H y x v u Q I ry rx h
  obtain ⟨p, dx, fs, rfl, ea, hq⟩ := h
  obtain rfl : u = Value.ref p := rx
  obtain ⟨m, fr⟩ := I.fr
  obtain ⟨mA, O, _⟩ := ins_get I.hok ea
  obtain ⟨od, J, _⟩ := O.look
  refine PySem.W.in_K fr I.ok.mod.kin J o.at_ o.fn (thn (run_here F hr hb I (.cons (show L2.RelV (V.ref p) (Value.ref p) from rfl) (.cons ry .nil)) hq) fun r s2 ⟨z, H2, I2, rz, b, eb, q2⟩ => ?_)
  subst eb
  obtain rfl : r = Value.bool b := rz
  exact wpAny_truthy_bool ⟨.bl b, H2, I2, rfl, q2⟩
end
/-- the speed that a calendar has at a moment -/
def speedAt (ps : List Int) (ms : List (Int × Int)) (t : Int) : Int := ((ms.find? fun m => decide (m.1 = t)).map fun m => m.2).getD (paceOf ps t)
def spGet (C : Addr) : Sp := fun vs H Q _ => ∃ (x l d : Addr) (ps : List Int) (ms : List (Int × Int)) (t : Int), vs = [.ref x, .int t] ∧ CalAt C H x l d ps ms ∧ 0 < ps.length ∧ Q (.int (speedAt ps ms t)) H
def spHas (C : Addr) : Sp := fun vs H Q _ => ∃ (x l d : Addr) (ps : List Int) (ms : List (Int × Int)) (t : Int), vs = [.ref x, .int t] ∧ CalAt C H x l d ps ms ∧ 0 < ps.length ∧ Q (.bl (decide (speedAt ps ms t ≠ 0))) H
section
variable {P : Program} {w : World} {K : PySem.W.Frag} {mg : Str → Option Value} {base : Heap}
theorem scGet : FnScope ["self", "at"] ["self", "at"] (defScope sGet) := ⟨rfl, rfl, rfl, by decide +kernel, rfl, by decide +kernel, by decide +kernel⟩
theorem ok_get {f C : Addr} {fd : FuncData} (F : Fun K "__getitem__" "Calendar.__getitem__" sGet f fd) (Z : Cal K mg C) (T : Blt mg) : FnOk P w K mg base CX0 1 f fd ["self", "at"] (spGet C) := by
  refine F.ok scGet (fun vs H Q E h => ?_) (fun cdv A outer s H vs Q E hr h => ?_)
  · obtain ⟨x, l, d, ps, ms, t, rfl, _⟩ := h
    rfl
  · obtain ⟨x, l, d, ps, ms, t, rfl, ⟨⟨dx, hx⟩, hl, hd⟩, l0, k⟩ := h
    have hu := hu_of hr
    refine ⟨_, pss_one (ps_ret (pe_dget2 hu (pe_fld (pv 0) rfl) (pv 1) (pe_ix ix_list (pe_fld (pv 0) rfl) (pe_op op_mod (pv 1) (pe_callB call_len_seq (by rfl) T.len PySem.boot_len (pa_cons (pe_fld (pv 0) rfl) pa_nil))) (fun _ _ => rfl)) ⟨rfl, rfl, rfl, rfl⟩)), ?_⟩
    have hz : (((ps.map V.int).length : Nat) : Int) = ps.length := by rw [List.length_map]
    refine ⟨_, rfl, x, C, dx, _, _, rfl, hx, Z.cl, Z.nC, calF_c l d, d, rfl, .inl ⟨_, .inl hd⟩, _, rfl, _, rfl, x, C, dx, _, _, rfl, hx, Z.cl, Z.nS, calF_s l d, _, rfl, _, rfl, x, C, dx, _, _, rfl, hx, Z.cl, Z.nS, calF_s l d, l, _, rfl, .inl (SqL.of hl), _, _, rfl, rfl, ?_, l, _, _, .int (paceOf ps t), rfl, rfl, SqL.of hl, ?_, ?_⟩
    · rw [hz]
      omega
    · rw [hz]
      exact atI_pace l0
    · refine ⟨_, DGet.k (k := Sum.inl t) hd, ?_⟩
      rw [valV_kvP]
      unfold speedAt at k
      cases e : ms.find? fun m => decide (m.1 = t) with
      | none =>
        rw [e] at k
        exact k
      | some m =>
        rw [e] at k
        exact k
theorem scHas : FnScope ["self", "x"] ["self", "x"] (defScope sHas) := ⟨rfl, rfl, rfl, by decide +kernel, rfl, by decide +kernel, by decide +kernel⟩
theorem ok_has {f g C : Addr} {fd gd : FuncData} (F : Fun K "__contains__" "Calendar.__contains__" sHas f fd) (o : Own K C "__getitem__" g) (G : FnOk P w K mg base CX0 1 g gd ["self", "at"] (spGet C)) (bG : Binds K gd ["self", "at"] []) :
    FnOk P w K mg base CX0 3 f fd ["self", "x"] (spHas C) := by
  refine F.ok scHas (fun vs H Q E h => ?_) (fun cdv A outer s H vs Q E hr h => ?_)
  · obtain ⟨x, l, d, ps, ms, t, rfl, _⟩ := h
    rfl
  · obtain ⟨x, l, d, ps, ms, t, rfl, cal, l0, k⟩ := h
    obtain ⟨dx, hx⟩ := cal.ob
    refine ⟨_, pss_one (ps_ret (pe_cmpR op_ne (ix_own o G hr bG (pv 0) (pv 1)) pe_int (nomark _))), ?_⟩
    refine ⟨_, rfl, _, rfl, x, dx, _, rfl, hx, ⟨x, l, d, ps, ms, t, rfl, cal, l0, rfl, ?_⟩⟩
    have e : (!decide (V.int (speedAt ps ms t) = V.int 0)) = decide (speedAt ps ms t ≠ 0) := by
      by_cases z : speedAt ps ms t = 0
      · rw [z]
        rfl
      · have z2 : ¬ V.int (speedAt ps ms t) = V.int 0 := fun q => z (by injection q)
        rw [decide_eq_false z2, decide_eq_true z]
        rfl
    rw [e]
    exact k
end

/-! ### a law's own speed at a moment -/
theorem find_at {p : Int × Int → Bool} : ∀ {ms : List (Int × Int)} {i : Nat} {m : Int × Int}, ms[i]? = some m → (ms.take i).find? p = none → p m = true → ms.find? p = some m
  | [], i, m, h, _, _ => by simp at h
  | a :: ms, 0, m, h, _, g => by
    obtain rfl := Option.some.inj h
    rw [List.find?_cons, g]
  | a :: ms, i + 1, m, h, f, g => by
    rw [List.take_succ_cons, List.find?_cons] at f
    rw [List.find?_cons]
    cases e : p a with
    | true =>
      rw [e] at f
      cases f
    | false =>
      rw [e] at f
      exact find_at (ms := ms) (i := i) h f g
theorem find_more {p : Int × Int → Bool} {ms : List (Int × Int)} {i : Nat} {m : Int × Int} (h : ms[i]? = some m) (f : (ms.take i).find? p = none) (g : p m = false) : (ms.take (i + 1)).find? p = none := by
  rw [List.take_add_one, h, List.find?_append, f]
  show (List.find? p [m]) = none
  rw [List.find?_cons, g]
  rfl
theorem speed_hit {ps : List Int} {ms : List (Int × Int)} {t : Int} {m : Int × Int} (h : (ms.find? fun m => decide (m.1 = t)) = some m) : speedAt ps ms t = m.2 := by
  unfold speedAt
  rw [h]
  rfl
theorem speed_miss {ps : List Int} {ms : List (Int × Int)} {t : Int} (h : (ms.find? fun m => decide (m.1 = t)) = none) : speedAt ps ms t = paceOf ps t := by
  unfold speedAt
  rw [h]
  rfl
theorem speed_real {ps : List Int} : ∀ {ms : List (Int × Int)} {t : Int}, (ms.Pairwise fun a b => a.1 < b.1) → speedAt ps (realOf ps ms) t = speedAt ps ms t
  | [], t, _ => rfl
  | m :: ms, t, h => by
    have h2 := List.pairwise_cons.mp h
    have ih := speed_real (ps := ps) (ms := ms) (t := t) h2.2
    by_cases e : m.1 = t
    · have hit : ((m :: ms).find? fun m => decide (m.1 = t)) = some m := by rw [List.find?_cons, decide_eq_true e]
      rw [speed_hit hit]
      by_cases c : m.2 = paceOf ps m.1
      · have er : realOf ps (m :: ms) = realOf ps ms := by unfold realOf; simp [c]
        rw [er, ih, speed_miss, c, e]
        refine List.find?_eq_none.mpr fun m' hm' e' => ?_
        have := h2.1 m' hm'
        have e2 : m'.1 = t := by simpa using e'
        omega
      · have er : realOf ps (m :: ms) = m :: realOf ps ms := by unfold realOf; simp [c]
        rw [er]
        exact speed_hit (by rw [List.find?_cons, decide_eq_true e])
    · have miss : ∀ l : List (Int × Int), speedAt ps (m :: l) t = speedAt ps l t := fun l => by
        unfold speedAt
        rw [List.find?_cons, decide_eq_false e]
      rw [miss]
      by_cases c : m.2 = paceOf ps m.1
      · have er : realOf ps (m :: ms) = realOf ps ms := by unfold realOf; simp [c]
        rw [er]
        exact ih
      · have er : realOf ps (m :: ms) = m :: realOf ps ms := by unfold realOf; simp [c]
        rw [er, miss]
        exact ih
theorem pace_in {ps : List Int} {t : Int} (h : 0 < ps.length) : paceOf ps t ∈ ps := by
  have h0 := Int.emod_nonneg t (show (ps.length : Int) ≠ 0 by omega)
  have h1 := Int.emod_lt_of_pos t (show (0 : Int) < ps.length by omega)
  obtain ⟨v, hv, e, _⟩ := atI_ints h0 h1
  unfold paceOf
  rw [List.getD_eq_getElem?_getD, e]
  exact hv
theorem speed_lo {ps : List Int} {ms : List (Int × Int)} (hp : Paces ps) (fit : Fit ms) (t : Int) : 0 ≤ speedAt ps ms t ∧ speedAt ps ms t ≤ 3 := by
  cases e : ms.find? fun m => decide (m.1 = t) with
  | none =>
    rw [speed_miss e]
    exact hp.lo _ (pace_in hp.len0)
  | some m =>
    rw [speed_hit e]
    exact fit.val m (List.mem_of_find?_eq_some e)
def spPace : Sp := fun vs H Q _ => ∃ (a b : Addr) (ps : List Int) (ts : List Addr) (ms : List (Int × Int)) (t : Int), vs = [.ref a, .ref b, .int t] ∧ H a = some (.lst (ps.map V.int)) ∧ H b = some (.lst (ts.map V.ref)) ∧ Tups H ts ms ∧ 0 < ps.length ∧
  Q (.int (speedAt ps ms t)) H
section
variable {P : Program} {w : World} {K : PySem.W.Frag} {mg : Str → Option Value} {base : Heap}
theorem scPace : FnScope ["paces", "marks", "at", "spot", "pace"] ["paces", "marks", "at"] (defScope sPace) := ⟨rfl, rfl, rfl, by decide +kernel, rfl, by decide +kernel, by decide +kernel⟩
theorem ok_pace {f : Addr} {fd : FuncData} (F : Fun K "_law_pace" "_law_pace" sPace f fd) (T : Blt mg) : FnOk P w K mg base CX0 1 f fd ["paces", "marks", "at"] spPace := by
  refine F.ok scPace (fun vs H Q E h => ?_) (fun cdv A outer s H vs Q E hr h => ?_)
  · obtain ⟨a, b, ps, ts, ms, t, rfl, _⟩ := h
    rfl
  · obtain ⟨a, b, ps, ts, ms, t, rfl, ha, hb, tp, l0, k⟩ := h
    refine ⟨_, pss_cons (ps_for PassesOwn.never rfl (pi_list (pv 1)) (pg_tup rfl (pgs_cons (pg_name (i := 3) scPace.nd rfl (.inl rfl)) (pgs_cons (pg_name (i := 4) scPace.nd rfl (.inl rfl)) pgs_nil)))
        (pss_one (ps_if (pt_cmpR op_eq (pv 3) (pv 2) (nomark _)) (pss_one (ps_ret (pv 4))) pss_nil)))
      (pss_one (ps_ret (pe_ix ix_list (pv 0) (pe_op op_mod (pe_callTy call_int1 (by rfl) T.int (by decide +kernel) (pa_cons (pv 2) pa_nil)) (pe_callB call_len_seq (by rfl) T.len PySem.boot_len (pa_cons (pv 0) pa_nil))) (fun _ _ => rfl)))), ?_⟩
    have tl := tp.len
    refine ⟨_, rfl, b, rfl, ⟨_, SqL.of hb⟩, for_list (K := K) (a := b) (xs := ts.map V.ref) (fun i σ J => J = H ∧ (∃ y3 y4 : Option V, σ = [some (.ref a), some (.ref b), some (.int t), y3, y4]) ∧ ((ms.take i).find? fun m => decide (m.1 = t)) = none)
      ⟨rfl, ⟨none, none, rfl⟩, rfl⟩ (fun i σ J _ h => by rw [h.1]; exact SqL.of hb) ?_ ?_⟩
    · rintro i y σ J hi ⟨rfl, ⟨y3, y4, rfl⟩, hf⟩
      have hi' : i < ts.length := by
        have := (List.getElem?_eq_some_iff.mp hi).1
        simpa using this
      rw [List.getElem?_map, List.getElem?_eq_getElem hi'] at hi
      obtain rfl := Option.some.inj hi
      obtain ⟨m, hm, hm2⟩ := tp.get (List.getElem?_eq_getElem hi')
      refine ⟨_, _, rfl, .inl (.inl hm2), rfl, _, _, rfl, _, [], rfl, rfl, _, rfl, _, rfl, rfl, _, rfl, ite2 (fun g => ?_) (fun g => ?_)⟩
      · have e : m.1 = t := by
          have := of_decide_eq_true g
          injection this
        refine ⟨_, rfl, ?_⟩
        rw [speed_hit (find_at hm hf (decide_eq_true e))] at k
        exact k
      · have e : ¬ m.1 = t := fun q => g (decide_eq_true (by rw [q]))
        exact ⟨rfl, ⟨_, _, rfl⟩, find_more hm hf (decide_eq_false e)⟩
    · rintro σ J ⟨rfl, ⟨y3, y4, rfl⟩, hf⟩
      rw [List.length_map, tl, List.take_length] at hf
      have hz : (((ps.map V.int).length : Nat) : Int) = ps.length := by rw [List.length_map]
      rw [speed_miss hf] at k
      refine ⟨_, rfl, _, rfl, .inl ⟨_, rfl, _, rfl, a, _, rfl, .inl (SqL.of ha), _, _, rfl, rfl, ?_, a, _, _, .int (paceOf ps t), rfl, rfl, SqL.of ha, ?_, k⟩⟩
      · rw [hz]
        omega
      · rw [hz]
        exact atI_pace l0
end

/-! ### the law's own loop -/
def Scr (K : PySem.W.Frag) (H : Hp) (a : Addr) (xs : List V) : Prop := (∃ o, H a = some (.frz o (.lst xs))) ∨ ∀ J : Hp, SqL K J a xs
theorem Scr.seq {K : PySem.W.Frag} {H : Hp} {a : Addr} {xs : List V} (h : Scr K H a xs) : SqL K H a xs := by
  rcases h with ⟨o, h⟩ | h
  · exact .inl (.inr ⟨o, h⟩)
  · exact h H
theorem Scr.of {K : PySem.W.Frag} {H : Hp} {a : Addr} {xs : List V} (o : Only H) (h : SqL K H a xs) : Scr K H a xs := by
  rcases h with (h | ⟨u, h⟩) | h
  · rcases o a with z | ⟨u, ys, z⟩
    · rw [z] at h
      cases h
    · rw [z] at h
      cases h
  · exact .inl ⟨u, h⟩
  · exact .inr fun J => .inr h
theorem Scr.same {K : PySem.W.Frag} {H H' : Hp} {a : Addr} {xs : List V} (h : Scr K H a xs) (f : Same H H') : Scr K H' a xs := by
  rcases h with ⟨o, h⟩ | h
  · exact .inl ⟨o, f _ _ h⟩
  · exact .inr h
theorem Scr.fr {K : PySem.W.Frag} {H H' : Hp} {a p : Addr} {n : Nat} {xs : List V} (h : Scr K H a xs) (g : Well H p n) (f : Fr p H H') : Scr K H' a xs := by
  rcases h with ⟨o, h⟩ | h
  · refine .inl ⟨o, f _ _ h fun z => ?_⟩
    obtain ⟨x, y, u, e, _⟩ := g
    rw [z, e] at h
    cases h
  · exact .inr h
def spFits : Sp := fun vs H Q _ => ∃ (p : Addr) (n : Nat), vs = [.ref p] ∧ Well H p n ∧ n ≤ 10 ^ 6 ∧ ∀ H', Fr p H H' → Well H' p (n + 1000) → Q (.bl true) H'
def spLaw (K : PySem.W.Frag) : Sp := fun vs H Q _ => ∃ (a : Addr) (ns : List Int), vs = [.ref a] ∧ Scr K H a (ns.map V.int) ∧ ns.length ≤ 63 ∧ ∀ H', Q (.bl true) H'
/-- the turns of the inner loop -/
def turns : Nat := match defBody sLaw with
  | .For _ _ (_ :: .For _ (.Call _ (.Constant (.int n) _ _ :: _) _ _) _ _ _ :: _) _ _ :: _ => n.toNat
  | _ => 0
section
variable {P : Program} {w : World} {K : PySem.W.Frag} {mg : Str → Option Value} {base : Heap}
theorem scLaw : FnScope ["script", "place", "well", "turn"] ["script"] (defScope sLaw) := ⟨rfl, rfl, rfl, by decide +kernel, rfl, by decide +kernel, by decide +kernel⟩
theorem ok_law {f fW fF : Addr} {fd fdW fdF : FuncData} {k : Nat} (hk : 1 ≤ k) (F : Fun K "law" "law" sLaw f fd) (T : Blt mg) (W : At P w K mg base 1 "_law_well" ["script", "place"] (spWell K) fW fdW)
    (G : FnG P w K mg base k fF fdF ["well"] spFits) (gF : mg "_law_fits" = some (.ref fF)) (kF : PySem.W.keepIn K (.ref fF) = true) (bF : Binds K fdF ["well"] []) : FnG P w K mg base (k + 1) f fd ["script"] (spLaw K) := by
  refine okG F scLaw (fun vs H Q E h => ?_) (fun cdv A outer s H vs Q E hgd hr h => ?_)
  · obtain ⟨a, ns, rfl, _⟩ := h
    rfl
  · obtain ⟨a, ns, rfl, hS, hl, q⟩ := h
    have hr1 : Room 1 _ := hr.mono hk
    refine ⟨_, pss_cons (ps_for PassesOwn.never rfl (pi_range1 (by rfl) T.range (pa_cons (pe_callB (call_max2 rfl) (by rfl) T.max (by decide +kernel) (pa_cons pe_int (pa_cons (pe_callB (call_min2 rfl) (by rfl) T.min (by decide +kernel)
          (pa_cons pe_int (pa_cons (pe_callB call_len_seq (by rfl) T.len PySem.boot_len (pa_cons (pv 0) pa_nil)) pa_nil))) pa_nil))) pa_nil)) (pg_name (i := 1) scLaw.nd rfl (.inl rfl))
        (pss_cons (ps_set (i := 2) scLaw.nd rfl (.inl rfl) (pe_call W.ok hr1 (by rfl) W.at_ W.kp W.bi .nil pass0 (pa_cons (pv 0) (pa_cons (pv 1) pa_nil))))
        (pss_one (ps_for PassesOwn.never rfl (pi_range1 (by rfl) T.range (pa_cons pe_int pa_nil)) (pg_name (i := 3) scLaw.nd rfl (.inl rfl))
          (pss_one (ps_if (pt_not (pt_val (pe_callG G hgd hr (by rfl) gF kF bF (pa_cons (pv 2) pa_nil)))) (pss_one (ps_ret pe_bl)) pss_nil))))))
      (pss_one (ps_ret pe_bl)), ?_⟩
    refine ⟨_, rfl, a, _, rfl, .inl hS.seq, 63, _, rfl, 1, _, rfl, ?_⟩
    generalize hm : (if (if (((ns.map V.int).length : Nat) : Int) < 63 then (((ns.map V.int).length : Nat) : Int) else 63) > 1 then (if (((ns.map V.int).length : Nat) : Int) < 63 then (((ns.map V.int).length : Nat) : Int) else 63) else 1) = m
    have m1 : 1 ≤ m ∧ m ≤ 63 := by
      rw [← hm]
      split <;> split <;> omega
    refine ⟨m, rfl, by omega, by omega, for_range (lo := 0) (n := m.toNat) (fun i σ J => ∃ y1 y2 y3 : Option V, σ = [some (.ref a), y1, y2, y3] ∧ Scr K J a (ns.map V.int)) ⟨none, none, none, rfl, hS⟩ ?_ ?_⟩
    · rintro i σ J hi ⟨y1, y2, y3, rfl, hJ⟩
      refine ⟨_, rfl, _, rfl, ⟨a, ns, _, rfl, hJ.seq, hl, by omega, by omega, fun p J1 np s1 w1 => ?_⟩⟩
      refine ⟨turns, rfl, by decide +kernel, by decide +kernel, for_range (lo := 0) (n := turns) (fun j σ J2 => ∃ y3 : Option V, σ = [some (.ref a), some (.int (0 + i)), some (.ref p), y3] ∧ Scr K J2 a (ns.map V.int) ∧ Well J2 p (j * 1000)) ⟨_, rfl, hJ.same s1, w1.mono (by omega)⟩ ?_ ?_⟩
      · rintro j σ J2 hj ⟨y3, rfl, hJ2, w2⟩
        have tb : turns ≤ 100 := by decide +kernel
        refine ⟨_, rfl, ⟨p, _, rfl, w2, by omega, fun J3 f3 w3 => ⟨_, rfl, ?_⟩⟩⟩
        exact ⟨_, rfl, hJ2.fr w2 f3, w3.mono (by omega)⟩
      · rintro σ J2 ⟨y3, rfl, hJ2, w2⟩
        exact ⟨_, _, _, rfl, hJ2⟩
    · rintro σ J ⟨y1, y2, y3, rfl, hJ⟩
      exact q J
end

theorem Paces.fits {ps : List Int} (h : Paces ps) : ∀ v ∈ ps, -10 ^ 40 < v ∧ v < 10 ^ 40 := fun v hv => by have := h.lo v hv; omega
theorem Marks.fit {cap : Int} {ms : List (Int × Int)} (h : Marks cap ms) (g : cap ≤ 3) : Fit ms := ⟨h.asc, h.val, by have := h.len; omega⟩
/-- a new calendar, by the promise of its __init__ -/
theorem made_ok {K : PySem.W.Frag} {C : Addr} {H : Hp} {x dx a b : Addr} {ps : List Int} {ts : List Addr} {ms : List (Int × Int)} {vs : List V} {R : VK} {E : XK} (hv : vs = [.ref x, .ref a, .ref b]) (nx : H x = none) (ndx : H dx = none)
    (ha : H a = some (.lst (ps.map V.int))) (hb : H b = some (.lst (ts.map V.ref))) (tp : Tups H ts ms) (hp : Paces ps) (fit : Fit ms)
    (k : ∀ H' l d, CalAt C H' x l d ps (realOf ps ms) → H l = none → H d = none → Same H H' → R .non H') :
    spInit C K vs (upd (upd H dx (.own x)) x (.ins C dx [])) R E := by
  have s0 : Same H (upd (upd H dx (.own x)) x (.ins C dx [])) := fun c o e => by
    rw [upd_ne (ne_of_none e nx), upd_ne (ne_of_none e ndx)]
    exact e
  refine ⟨x, dx, a, b, ps, ts, ms, hv, upd_same, SqL.of (s0 _ _ ha), SqL.of (s0 _ _ hb), tp.same s0, hp, fit, ne_of_none ha nx, ne_of_none hb nx, fun H' l d cal nl nd f => ?_⟩
  exact k H' l d cal (s0.free nl) (s0.free nd) (Same.made nx ndx f)

/-! ### a calendar moved -/
def movP (ps : List Int) (s : Int) : List Int := (List.range ps.length).map fun (i : Nat) => paceOf ps ((i : Int) - s)
def movM (ms : List (Int × Int)) (s : Int) : List (Int × Int) := ms.map fun m => (m.1 + s, m.2)
theorem movP_len (ps : List Int) (s : Int) : (movP ps s).length = ps.length := by unfold movP; rw [List.length_map, List.length_range]
theorem pace_congr {ps : List Int} {t u k : Int} (h : t = u + ps.length * k) : paceOf ps t = paceOf ps u := by
  unfold paceOf
  rw [h, Int.add_mul_emod_self_left]
theorem movP_pace {ps : List Int} (h : 0 < ps.length) (s t : Int) : paceOf (movP ps s) t = paceOf ps (t - s) := by
  have hn : (ps.length : Int) ≠ 0 := by omega
  have h0 := Int.emod_nonneg t hn
  have h1 := Int.emod_lt_of_pos t (show (0 : Int) < ps.length by omega)
  have hd := Int.mul_ediv_add_emod t ps.length
  have e : paceOf (movP ps s) t = paceOf ps (((t % ps.length).toNat : Nat) - s) := by
    conv => lhs; unfold paceOf
    rw [movP_len, List.getD_eq_getElem?_getD]
    unfold movP
    rw [List.getElem?_map, List.getElem?_range (by omega)]
    rfl
  rw [e]
  refine (pace_congr (k := t / ps.length) ?_).symm
  omega
theorem movP_ok {ps : List Int} (hp : Paces ps) (s : Int) : Paces (movP ps s) := by
  refine ⟨fun v hv => ?_, ?_, by rw [movP_len]; exact hp.len0, by rw [movP_len]; exact hp.len1⟩
  · obtain ⟨i, _, rfl⟩ := List.mem_map.mp hv
    exact hp.lo _ (pace_in hp.len0)
  · obtain ⟨v, hv, v0⟩ := hp.pos
    obtain ⟨j, hj, e⟩ := List.getElem_of_mem hv
    have hn : (0 : Int) < ps.length := by omega
    have ej : paceOf ps j = v := by
      unfold paceOf
      rw [Int.emod_eq_of_lt (by omega) (by omega), List.getD_eq_getElem?_getD, show ((j : Int)).toNat = j by omega, List.getElem?_eq_getElem hj, e]
      rfl
    refine ⟨v, ?_, v0⟩
    have : paceOf (movP ps s) (j + s) = v := by
      rw [movP_pace hp.len0, show (j : Int) + s - s = j by omega]
      exact ej
    rw [← this]
    exact pace_in (by rw [movP_len]; exact hp.len0)
theorem movM_fit {ms : List (Int × Int)} (h : Fit ms) (s : Int) : Fit (movM ms s) := by
  refine ⟨?_, fun m hm => ?_, by unfold movM; rw [List.length_map]; exact h.len⟩
  · unfold movM
    rw [List.pairwise_map]
    exact h.asc.imp fun g => by show _ + s < _ + s; omega
  · obtain ⟨m', hm', rfl⟩ := List.mem_map.mp hm
    exact h.val m' hm'
theorem mov_speed {ps : List Int} (h : 0 < ps.length) (ms : List (Int × Int)) (s t : Int) : speedAt (movP ps s) (movM ms s) t = speedAt ps ms (t - s) := by
  induction ms with
  | nil => exact movP_pace h s t
  | cons m ms ih =>
    unfold speedAt movM at *
    rw [List.map_cons, List.find?_cons, List.find?_cons]
    by_cases c : m.1 = t - s
    · rw [decide_eq_true c, decide_eq_true (show m.1 + s = t by omega)]
      rfl
    · rw [decide_eq_false c, decide_eq_false (show ¬ m.1 + s = t by omega)]
      exact ih
/-- a calendar whose speeds are those of ps and ks -/
structure CalOf (C : Addr) (H : Hp) (x l d : Addr) (ps : List Int) (ks rs : List (Int × Int)) : Prop where
  cal : CalAt C H x l d ps rs
  fit : Fit rs
  sp : ∀ t, speedAt ps rs t = speedAt ps ks t
theorem CalOf.same {C : Addr} {H H' : Hp} {x l d : Addr} {ps : List Int} {ks rs : List (Int × Int)} (h : CalOf C H x l d ps ks rs) (f : Same H H') : CalOf C H' x l d ps ks rs := ⟨h.cal.same f, h.fit, h.sp⟩
theorem real_asc {ps : List Int} {ms : List (Int × Int)} (asc : ms.Pairwise fun a b => a.1 < b.1) : (realOf ps ms).Pairwise fun a b => a.1 < b.1 := asc.filter _
theorem realFit {ps : List Int} {ms : List (Int × Int)} (h : Fit ms) : Fit (realOf ps ms) := ⟨real_asc h.asc, fun m hm => h.val m (List.mem_filter.mp hm).1, Nat.le_trans (List.length_filter_le _ _) h.len⟩
theorem calOf_real {C : Addr} {H : Hp} {x l d : Addr} {ps : List Int} {ms : List (Int × Int)} (h : CalAt C H x l d ps (realOf ps ms)) (f : Fit ms) : CalOf C H x l d ps ms (realOf ps ms) := ⟨h, realFit f, fun t => speed_real f.asc⟩
def spMoved (C : Addr) : Sp := fun vs H Q _ => ∃ (x l d : Addr) (ps : List Int) (ms : List (Int × Int)) (s : Int), vs = [.ref x, .int s] ∧ CalAt C H x l d ps ms ∧ Paces ps ∧ Fit ms ∧
  ∀ (H' : Hp) (y l' d' : Addr), Same H H' → CalAt C H' y l' d' (movP ps s) (realOf (movP ps s) (movM ms s)) → H y = none → H l' = none → H d' = none → Q (.ref y) H'
section
variable {P : Program} {w : World} {K : PySem.W.Frag} {mg : Str → Option Value} {base : Heap}
theorem scMoved : FnScope ["self", "number", "week", "speeds", "at", "speed"] ["self", "number"] (defScope sMoved) := ⟨rfl, rfl, rfl, by decide +kernel, rfl, by decide +kernel, by decide +kernel⟩
theorem ok_moved {f fI C p1 g1 p3 g3 : Addr} {fd dI d1 d3 : FuncData} (F : Fun K "moved" "Calendar.moved" sMoved f fd) (T : Blt mg) (Z : Cal K mg C) (MK : Mk K C fI) (GI : FnOk P w K mg base CX0 3 fI dI ["self", "speeds", "changes"] (spInit C K)) (bI : Binds K dI ["self", "speeds", "changes"] [])
    (W1 : Pp P w K mg base C "week" (spWeek C) p1 g1 d1) (W3 : Pp P w K mg base C "changes" (spChanges C) p3 g3 d3) : FnOk P w K mg base CX0 5 f fd ["self", "number"] (spMoved C) := by
  refine F.ok scMoved (fun vs H Q E h => ?_) (fun cdv A outer s H vs Q E hr h => ?_)
  · obtain ⟨x, l, d, ps, ms, s, rfl, _⟩ := h
    rfl
  · obtain ⟨x, l, d, ps, ms, sh, rfl, cal, hp, fit, k⟩ := h
    have hr2 : Room 2 _ := hr.mono (by decide)
    refine ⟨_, pss_cons (ps_set (i := 2) scMoved.nd rfl (.inr rfl) (pe_prop (pv 0) Z.cl W1.of W1.ok hr2 W1.bi .nil pass0 rfl))
      (pss_cons (ps_setLc (i := 3) (own := [("at", 4)]) (g := gName 4) (tt := tYes) (te := tOp (rIxL K) (tFld K (tVar 0) "_speeds") (tOp (rI (fun _ j => 0 < j) fun i j => V.int (i % j)) (tOp (rI0 fun i j => V.int (i - j)) (tVar 4) (tVar 1)) (tVar 2))) rfl scMoved.nd rfl rfl (sw_true rfl rfl rfl (by decide +kernel)) (pi_range1 (by rfl) T.range (pa_cons (pv 2) pa_nil))
          (blkOk_by (N := ["self", "number", "week", "speeds", "at", "speed"]) (sc := defScope sMoved) (by decide +kernel)) (fun _ _ _ _ _ => pg_name (i := 4) scMoved.nd rfl (.inl rfl)) (fun _ _ _ _ _ => pts_nil)
          (fun _ _ _ _ _ => pe_ix (r := rIxL K) ix_list (pe_fld (pv 0) rfl) (pe_op op_mod (pe_op op_sub (pv 4) (pv 1)) (pv 2)) (fun _ _ => rfl)))
      (pss_one (ps_ret (pe_make MK GI hr (by rfl) Z.at_ bI .nil pass0 (pa_cons (pv 3) (pa_cons (pe_lc (own := [("at", 4), ("speed", 5)]) (g := gTup K 2 (gCons (gName 4) (gCons (gName 5) gNil))) (tt := tYes) rfl scMoved.nd (pi_list (pe_prop (pv 0) Z.cl W3.of W3.ok hr2 W3.bi .nil pass0 rfl))
          (blkOk_by (N := ["self", "number", "week", "speeds", "at", "speed"]) (sc := defScope sMoved) (by decide +kernel))
          (fun _ _ _ _ _ => pg_tup rfl (pgs_cons (pg_name (i := 4) scMoved.nd rfl (.inl rfl)) (pgs_cons (pg_name (i := 5) scMoved.nd rfl (.inl rfl)) pgs_nil))) (fun _ _ _ _ _ => pts_nil)
          (fun _ _ _ _ _ => pe_tup (pa_cons (pe_op op_add (pv 4) (pv 1)) (pa_cons (pv 5) pa_nil)))) pa_nil)))))), ?_⟩
    obtain ⟨dx, hx⟩ := cal.ob
    have l0 := hp.len0
    have l1 := hp.len1
    refine ⟨_, rfl, x, dx, _, rfl, hx, ⟨x, l, d, ps, ms, rfl, cal, ?_⟩⟩
    refine ⟨_, rfl, (ps.length : Int), rfl, by omega, by omega, fun D hD => lc_range (lo := 0) (n := (ps.length : Int).toNat) (fun i J => J D = some (.lst (((List.range i).map fun (j : Nat) => paceOf ps ((j : Int) - sh)).map V.int)) ∧ Same H J) ⟨upd_same, same_new hD⟩ ?_ ?_⟩
    · rintro i J hi ⟨hJ, sJ⟩
      have cJ := cal.same sJ
      obtain ⟨dJ, hxJ⟩ := cJ.ob
      refine ⟨rfl, _, rfl, x, C, dJ, _, _, rfl, hxJ, Z.cl, Z.nS, calF_s l d, _, rfl, _, rfl, _, _, rfl, rfl, _, rfl, _, _, rfl, rfl, (by show (0 : Int) < ps.length; omega), l, _, _, .int (paceOf ps ((0 : Int) + i - sh)), rfl, rfl, SqL.of cJ.ls, atI_pace l0, ?_⟩
      refine ⟨_, hJ, by rw [List.length_map, List.length_map, List.length_range]; exact small1000 (by omega), ?_, fun c o e => ?_⟩
      · rw [upd_same, List.range_succ, List.map_append, List.map_append, show (0 : Int) + i - sh = i - sh by omega]
        rfl
      · rw [upd_ne (ne_of_none e hD)]
        exact sJ c o e
    · rintro J ⟨hJ, sJ⟩
      have hJ' : J D = some (.lst ((movP ps sh).map V.int)) := hJ
      refine ⟨_, rfl, _, rfl, x, dx, _, rfl, sJ _ _ hx, ⟨x, l, d, ps, ms, rfl, cal.same sJ, fun H1 b ts s1 nb nt bt hb tp => ?_⟩⟩
      have tl := tp.len
      have sH1 := sJ.trans s1
      refine ⟨b, rfl, ⟨_, SqL.of hb⟩, fun E hE => lc_list (K := K) (a := b) (xs := ts.map V.ref) (fun i J2 => ∃ us : List Addr, J2 E = some (.lst (us.map V.ref)) ∧ Tups J2 us (movM (ms.take i) sh) ∧ Same H1 J2)
        ⟨[], upd_same, trivial, same_new hE⟩ (fun i J2 _ ⟨_, _, _, h⟩ => SqL.of (h _ _ hb)) ?_ ?_⟩
      · rintro i y J2 hi' ⟨us, hU, hus, sU⟩
        have hi2 : i < ts.length := by
          have := (List.getElem?_eq_some_iff.mp hi').1
          simpa using this
        rw [List.getElem?_map, List.getElem?_eq_getElem hi2] at hi'
        obtain rfl := Option.some.inj hi'
        obtain ⟨m, hm, hm2⟩ := (tp.same sU).get (List.getElem?_eq_getElem hi2)
        have et : ms.take (i + 1) = ms.take i ++ [m] := by rw [List.take_add_one, hm]; rfl
        refine ⟨_, _, rfl, .inl (.inl hm2), rfl, _, _, rfl, _, [], rfl, rfl, rfl, ?_⟩
        refine ⟨_, rfl, _, rfl, _, _, rfl, rfl, _, rfl, (by show 2 ≤ sizeLine; decide), fun u nu => ?_⟩
        have gu := same_new (o := .tup [.int (m.1 + sh), .int m.2]) nu
        have ul := hus.len
        unfold movM at ul
        rw [List.length_map, List.length_take] at ul
        have := fit.len
        refine ⟨_, gu _ _ hU, by rw [List.length_map]; exact small1000 (by omega), us ++ [u], ?_, ?_, fun c o e => ?_⟩
        · rw [upd_same, List.map_append]
          rfl
        · rw [et]
          unfold movM at hus ⊢
          rw [List.map_append]
          exact ((hus.same gu).snoc (m := (m.1 + sh, m.2)) upd_same).put (gu _ _ hU)
        · rw [upd_ne (ne_of_none e hE)]
          exact gu _ _ (sU c o e)
      · rintro J2 ⟨us, hU, hus, sU⟩
        rw [List.length_map, tl, List.take_length] at hus
        have sAll := sH1.trans sU
        refine fun y dy ny ndy _ => made_ok rfl ny ndy (sU _ _ (s1 _ _ hJ')) hU hus (movP_ok hp sh) (movM_fit fit sh) fun H' l' d' cal' nl nd s5 => ⟨rfl, ?_⟩
        exact k H' y l' d' (sAll.trans s5) cal' (sAll.free ny) (sAll.free nl) (sAll.free nd)
end

/-! ### == of dicts of ints and of own objects, whatever it says -/
def hitAll (ns : List (Int × Int)) : List (Int × Int) → Bool
  | [] => true
  | m :: ms => match ns.find? (fun n => decide (n.1 = m.1)) with
    | none => false
    | some n => eqV (.int m.2) (.int n.2) && hitAll ns ms
theorem hits_ints {P : Program} {w : World} {A : Around} {s : Shared} {ns : List (Int × Int)} {vb : List (Key × Value)} (rb : KV (ns.map kvP) vb) : ∀ (ms : List (Int × Int)) {va : List (Key × Value)}, KV (ms.map kvP) va → PySem.W.KeqHitsP P w A s vb va (hitAll ns ms)
  | [], va, ra => by
    unfold KV at ra
    cases ra
    exact .nil
  | m :: ms, va, ra => by
    unfold KV at ra
    rw [List.map_cons] at ra
    cases ra with
    | @cons p q ps qs h t =>
      obtain ⟨h1, h2⟩ := h
      obtain ⟨key, v⟩ := q
      have h1' : (Sum.inl m.1 : Key) = key := h1
      subst h1'
      have rv := rb.val (Sum.inl m.1)
      rw [valV_kvP] at rv
      unfold hitAll
      cases f : ns.find? (fun n => decide (n.1 = m.1)) with
      | none =>
        rw [f] at rv
        exact .miss (RelO.none_of rv)
      | some n =>
        rw [f] at rv
        obtain ⟨y, hy, ry⟩ := rv.some_of
        have ry : L2.RelV (.int n.2) y := ry
        have h2 : L2.RelV (.int m.2) v := h2
        exact .hit hy (eqAt_V h2 ry rfl rfl).eqP (hits_ints rb ms t)
section
variable {X : Cx}
def rEqDI : R2 := fun x y H Q => ∃ a b ms ns, x = .ref a ∧ y = .ref b ∧ H a = some (.dK (ms.map kvP)) ∧ H b = some (.dK (ns.map kvP)) ∧ Q (.bl (ms.length == ns.length && hitAll ns ms)) H
theorem op_eqDI (hu : X.A.units < cLine) : OpR X (compareOp .Eq) rEqDI := by
  intro pins s σ H x y v u Q I rx ry h
  obtain ⟨a, b, ms, ns, rfl, rfl, ea, eb, q⟩ := h
  obtain rfl : v = Value.ref a := rx
  obtain rfl : u = Value.ref b := ry
  obtain ⟨_, ya, va, ra, da⟩ := (show ObjOk X.prog X.w H s.heap a (.dK (ms.map kvP)) from I.hok a _ ea)
  obtain ⟨_, yb, vb, rb, db⟩ := (show ObjOk X.prog X.w H s.heap b (.dK (ns.map kvP)) from I.hok b _ eb)
  have la : va.length = ms.length := by rw [← ra.length, List.length_map]
  have lb : vb.length = ns.length := by rw [← rb.length, List.length_map]
  show wpAny (model X.prog X.w) X.A (richCompare .Eq (.ref a) (.ref b)) (EP X pins σ Q) X.xe s
  refine PySem.W.rcP_dicts (knd := mixKind X.prog X.w) (r := hitAll ns ms) ya yb da db hu (fun _ => hits_ints rb ms ra) _ _ ?_
  rw [la, lb]
  exact ⟨.bl _, H, I, rfl, q⟩
end
section
variable {X : Cx} {n : Nat} {f C : Addr} {fd : FuncData} {ps : List Str} {sp : Sp}
def rCmpB (C : Addr) (sp : Sp) : R2 := fun x y H Q => ∃ a b dx dy fs gs, x = .ref a ∧ y = .ref b ∧ H a = some (.ins C dx fs) ∧ H b = some (.ins C dy gs) ∧ sp [.ref a, .ref b] H (fun r H' => (∃ c : Bool, r = .bl c) ∧ Q r H') E0
theorem op_eqOwn (F : FnOk X.prog X.w X.K X.mg X.base CX0 n f fd ps sp) (hs : PySem.W.findIn X.K (.ref C) "__eq__" = some (some (.ref f))) (hf : PySem.W.isFn X.K (.ref f) = true) (hb : Binds X.K fd ps []) (hr : Room n X.A) : OpR X (compareOp .Eq) (rCmpB C sp) := by
  intro pins s σ H x y v u Q I rx ry h
  obtain ⟨a, b, dx, dy, fs, gs, rfl, rfl, ea, eb, hq⟩ := h
  obtain rfl : v = Value.ref a := rx
  obtain rfl : u = Value.ref b := ry
  obtain ⟨m, fr⟩ := I.fr
  obtain ⟨mA, O, _⟩ := ins_get I.hok ea
  obtain ⟨od, J, _⟩ := O.look
  obtain ⟨mB, O2, _⟩ := ins_get I.hok eb
  obtain ⟨od2, J2, _⟩ := O2.look
  show wpAny (model X.prog X.w) X.A (richCompare .Eq (.ref a) (.ref b)) (EP X pins σ Q) X.xe s
  refine PySem.W.cmp_K (op := .Eq) (tb := .ref C) hr.units0 fr I.ok.mod.kin J J2.type (by simp [PySem.W.notFirst]) hs hf ?_
  refine thn (run_here F hr hb I (.cons (show L2.RelV (V.ref a) (Value.ref a) from rfl) (.cons (show L2.RelV (V.ref b) (Value.ref b) from rfl) .nil)) hq) fun r s2 hh => ?_
  obtain ⟨z, H2, I2, rz, ⟨c, ec⟩, q2⟩ := hh
  subst ec
  obtain rfl : r = Value.bool c := rz
  exact ⟨.bl c, H2, I2, rfl, q2⟩
end
theorem eqv_ints : ∀ xs ys : List Int, PyData.eqv (dInts xs) (dInts ys) = decide (xs = ys)
  | xs, ys => by
    have h : ∀ xs ys : List Int, PyData.eqvAll (xs.map PyData.int) (ys.map PyData.int) = decide (xs = ys) := by
      intro xs
      induction xs with
      | nil =>
        intro ys
        cases ys <;> rfl
      | cons x xs ih =>
        intro ys
        cases ys with
        | nil => rfl
        | cons y ys =>
          show (PyData.eqv (.int x) (.int y) && PyData.eqvAll (xs.map PyData.int) (ys.map PyData.int)) = _
          rw [ih, show PyData.eqv (.int x) (.int y) = (x == y) from rfl, Bool.eq_iff_iff]
          simp
    show PyData.eqvAll (xs.map PyData.int) (ys.map PyData.int) = _
    exact h xs ys
theorem asc_one : ∀ {ns : List (Int × Int)}, (ns.Pairwise fun a b => a.1 < b.1) → ∀ {m n : Int × Int}, n ∈ ns → m ∈ ns → n.1 = m.1 → n = m
  | [], _, _, _, h, _, _ => absurd h List.not_mem_nil
  | k :: ns, asc, m, n, hn, hm, e => by
    have h2 := List.pairwise_cons.mp asc
    rcases List.mem_cons.mp hn with g | g <;> rcases List.mem_cons.mp hm with q | q
    · rw [g, q]
    · have := h2.1 m q
      rw [g] at e
      omega
    · have := h2.1 n g
      rw [q] at e
      omega
    · exact asc_one h2.2 g q e
theorem hitAll_iff {ns : List (Int × Int)} (asc : ns.Pairwise fun a b => a.1 < b.1) : ∀ ms : List (Int × Int), hitAll ns ms = true ↔ ∀ m ∈ ms, m ∈ ns
  | [] => by
    unfold hitAll
    simp
  | m :: ms => by
    unfold hitAll
    have ih := hitAll_iff asc ms
    cases f : ns.find? (fun n => decide (n.1 = m.1)) with
    | none =>
      constructor
      · intro h
        exact absurd h Bool.false_ne_true
      · intro h
        have := List.find?_eq_none.mp f m (h m List.mem_cons_self)
        exact absurd (decide_eq_true rfl) this
    | some n =>
      have hn := List.mem_of_find?_eq_some f
      have e : n.1 = m.1 := by
        have f2 := List.find?_some f
        simpa using f2
      show ((m.2 == n.2) && hitAll ns ms) = true ↔ _
      rw [Bool.and_eq_true, ih, beq_iff_eq]
      constructor
      · rintro ⟨h1, h2⟩ k hk
        rcases List.mem_cons.mp hk with g | g
        · subst g
          rw [show k = n from Prod.ext e.symm h1]
          exact hn
        · exact h2 k g
      · intro h
        refine ⟨?_, fun k hk => h k (List.mem_cons_of_mem _ hk)⟩
        have hm := h m List.mem_cons_self
        rw [asc_one asc hn hm e]
theorem asc_sub : ∀ {ms ns : List (Int × Int)}, (ms.Pairwise fun a b => a.1 < b.1) → (ns.Pairwise fun a b => a.1 < b.1) → (∀ m ∈ ms, m ∈ ns) → ms.Sublist ns
  | [], ns, _, _, _ => List.nil_sublist _
  | m :: ms, [], _, _, h => absurd (h m List.mem_cons_self) (List.not_mem_nil)
  | m :: ms, n :: ns, a, b, h => by
    have a2 := List.pairwise_cons.mp a
    have b2 := List.pairwise_cons.mp b
    rcases List.mem_cons.mp (h m List.mem_cons_self) with e | e
    · subst e
      refine List.Sublist.cons_cons _ (asc_sub a2.2 b2.2 fun k hk => ?_)
      rcases List.mem_cons.mp (h k (List.mem_cons_of_mem _ hk)) with g | g
      · have := a2.1 k hk
        rw [g] at this
        omega
      · exact g
    · refine List.Sublist.cons _ (asc_sub a b2.2 fun k hk => ?_)
      rcases List.mem_cons.mp (h k hk) with g | g
      · have h1 := b2.1 m e
        rcases List.mem_cons.mp hk with q | q
        · subst q
          rw [g] at h1
          omega
        · have := a2.1 k q
          rw [g] at this
          omega
      · exact g
theorem dict_eq {ms ns : List (Int × Int)} (a : ms.Pairwise fun a b => a.1 < b.1) (b : ns.Pairwise fun a b => a.1 < b.1) : (ms.length == ns.length && hitAll ns ms) = decide (ms = ns) := by
  rw [Bool.eq_iff_iff, Bool.and_eq_true, hitAll_iff b, beq_iff_eq, decide_eq_true_iff]
  constructor
  · rintro ⟨h1, h2⟩
    exact (asc_sub a b h2).eq_of_length h1
  · rintro rfl
    exact ⟨rfl, fun m h => h⟩
def spEqB (C : Addr) : Sp := fun vs H Q _ => ∃ (a b l d l' d' : Addr) (ps qs : List Int) (ms ns : List (Int × Int)), vs = [.ref a, .ref b] ∧ CalAt C H a l d ps ms ∧ CalAt C H b l' d' qs ns ∧ (ms.Pairwise fun a b => a.1 < b.1) ∧ (ns.Pairwise fun a b => a.1 < b.1) ∧ Q (.bl (decide (ps = qs ∧ ms = ns))) H
section
variable {P : Program} {w : World} {K : PySem.W.Frag} {mg : Str → Option Value} {base : Heap}
theorem scEqB : FnScope ["self", "other"] ["self", "other"] (defScope sEq) := ⟨rfl, rfl, rfl, by decide +kernel, rfl, by decide +kernel, by decide +kernel⟩
theorem shaped_ints (xs : List Int) : SeqAt.shaped (dInts xs) = true := by
  have h1 : ∀ xs : List Int, PyData.canLayAll0 (xs.map PyData.int) = true := by
    intro xs
    induction xs with
    | nil => rfl
    | cons x xs ih =>
      rw [List.map_cons]
      show (PyData.canLay0 (.int x) && PyData.canLayAll0 (xs.map PyData.int)) = true
      rw [ih]
      rfl
  have h2 : ∀ xs : List Int, PyData.depthAll (xs.map PyData.int) ≤ 0 := by
    intro xs
    induction xs with
    | nil => exact Nat.zero_le _
    | cons x xs ih =>
      rw [List.map_cons]
      simp only [PyData.depthAll, PyData.depth]
      omega
  unfold SeqAt.shaped dInts
  have e1 : PyData.canLay0 (.list (xs.map PyData.int)) = true := by
    simp only [PyData.canLay0]
    exact h1 xs
  have e2 : PyData.depth (.list (xs.map PyData.int)) ≤ 64 := by
    simp only [PyData.depth]
    have := h2 xs
    omega
  rw [e1, decide_eq_true e2]
  rfl
theorem ok_eqB {f C : Addr} {fd : FuncData} (F : Fun K "__eq__" "Calendar.__eq__" sEq f fd) (Z : Cal K mg C) (isi : mg "isinstance" = none) (IC : C8.InsC K C) : FnOk P w K mg base CX0 1 f fd ["self", "other"] (spEqB C) := by
  refine F.ok scEqB (fun vs H Q E h => ?_) (fun cdv A outer s H vs Q E hr h => ?_)
  · obtain ⟨a, b, l, d, l', d', ps, qs, ms, ns, rfl, _⟩ := h
    rfl
  · obtain ⟨a, b, l, d, l', d', ps, qs, ms, ns, rfl, c1, c2, asc, asc2, k⟩ := h
    have hu := hr.units
    refine ⟨_, pss_one (ps_ret (pe_and (pe_callB (C8.call_isC IC) (by rfl) isi (by decide +kernel) (pa_cons (pv 1) (pa_cons (C8.pe_gc (v := .ref C) (by rfl) ⟨_, Z.at_, rfl⟩) pa_nil)))
      (pe_and (pe_cmpR (op_eqD hu) (pe_fld (pv 0) rfl) (pe_fld (pv 1) rfl) (nomark _)) (pe_one (pe_cmpR (op_eqDI (Nat.lt_of_le_of_lt (Nat.le_add_right _ 64) hu)) (pe_fld (pv 0) rfl) (pe_fld (pv 1) rfl) (nomark _)))))), ?_⟩
    obtain ⟨dx, hx⟩ := c1.ob
    obtain ⟨dy, hy⟩ := c2.ob
    refine ⟨_, rfl, b, dy, _, rfl, hy, _, rfl, ?_⟩
    refine ⟨_, rfl, a, C, dx, _, _, rfl, hx, Z.cl, Z.nS, calF_s l d, _, rfl, b, C, dy, _, _, rfl, hy, Z.cl, Z.nS, calF_s l' d', dInts ps, dInts qs, dp_ints (SqL.of c1.ls), dp_ints (SqL.of c2.ls), shaped_ints _, shaped_ints _, _, rfl, ?_⟩
    rw [eqv_ints]
    refine ite2 (fun e => ?_) (fun e => ?_)
    · have e := of_decide_eq_true e
      refine ⟨_, rfl, a, C, dx, _, _, rfl, hx, Z.cl, Z.nC, calF_c l d, _, rfl, b, C, dy, _, _, rfl, hy, Z.cl, Z.nC, calF_c l' d', d, d', ms, ns, rfl, rfl, c1.dc, c2.dc, ?_⟩
      rw [dict_eq asc asc2]
      rw [show decide (ms = ns) = decide (ps = qs ∧ ms = ns) from decide_eq_decide.mpr ⟨fun h => ⟨e, h⟩, fun h => h.2⟩]
      exact k
    · have e : ¬ ps = qs := fun h => e (decide_eq_true h)
      rw [decide_eq_false (fun h => e h.1)] at k
      exact k
end

/-! ### == and != of own objects with anything -/
namespace EX
open PySem PySem.W PySem.Calls
section
variable {prog : Program} {w : World} {A : Around} {E : Value → Shared → Prop} {s : Shared} {K : Frag} {x C f : Addr} {ox : Obj} {od : Option Obj} {b tb : Value}
theorem rc_own {op : CmpOp} {Q : Value → Shared → Prop} (hu : A.units < cLine) (X : K.In s.heap) (I : InstAt s.heap x ox C od) (hb : Looks (model prog w) s.heap (typeOf b) tb) (hn : notFirst K C tb = true)
    (one : wpAny (model prog w) A (tryCompare (.ref x) (cmpInfo op).2.1 b) (fun r s' => ∃ v, r = some v ∧ Q v s') E s) : wpAny (model prog w) A (richCompare op (.ref x) b) Q E s := by
  unfold richCompare
  simp only [oneThing_ref]
  refine wpAny_holding (wpAny_bind (wpAny_cRoomFor hu ?_))
  refine wpAny_bind (I.type.here (wpAny_bind (hb.here ?_)))
  split
  · rename_i q
    have e : subIn K tb (.ref C) = some false := by
      rcases Bool.or_eq_true_iff.mp hn with e | e
      · rw [beq_iff_eq.mp e] at q; simp at q
      · exact beq_iff_eq.mp e
    refine wpAny_bind ((looks_subIn X e).here ?_)
    simp only [Bool.false_eq_true, if_false]
    refine wpAny_bind (wpAny_mono one (fun r s' z => ?_) fun _ _ e => e)
    obtain ⟨v, rfl, hq⟩ := z
    exact wpAny_pure hq
  · refine wpAny_bind (wpAny_pure ?_)
    simp only [Bool.false_eq_true, if_false]
    refine wpAny_bind (wpAny_mono one (fun r s' z => ?_) fun _ _ e => e)
    obtain ⟨v, rfl, hq⟩ := z
    exact wpAny_pure hq
theorem try_eq {Q : Value → Shared → Prop} (X : K.In s.heap) (I : InstAt s.heap x ox C od) (hs : findIn K (.ref C) "__eq__" = some (some (.ref f))) (hf : isFn K (.ref f) = true)
    (h : wpAny (model prog w) A (call (.ref f) [.ref x, b]) (PySem.W.CmpBack Q) E s) : wpAny (model prog w) A (tryCompare (.ref x) "__eq__" b) (fun r s' => ∃ v, r = some v ∧ Q v s') E s := by
  unfold tryCompare
  refine wpAny_bind (ifBound_K X I hs hf (wpAny_mono h (fun v s' hv => ?_) fun _ _ e => e))
  cases v <;> first | exact hv.elim | exact wpAny_pure ⟨_, rfl, hv⟩
theorem obj_ne {Q : Fin → Shared → Prop} (hu : A.units < cLine) (X : K.In s.heap) (I : InstAt s.heap x ox C od) (hs : findIn K (.ref C) "__eq__" = some (some (.ref f))) (hf : isFn K (.ref f) = true)
    (h : wpAny (model prog w) A (call (.ref f) [.ref x, b]) (fun v s' => ∃ r : Bool, v = .bool r ∧ Q (.done (.ret (.bool (!r)))) s') E s) : wpAny (model prog w) A (Builtin.«object.__ne__» ⟨[.ref x, b], []⟩) Q E s := by
  obtain ⟨hp, g, d, t, os⟩ := s
  unfold Builtin.«object.__ne__»
  repeat (first
    | with_reducible refine wpAny_cRoomFor hu ?_
    | (refine wpAny_bind (m := callSpecialIfBound? (.ref x) (Str.ofString "__eq__") [b])
        (ifBound_K X I hs hf (wpAny_mono h (fun v s' hv => by
          obtain ⟨r, rfl, hq⟩ := hv
          repeat (first | exact hq | exact wpAny_pure hq | exact wpAny_truthy_bool hq | (refine wpAny_bind (m := truthy (.bool _)) (wpAny_truthy_bool ?_)) | wp_step)) fun _ _ e => e)))
    | wp_step)
theorem try_ne {Q : Value → Shared → Prop} (hu : A.units + 1 < cLine) (X : K.In s.heap) (I : InstAt s.heap x ox C od) (hs : findIn K (.ref C) "__eq__" = some (some (.ref f))) (hf : isFn K (.ref f) = true)
    (hne : findIn K (.ref C) "__ne__" = some (some (.builtin "object.__ne__"))) (hob : mroIn K C (.type "object") = some true)
    (h : wpAny (model prog w) A.in1 (call (.ref f) [.ref x, b]) (fun v s' => ∃ r : Bool, v = .bool r ∧ Q (.bool (!r)) s') E s) : wpAny (model prog w) A (tryCompare (.ref x) "__ne__" b) (fun r s' => ∃ v, r = some v ∧ Q v s') E s := by
  unfold tryCompare
  simp only [callSpecialIfBound?, bindSpecialIfBound?]
  refine wpAny_bind (wpAny_holding (wpAny_bind (wpAny_bind (wpAny_bind (I.type.here ((looks_findIn X hne).here ?_))))))
  have sub : Looks (model prog w) s.heap (isInstance (.ref x) (.type "object")) true := I.type.andThen (looks_mroIn X hob)
  have fin : wpAny (model prog w) A (call (.builtin "object.__ne__") ([.ref x] ++ [b]) >>= fun v => pure (some v)) (fun r s' => match r with | some v => ∃ z : Bool, v = .bool z ∧ Q v s' | none => False) E s := by
    refine wpAny_bind (wpAny_call (codeAny_call_builtin F.cmp_object.ne.plain F.cmpEntry_ne (@PySem.W.check_slot (model prog w) _ _ s "object.__ne__" "object" "__ne__" (.ref x) [b] [] _ F.cmpKind_ne F.cmpSplit_ne sub (F.cmpArgs_ne _ _) (obj_ne (A := A.in1) hu X I hs hf (wpAny_mono h (fun v s' hv => ?_) fun _ _ e => e)))))
    obtain ⟨r, rfl, hq⟩ := hv
    exact ⟨r, rfl, wpAny_pure ⟨_, rfl, hq⟩⟩
  refine wpAny_bind (wpAny_askSetting (wpAny_ite ?_))
  have b1 := F.cmp_object.ne.bind (.ref x)
  have fin2 := wpAny_mono fin (Q' := fun a s' => wpAny (model prog w) A (match a with
      | some Value.notImplemented => pure none
      | none => pure none
      | some v => pure (some v)) (fun r s' => ∃ v, r = some v ∧ Q v s') E s') (fun r s' hv => by
    cases r with
    | none => exact hv.elim
    | some v =>
      obtain ⟨z, rfl, hq⟩ := hv
      exact wpAny_pure ⟨_, rfl, hq⟩) (fun _ _ e => e)
  rw [b1]
  split
  · exact wpAny_bind (wpAny_pure (wpAny_pure (by exact fin2)))
  · exact wpAny_tryCatch (wpAny_bind (wpAny_pure (wpAny_pure (by exact fin2))))
theorem rc_ownT {op : CmpOp} {T : String} {Q : Value → Shared → Prop} (hu : A.units < cLine) (X : K.In s.heap) (I : InstAt s.heap x ox C od) (hb : s.TypeIs b T) (hn : subIn K (.type T) (.ref C) = some false)
    (one : wpAny (model prog w) A (tryCompare (.ref x) (cmpInfo op).2.1 b) (fun r s' => ∃ v, r = some v ∧ Q v s') E s) : wpAny (model prog w) A (richCompare op (.ref x) b) Q E s := by
  unfold richCompare
  simp only [oneThing_ref]
  refine wpAny_holding (wpAny_bind (wpAny_cRoomFor hu ?_))
  refine wpAny_bind (I.type.here (wpAny_bind (wpAny_typeOf hb ?_)))
  have hne : (Value.ref C != Value.type T) = true := rfl
  simp only [hne, if_true]
  refine wpAny_bind ((looks_subIn X hn).here ?_)
  simp only [Bool.false_eq_true, if_false]
  refine wpAny_bind (wpAny_mono one (fun r s' z => ?_) fun _ _ e => e)
  obtain ⟨v, rfl, hq⟩ := z
  exact wpAny_pure hq
theorem rc_right {op : CmpOp} {T id : String} {a : Value} {Q : Value → Shared → Prop} (hu : A.units < cLine) (X : K.In s.heap) (I : InstAt s.heap x ox C od) (ha : s.TypeIs a T) (one : oneThing? op a (.ref x) = none) (hsub : subIn K (.ref C) (.type T) = some false) (h1 : Slot T (cmpInfo op).2.1 id)
    (hc : ∀ Q' : Value → Shared → Prop, Q' .notImplemented s → wpAny (model prog w) A (call (.builtin id) [a, .ref x]) Q' E s)
    (h2 : wpAny (model prog w) A (tryCompare (.ref x) (cmpInfo op).2.2 a) (fun r s' => ∃ v, r = some v ∧ Q v s') E s) : wpAny (model prog w) A (richCompare op a (.ref x)) Q E s := by
  unfold richCompare
  simp only [one]
  refine wpAny_holding (wpAny_bind (wpAny_cRoomFor hu ?_))
  refine wpAny_bind (wpAny_typeOf ha (wpAny_bind (I.type.here ?_)))
  have hne : (Value.type T != Value.ref C) = true := rfl
  simp only [hne, if_true]
  refine wpAny_bind ((looks_subIn X hsub).here ?_)
  simp only [Bool.false_eq_true, if_false, Bool.not_false, if_true]
  refine wpAny_bind (m := tryCompare a _ _) (wpAny_tryCompare_declines ha h1 (hc _ ⟨rfl, ?_⟩))
  refine wpAny_bind (wpAny_mono h2 (fun r s' z => ?_) fun _ _ e => e)
  obtain ⟨v, rfl, hq⟩ := z
  exact wpAny_pure hq
end
section
variable {M : Model} {A : Around} {E : Value → Shared → Prop} {R : Fin → Shared → Prop} {s : Shared} {x C dx : Addr}
theorem dec_int_eq {i : Int} {t : Tok} (hx : s.heap.get? x = some (PySem.W.instObj C dx)) (q : R (.done (.ret .notImplemented)) s) : wpAny M A (Builtin.«int.__eq__» ⟨[.int i t, .ref x], []⟩) R E s := by
  obtain ⟨hp, g, d, tk, os⟩ := s
  repeat (first | with_reducible refine wpAny_loadPart_at hx ?_ | with_reducible refine wpAny_load' hx ?_ | wp_step)
  all_goals exact q
theorem dec_int_ne {i : Int} {t : Tok} (hx : s.heap.get? x = some (PySem.W.instObj C dx)) (q : R (.done (.ret .notImplemented)) s) : wpAny M A (Builtin.«int.__ne__» ⟨[.int i t, .ref x], []⟩) R E s := by
  obtain ⟨hp, g, d, tk, os⟩ := s
  repeat (first | with_reducible refine wpAny_loadPart_at hx ?_ | with_reducible refine wpAny_load' hx ?_ | wp_step)
  all_goals exact q
theorem dec_str_eq {i : Str} {t : Tok} (hx : s.heap.get? x = some (PySem.W.instObj C dx)) (q : R (.done (.ret .notImplemented)) s) : wpAny M A (Builtin.«str.__eq__» ⟨[.str i t, .ref x], []⟩) R E s := by
  obtain ⟨hp, g, d, tk, os⟩ := s
  repeat (first | with_reducible refine wpAny_loadPart_at hx ?_ | with_reducible refine wpAny_load' hx ?_ | wp_step)
  all_goals exact q
theorem dec_str_ne {i : Str} {t : Tok} (hx : s.heap.get? x = some (PySem.W.instObj C dx)) (q : R (.done (.ret .notImplemented)) s) : wpAny M A (Builtin.«str.__ne__» ⟨[.str i t, .ref x], []⟩) R E s := by
  obtain ⟨hp, g, d, tk, os⟩ := s
  repeat (first | with_reducible refine wpAny_loadPart_at hx ?_ | with_reducible refine wpAny_load' hx ?_ | wp_step)
  all_goals exact q
theorem dec_NoneType_eq  (hx : s.heap.get? x = some (PySem.W.instObj C dx)) (q : R (.done (.ret .notImplemented)) s) : wpAny M A (Builtin.«NoneType.__eq__» ⟨[.none, .ref x], []⟩) R E s := by
  obtain ⟨hp, g, d, tk, os⟩ := s
  repeat (first | with_reducible refine wpAny_loadPart_at hx ?_ | with_reducible refine wpAny_load' hx ?_ | wp_step)
  all_goals exact q
theorem dec_NoneType_ne  (hx : s.heap.get? x = some (PySem.W.instObj C dx)) (q : R (.done (.ret .notImplemented)) s) : wpAny M A (Builtin.«NoneType.__ne__» ⟨[.none, .ref x], []⟩) R E s := by
  obtain ⟨hp, g, d, tk, os⟩ := s
  repeat (first | with_reducible refine wpAny_loadPart_at hx ?_ | with_reducible refine wpAny_load' hx ?_ | wp_step)
  all_goals exact q
theorem dec_list_eq {l : Addr} {its : Array Value} (hx : s.heap.get? x = some (PySem.W.instObj C dx)) (hl : s.heap.IsList l its) (hs : PySem.W.Looks M s.heap (isSubtype (.ref C) (.type "list")) false) (hu : A.units < cLine) (q : R (.done (.ret .notImplemented)) s) : wpAny M A (Builtin.«list.__eq__» ⟨[.ref l, .ref x], []⟩) R E s := by
  obtain ⟨⟨cls, dd, data, sl⟩, ho, hc, k, hd⟩ := id hl
  simp only at hc hd
  subst hc
  subst hd
  obtain ⟨hp, g, d, tk, os⟩ := s
  repeat (first | with_reducible refine wpAny_cRoomFor hu ?_ | with_reducible refine wpAny_loadPart_at hx ?_ | with_reducible refine wpAny_loadPart_at ho ?_ | with_reducible refine wpAny_load' hx ?_ | with_reducible refine wpAny_load' ho ?_ | wp_step)
  refine hs.here ?_
  repeat wp_step
  all_goals exact q
theorem dec_list_ne {l : Addr} {its : Array Value} (hx : s.heap.get? x = some (PySem.W.instObj C dx)) (hl : s.heap.IsList l its) (hs : PySem.W.Looks M s.heap (isSubtype (.ref C) (.type "list")) false) (hu : A.units < cLine) (q : R (.done (.ret .notImplemented)) s) : wpAny M A (Builtin.«list.__ne__» ⟨[.ref l, .ref x], []⟩) R E s := by
  obtain ⟨⟨cls, dd, data, sl⟩, ho, hc, k, hd⟩ := id hl
  simp only at hc hd
  subst hc
  subst hd
  obtain ⟨hp, g, d, tk, os⟩ := s
  repeat (first | with_reducible refine wpAny_cRoomFor hu ?_ | with_reducible refine wpAny_loadPart_at hx ?_ | with_reducible refine wpAny_loadPart_at ho ?_ | with_reducible refine wpAny_load' hx ?_ | with_reducible refine wpAny_load' ho ?_ | wp_step)
  refine hs.here ?_
  repeat wp_step
  all_goals exact q
theorem dec_tuple_eq {l : Addr} {its : Array Value} (hx : s.heap.get? x = some (PySem.W.instObj C dx)) (hl : s.heap.IsTuple l its) (hs : PySem.W.Looks M s.heap (isSubtype (.ref C) (.type "tuple")) false) (hu : A.units < cLine) (q : R (.done (.ret .notImplemented)) s) : wpAny M A (Builtin.«tuple.__eq__» ⟨[.ref l, .ref x], []⟩) R E s := by
  obtain ⟨⟨cls, dd, data, sl⟩, ho, hc, k, hd⟩ := id hl
  simp only at hc hd
  subst hc
  subst hd
  obtain ⟨hp, g, d, tk, os⟩ := s
  repeat (first | with_reducible refine wpAny_cRoomFor hu ?_ | with_reducible refine wpAny_loadPart_at hx ?_ | with_reducible refine wpAny_loadPart_at ho ?_ | with_reducible refine wpAny_load' hx ?_ | with_reducible refine wpAny_load' ho ?_ | wp_step)
  refine hs.here ?_
  repeat wp_step
  all_goals exact q
theorem dec_tuple_ne {l : Addr} {its : Array Value} (hx : s.heap.get? x = some (PySem.W.instObj C dx)) (hl : s.heap.IsTuple l its) (hs : PySem.W.Looks M s.heap (isSubtype (.ref C) (.type "tuple")) false) (hu : A.units < cLine) (q : R (.done (.ret .notImplemented)) s) : wpAny M A (Builtin.«tuple.__ne__» ⟨[.ref l, .ref x], []⟩) R E s := by
  obtain ⟨⟨cls, dd, data, sl⟩, ho, hc, k, hd⟩ := id hl
  simp only at hc hd
  subst hc
  subst hd
  obtain ⟨hp, g, d, tk, os⟩ := s
  repeat (first | with_reducible refine wpAny_cRoomFor hu ?_ | with_reducible refine wpAny_loadPart_at hx ?_ | with_reducible refine wpAny_loadPart_at ho ?_ | with_reducible refine wpAny_load' hx ?_ | with_reducible refine wpAny_load' ho ?_ | wp_step)
  refine hs.here ?_
  repeat wp_step
  all_goals exact q
end
end EX

/-! ### the operators == and != of an own class with anything -/
inductive OTy (H : Hp) : V → String → Prop where
  | int (i : Int) : OTy H (.int i) "int"
  | str (x : Str) : OTy H (.str x) "str"
  | non : OTy H .non "NoneType"
  | lst {a : Addr} {xs : List V} (e : H a = some (.lst xs)) : OTy H (.ref a) "list"
  | tup {a : Addr} {xs : List V} (e : H a = some (.tup xs)) : OTy H (.ref a) "tuple"
def five : List String := ["int", "str", "NoneType", "list", "tuple"]
theorem OTy.mem {H : Hp} {y : V} {T : String} (t : OTy H y T) : T ∈ five := by
  cases t <;> simp [five]
structure KT (K : PySem.W.Frag) (C : Addr) : Prop where
  kit : ∀ T ∈ five, PySem.W.kitOne K (.type T) (.ref C) = some false
  s1 : ∀ T ∈ five, PySem.W.subIn K (.ref C) (.type T) = some false
  s2 : ∀ T ∈ five, PySem.W.subIn K (.type T) (.ref C) = some false
section
variable {X : Cx} {pins : List (Addr × Obj)} {σ : L2.St} {H : Hp} {s : Shared} {y : V} {u : Value} {T : String}
theorem OTy.ty (t : OTy H y T) (I : Inv X pins σ H s) (r : L2.RelV y u) : s.TypeIs u T := by
  cases t with
  | int i => obtain ⟨t, q⟩ := (show ∃ t, u = Value.int i t from r); subst q; rfl
  | str x => obtain ⟨t, q⟩ := (show ∃ t, u = Value.str x t from r); subst q; rfl
  | non => cases (show u = Value.none from r); rfl
  | @lst a xs ea =>
    cases (show u = Value.ref a from r)
    obtain ⟨_, _, n, _, h1⟩ := (show ObjOk X.prog X.w H s.heap a (.lst xs) from I.hok a _ ea)
    exact ⟨_, h1, rfl⟩
  | @tup a xs ea =>
    cases (show u = Value.ref a from r)
    obtain ⟨_, _, _, o, h1, h2, _⟩ := (show ObjOk X.prog X.w H s.heap a (.tup xs) from I.hok a _ ea)
    exact ⟨o, h1, h2⟩
theorem OTy.dec {op : CmpOp} (hop : op = .Eq ∨ op = .NotEq) (t : OTy H y T) (I : Inv X pins σ H s) (r : L2.RelV y u) {A : Around} {x C dx : Addr} {E : Value → Shared → Prop} (hx : s.heap.get? x = some (PySem.W.instObj C dx))
    (hs : PySem.W.Looks (model X.prog X.w) s.heap (isSubtype (.ref C) (.type T)) false) (hu : A.units + 1 < cLine) :
    oneThing? op u (.ref x) = none ∧ ∃ id, Slot T (cmpInfo op).2.1 id ∧ ∀ Q' : Value → Shared → Prop, Q' .notImplemented s → wpAny (model X.prog X.w) A (call (.builtin id) [u, .ref x]) Q' E s := by
  have ty := t.ty I r
  cases t with
  | int i =>
    obtain ⟨t, q⟩ := (show ∃ t, u = Value.int i t from r)
    subst q
    rcases hop with rfl | rfl
    · exact ⟨rfl, _, F.slot_int_eq, fun Q' q => GQ.call_here F.slot_int_eq ty F.entry_int_eq (F.args_int_eq_2 _ _) (EX.dec_int_eq hx q)⟩
    · exact ⟨rfl, _, F.slot_int_ne, fun Q' q => GQ.call_here F.slot_int_ne ty F.entry_int_ne (F.args_int_ne_2 _ _) (EX.dec_int_ne hx q)⟩
  | str x =>
    obtain ⟨t, q⟩ := (show ∃ t, u = Value.str x t from r)
    subst q
    rcases hop with rfl | rfl
    · exact ⟨rfl, _, F.slot_str_eq, fun Q' q => GQ.call_here F.slot_str_eq ty F.entry_str_eq (F.args_str_eq_2 _ _) (EX.dec_str_eq hx q)⟩
    · exact ⟨rfl, _, F.slot_str_ne, fun Q' q => GQ.call_here F.slot_str_ne ty F.entry_str_ne (F.args_str_ne_2 _ _) (EX.dec_str_ne hx q)⟩
  | non =>
    cases (show u = Value.none from r)
    rcases hop with rfl | rfl
    · exact ⟨rfl, _, F.slot_NoneType_eq, fun Q' q => GQ.call_here F.slot_NoneType_eq ty F.entry_NoneType_eq (F.args_NoneType_eq_2 _ _) (EX.dec_NoneType_eq hx q)⟩
    · exact ⟨rfl, _, F.slot_NoneType_ne, fun Q' q => GQ.call_here F.slot_NoneType_ne ty F.entry_NoneType_ne (F.args_NoneType_ne_2 _ _) (EX.dec_NoneType_ne hx q)⟩
  | @lst a xs ea =>
    cases (show u = Value.ref a from r)
    obtain ⟨_, its, n, _, h1⟩ := (show ObjOk X.prog X.w H s.heap a (.lst xs) from I.hok a _ ea)
    have hl : s.heap.IsList a its.toArray := ⟨_, h1, rfl, n, rfl⟩
    rcases hop with rfl | rfl
    · exact ⟨oneThing_ref .., _, F.slot_list_eq, fun Q' q => GQ.call_here F.slot_list_eq ty F.entry_list_eq (F.args_list_eq_2 _ _) (EX.dec_list_eq hx hl hs hu q)⟩
    · exact ⟨oneThing_ref .., _, F.slot_list_ne, fun Q' q => GQ.call_here F.slot_list_ne ty F.entry_list_ne (F.args_list_ne_2 _ _) (EX.dec_list_ne hx hl hs hu q)⟩
  | @tup a xs ea =>
    cases (show u = Value.ref a from r)
    obtain ⟨_, its, _, it⟩ := (show ObjOk X.prog X.w H s.heap a (.tup xs) from I.hok a _ ea)
    rcases hop with rfl | rfl
    · exact ⟨oneThing_ref .., _, F.slot_tuple_eq, fun Q' q => GQ.call_here F.slot_tuple_eq ty F.entry_tuple_eq (F.args_tuple_eq_2 _ _) (EX.dec_tuple_eq hx it hs hu q)⟩
    · exact ⟨oneThing_ref .., _, F.slot_tuple_ne, fun Q' q => GQ.call_here F.slot_tuple_ne ty F.entry_tuple_ne (F.args_tuple_ne_2 _ _) (EX.dec_tuple_ne hx it hs hu q)⟩
end
section
variable {X : Cx} {n : Nat} {f C : Addr} {fd : FuncData} {ps : List Str} {sp : Sp}
def rOT (g : Bool → Bool) (C : Addr) (sp : Sp) : R2 := fun x y H Q => ∃ a dx fs T, x = .ref a ∧ H a = some (.ins C dx fs) ∧ OTy H y T ∧ sp [.ref a, y] H (fun r H' => ∃ c : Bool, r = .bl c ∧ Q (.bl (g c)) H') E0
def rTO (g : Bool → Bool) (C : Addr) (sp : Sp) : R2 := fun y x H Q => ∃ a dx fs T, x = .ref a ∧ H a = some (.ins C dx fs) ∧ OTy H y T ∧ sp [.ref a, y] H (fun r H' => ∃ c : Bool, r = .bl c ∧ Q (.bl (g c)) H') E0
def rOO (g : Bool → Bool) (C : Addr) (sp : Sp) : R2 := fun x y H Q => ∃ a b dx dy fs gs, x = .ref a ∧ y = .ref b ∧ H a = some (.ins C dx fs) ∧ H b = some (.ins C dy gs) ∧ sp [.ref a, .ref b] H (fun r H' => ∃ c : Bool, r = .bl c ∧ Q (.bl (g c)) H') E0
structure EqK (K : PySem.W.Frag) (C f : Addr) : Prop where
  hs : PySem.W.findIn K (.ref C) "__eq__" = some (some (.ref f))
  hf : PySem.W.isFn K (.ref f) = true
  ne : PySem.W.findIn K (.ref C) "__ne__" = some (some (.builtin "object.__ne__"))
  ob : PySem.W.mroIn K C (.type "object") = some true
  kt : KT K C
theorem op_eqOT (F : FnOk X.prog X.w X.K X.mg X.base CX0 n f fd ps sp) (k : EqK X.K C f) (hb : Binds X.K fd ps []) (hr : Room (n + 1) X.A) : OpR X (compareOp .Eq) (rOT id C sp) := by
  intro pins s σ H x y v u Q I rx ry h
  obtain ⟨a, dx, fs, T, rfl, ea, ot, hq⟩ := h
  obtain rfl : v = Value.ref a := rx
  obtain ⟨mA, O, _⟩ := ins_get I.hok ea
  obtain ⟨od, J, _⟩ := O.look
  show wpAny (model X.prog X.w) X.A (richCompare .Eq (.ref a) u) (EP X pins σ Q) X.xe s
  refine EX.rc_ownT hr.units0 I.kIn J (ot.ty I ry) (k.kt.s2 _ ot.mem) (EX.try_eq I.kIn J k.hs k.hf (thn (run_here F (hr.mono (Nat.le_succ n)) hb I (.cons (show L2.RelV (V.ref a) (Value.ref a) from rfl) (.cons ry .nil)) hq) fun r s2 hh => ?_))
  obtain ⟨z, H2, I2, rz, c, ec, q2⟩ := hh
  subst ec
  obtain rfl : r = Value.bool c := rz
  exact ⟨.bl c, H2, I2, rfl, q2⟩
theorem op_neOT (F : FnOk X.prog X.w X.K X.mg X.base CX0 n f fd ps sp) (k : EqK X.K C f) (hb : Binds X.K fd ps []) (hr : Room (n + 1) X.A) : OpR X (compareOp .NotEq) (rOT not C sp) := by
  intro pins s σ H x y v u Q I rx ry h
  obtain ⟨a, dx, fs, T, rfl, ea, ot, hq⟩ := h
  obtain rfl : v = Value.ref a := rx
  obtain ⟨mA, O, _⟩ := ins_get I.hok ea
  obtain ⟨od, J, _⟩ := O.look
  show wpAny (model X.prog X.w) X.A (richCompare .NotEq (.ref a) u) (EP X pins σ Q) X.xe s
  refine EX.rc_ownT hr.units0 I.kIn J (ot.ty I ry) (k.kt.s2 _ ot.mem) (EX.try_ne (by have := hr.units; omega) I.kIn J k.hs k.hf k.ne k.ob (thn (run_in1 F hr hb I (.cons (show L2.RelV (V.ref a) (Value.ref a) from rfl) (.cons ry .nil)) hq) fun r s2 hh => ?_))
  obtain ⟨z, H2, I2, rz, c, ec, q2⟩ := hh
  subst ec
  obtain rfl : r = Value.bool c := rz
  exact ⟨c, rfl, .bl (!c), H2, I2, rfl, q2⟩
theorem op_eqTO (F : FnOk X.prog X.w X.K X.mg X.base CX0 n f fd ps sp) (k : EqK X.K C f) (hb : Binds X.K fd ps []) (hr : Room (n + 1) X.A) : OpR X (compareOp .Eq) (rTO id C sp) := by
  intro pins s σ H y x u v Q I ry rx h
  obtain ⟨a, dx, fs, T, rfl, ea, ot, hq⟩ := h
  obtain rfl : v = Value.ref a := rx
  obtain ⟨mA, O, _⟩ := ins_get I.hok ea
  obtain ⟨od, J, _⟩ := O.look
  show wpAny (model X.prog X.w) X.A (richCompare .Eq u (.ref a)) (EP X pins σ Q) X.xe s
  obtain ⟨one, i, sl, hc⟩ := ot.dec (A := X.A) (op := .Eq) (.inl rfl) I ry (E := X.xe) J.1 (PySem.W.looks_subIn I.kIn (k.kt.s1 _ ot.mem)) (by have := hr.units; omega)
  refine EX.rc_right hr.units0 I.kIn J (ot.ty I ry) one (k.kt.s1 _ ot.mem) sl hc (EX.try_eq I.kIn J k.hs k.hf (thn (run_here F (hr.mono (Nat.le_succ n)) hb I (.cons (show L2.RelV (V.ref a) (Value.ref a) from rfl) (.cons ry .nil)) hq) fun r s2 hh => ?_))
  obtain ⟨z, H2, I2, rz, c, ec, q2⟩ := hh
  subst ec
  obtain rfl : r = Value.bool c := rz
  exact ⟨.bl c, H2, I2, rfl, q2⟩
theorem op_neTO (F : FnOk X.prog X.w X.K X.mg X.base CX0 n f fd ps sp) (k : EqK X.K C f) (hb : Binds X.K fd ps []) (hr : Room (n + 1) X.A) : OpR X (compareOp .NotEq) (rTO not C sp) := by
  intro pins s σ H y x u v Q I ry rx h
  obtain ⟨a, dx, fs, T, rfl, ea, ot, hq⟩ := h
  obtain rfl : v = Value.ref a := rx
  obtain ⟨mA, O, _⟩ := ins_get I.hok ea
  obtain ⟨od, J, _⟩ := O.look
  show wpAny (model X.prog X.w) X.A (richCompare .NotEq u (.ref a)) (EP X pins σ Q) X.xe s
  obtain ⟨one, i, sl, hc⟩ := ot.dec (A := X.A) (op := .NotEq) (.inr rfl) I ry (E := X.xe) J.1 (PySem.W.looks_subIn I.kIn (k.kt.s1 _ ot.mem)) (by have := hr.units; omega)
  refine EX.rc_right hr.units0 I.kIn J (ot.ty I ry) one (k.kt.s1 _ ot.mem) sl hc (EX.try_ne (by have := hr.units; omega) I.kIn J k.hs k.hf k.ne k.ob (thn (run_in1 F hr hb I (.cons (show L2.RelV (V.ref a) (Value.ref a) from rfl) (.cons ry .nil)) hq) fun r s2 hh => ?_))
  obtain ⟨z, H2, I2, rz, c, ec, q2⟩ := hh
  subst ec
  obtain rfl : r = Value.bool c := rz
  exact ⟨c, rfl, .bl (!c), H2, I2, rfl, q2⟩
theorem op_neOO (F : FnOk X.prog X.w X.K X.mg X.base CX0 n f fd ps sp) (k : EqK X.K C f) (hb : Binds X.K fd ps []) (hr : Room (n + 1) X.A) : OpR X (compareOp .NotEq) (rOO not C sp) := by
  intro pins s σ H x y v u Q I rx ry h
  obtain ⟨a, b, dx, dy, fs, gs, rfl, rfl, ea, eb, hq⟩ := h
  obtain rfl : v = Value.ref a := rx
  obtain rfl : u = Value.ref b := ry
  obtain ⟨mA, O, _⟩ := ins_get I.hok ea
  obtain ⟨od, J, _⟩ := O.look
  obtain ⟨mB, O2, _⟩ := ins_get I.hok eb
  obtain ⟨od2, J2, _⟩ := O2.look
  show wpAny (model X.prog X.w) X.A (richCompare .NotEq (.ref a) (.ref b)) (EP X pins σ Q) X.xe s
  refine EX.rc_own (tb := .ref C) hr.units0 I.kIn J J2.type (by simp [PySem.W.notFirst]) (EX.try_ne (by have := hr.units; omega) I.kIn J k.hs k.hf k.ne k.ob (thn (run_in1 F hr hb I (.cons (show L2.RelV (V.ref a) (Value.ref a) from rfl) (.cons (show L2.RelV (V.ref b) (Value.ref b) from rfl) .nil)) hq) fun r s2 hh => ?_))
  obtain ⟨z, H2, I2, rz, c, ec, q2⟩ := hh
  subst ec
  obtain rfl : r = Value.bool c := rz
  exact ⟨c, rfl, .bl (!c), H2, I2, rfl, q2⟩
theorem op_eqOO (F : FnOk X.prog X.w X.K X.mg X.base CX0 n f fd ps sp) (k : EqK X.K C f) (hb : Binds X.K fd ps []) (hr : Room (n + 1) X.A) : OpR X (compareOp .Eq) (rOO id C sp) := by
  intro pins s σ H x y v u Q I rx ry h
  obtain ⟨a, b, dx, dy, fs, gs, rfl, rfl, ea, eb, hq⟩ := h
  obtain rfl : v = Value.ref a := rx
  obtain rfl : u = Value.ref b := ry
  obtain ⟨mA, O, _⟩ := ins_get I.hok ea
  obtain ⟨od, J, _⟩ := O.look
  obtain ⟨mB, O2, _⟩ := ins_get I.hok eb
  obtain ⟨od2, J2, _⟩ := O2.look
  show wpAny (model X.prog X.w) X.A (richCompare .Eq (.ref a) (.ref b)) (EP X pins σ Q) X.xe s
  refine EX.rc_own (tb := .ref C) hr.units0 I.kIn J J2.type (by simp [PySem.W.notFirst]) (EX.try_eq I.kIn J k.hs k.hf (thn (run_here F (hr.mono (Nat.le_succ n)) hb I (.cons (show L2.RelV (V.ref a) (Value.ref a) from rfl) (.cons (show L2.RelV (V.ref b) (Value.ref b) from rfl) .nil)) hq) fun r s2 hh => ?_))
  obtain ⟨z, H2, I2, rz, c, ec, q2⟩ := hh
  subst ec
  obtain rfl : r = Value.bool c := rz
  exact ⟨.bl c, H2, I2, rfl, q2⟩
end
/-! ### str of a list of ints -/
def rStrL (K : PySem.W.Frag) : List V → Hp → VK → Prop := fun xs H Q => ∃ (a : Addr) (d : PyData) (n k : Nat), xs = [.ref a] ∧ Dp K H (.ref a) d ∧ Rp d n k ∧ k ≤ 60 ∧ n ≤ 300000 ∧ Q (.str d.shown) H

theorem real_ne {ps : List Int} {ms : List (Int × Int)} : ∀ m ∈ realOf ps ms, m.2 ≠ paceOf ps m.1 := fun _ hm => of_decide_eq_true (List.mem_filter.mp hm).2
theorem real_sub {ps : List Int} {ms ns : List (Int × Int)} (h : ∀ t, speedAt ps ms t = speedAt ps ns t) (r : ∀ m ∈ ms, m.2 ≠ paceOf ps m.1) (a : ms.Pairwise fun a b => a.1 < b.1) : ∀ m ∈ ms, m ∈ ns := by
  intro m hm
  have e1 : speedAt ps ms m.1 = m.2 := by
    unfold speedAt
    cases f : ms.find? (fun k => decide (k.1 = m.1)) with
    | none =>
      have := List.find?_eq_none.mp f m hm
      exact absurd (decide_eq_true rfl) this
    | some k =>
      have hk := List.mem_of_find?_eq_some f
      have e : k.1 = m.1 := by
        have f2 := List.find?_some f
        simpa using f2
      rw [asc_one a hk hm e]
      rfl
  have e2 := h m.1
  rw [e1] at e2
  unfold speedAt at e2
  cases f : ns.find? (fun k => decide (k.1 = m.1)) with
  | none =>
    rw [f] at e2
    exact absurd e2 (r m hm)
  | some k =>
    rw [f] at e2
    have hk := List.mem_of_find?_eq_some f
    have e : k.1 = m.1 := by
      have f2 := List.find?_some f
      simpa using f2
    have e3 : k.2 = m.2 := e2.symm
    rw [show m = k from Prod.ext e.symm e3.symm]
    exact hk
theorem Tups.append {H : Hp} : ∀ {ts us : List Addr} {ms ns : List (Int × Int)}, Tups H ts ms → Tups H us ns → Tups H (ts ++ us) (ms ++ ns)
  | [], _, [], _, _, h => h
  | _ :: _, _, _ :: _, _, g, h => ⟨g.1, Tups.append g.2 h⟩
theorem OTy.of {K : PySem.W.Frag} {H : Hp} {y : V} {T : String} (t : OTy H y T) : TyOf K H y (.type T) := by
  cases t with
  | int i => exact .int i
  | str x => exact .str x
  | non => exact .non
  | lst e => exact .lst e
  | tup e => exact .tup e
def spEqX (C : Addr) : Sp := fun vs H Q _ => ∃ (a l d : Addr) (ps : List Int) (ms : List (Int × Int)) (y : V), vs = [.ref a, y] ∧ CalAt C H a l d ps ms ∧
  ((∃ (b l' d' : Addr) (qs : List Int) (ns : List (Int × Int)), y = .ref b ∧ CalAt C H b l' d' qs ns ∧ (ms.Pairwise fun a b => a.1 < b.1) ∧ (ns.Pairwise fun a b => a.1 < b.1) ∧ Q (.bl (decide (ps = qs ∧ ms = ns))) H) ∨ (∃ T, OTy H y T ∧ Q (.bl false) H))
def spSame : Sp := fun vs H Q _ => ∃ (a b c d : Addr) (ps qs : List Int) (ts us : List Addr) (ms ns : List (Int × Int)), vs = [.ref a, .ref b, .ref c, .ref d] ∧ H a = some (.lst (ps.map V.int)) ∧ H b = some (.lst (ts.map V.ref)) ∧ Tups H ts ms ∧ H c = some (.lst (qs.map V.int)) ∧ H d = some (.lst (us.map V.ref)) ∧ Tups H us ns ∧
  0 < ps.length ∧ Fit ms ∧ Fit ns ∧ ms.length + ns.length ≤ 60 ∧ ∀ H', Same H H' → Q (.bl (decide (ps = qs ∧ realOf ps ms = realOf qs ns))) H'
theorem speed_off7 {ps : List Int} {ms : List (Int × Int)} {t : Int} (h : ∀ m ∈ ms, m.1 ≠ t) : speedAt ps ms t = paceOf ps t := by
  have : ms.find? (fun m => decide (m.1 = t)) = none := by
    refine List.find?_eq_none.mpr fun m hm e => h m hm ?_
    exact of_decide_eq_true e
  unfold speedAt
  rw [this]
  rfl
theorem real_eq7 {ps : List Int} {ms ns : List (Int × Int)} (fm : Fit ms) (fn : Fit ns) : realOf ps ms = realOf ps ns ↔ ∀ m ∈ ms ++ ns, speedAt ps ms m.1 = speedAt ps ns m.1 := by
  constructor
  · intro e m _
    rw [← speed_real (ps := ps) (ms := ms) fm.asc, ← speed_real (ps := ps) (ms := ns) fn.asc, e]
  · intro h
    have all : ∀ t, speedAt ps (realOf ps ms) t = speedAt ps (realOf ps ns) t := fun t => by
      rw [speed_real fm.asc, speed_real fn.asc]
      by_cases c : ∃ m ∈ ms ++ ns, m.1 = t
      · obtain ⟨m, hm, rfl⟩ := c
        exact h m hm
      · rw [speed_off7 fun m hm e => c ⟨m, List.mem_append_left _ hm, e⟩, speed_off7 fun m hm e => c ⟨m, List.mem_append_right _ hm, e⟩]
    have a1 := (realFit (ps := ps) fm).asc
    have a2 := (realFit (ps := ps) fn).asc
    have s1 := asc_sub a1 a2 (real_sub all real_ne a1)
    have s2 := asc_sub a2 a1 (real_sub (fun t => (all t).symm) real_ne a2)
    exact s1.eq_of_length (Nat.le_antisymm s1.length_le s2.length_le)
section
variable {P : Program} {w : World} {K : PySem.W.Frag} {mg : Str → Option Value} {base : Heap}
theorem ok_eqX {f C : Addr} {fd : FuncData} (F : Fun K "__eq__" "Calendar.__eq__" sEq f fd) (Z : Cal K mg C) (isi : mg "isinstance" = none) (IC : C8.InsC K C) (kt : KT K C) : FnOk P w K mg base CX0 1 f fd ["self", "other"] (spEqX C) := by
  refine F.ok scEqB (fun vs H Q E h => ?_) (fun cdv A outer s H vs Q E hr h => ?_)
  · obtain ⟨a, l, d, ps, ms, y, rfl, _⟩ := h
    rfl
  · obtain ⟨a, l, d, ps, ms, y, rfl, c1, k⟩ := h
    have hu := hr.units
    refine ⟨_, pss_one (ps_ret (pe_and (pe_callB call_isi (by rfl) isi (by decide +kernel) (pa_cons (pv 1) (pa_cons (C8.pe_gc (v := .ref C) (by rfl) ⟨_, Z.at_, rfl⟩) pa_nil)))
      (pe_and (pe_cmpR (op_eqD hu) (pe_fld (pv 0) rfl) (pe_fld (pv 1) rfl) (nomark _)) (pe_one (pe_cmpR (op_eqDI (Nat.lt_of_le_of_lt (Nat.le_add_right _ 64) hu)) (pe_fld (pv 0) rfl) (pe_fld (pv 1) rfl) (nomark _)))))), ?_⟩
    obtain ⟨dx, hx⟩ := c1.ob
    rcases k with ⟨b, l', d', qs, ns, rfl, c2, asc, asc2, k⟩ | ⟨T, ot, k⟩
    rotate_left
    · refine ⟨_, rfl, _, .ref C, .type T, .ref C, false, rfl, .own C, .base ot.of, kt.kit _ ot.mem, _, rfl, ?_⟩
      exact k
    obtain ⟨dy, hy⟩ := c2.ob
    refine ⟨_, rfl, _, .ref C, .ref C, .ref C, true, rfl, .own C, .base (.ins hy Z.cl IC.ha IC.hn IC.htk IC.hm), IC.me, _, rfl, ?_⟩
    refine ⟨_, rfl, a, C, dx, _, _, rfl, hx, Z.cl, Z.nS, calF_s l d, _, rfl, b, C, dy, _, _, rfl, hy, Z.cl, Z.nS, calF_s l' d', dInts ps, dInts qs, dp_ints (SqL.of c1.ls), dp_ints (SqL.of c2.ls), shaped_ints _, shaped_ints _, _, rfl, ?_⟩
    rw [eqv_ints]
    refine ite2 (fun e => ?_) (fun e => ?_)
    · have e := of_decide_eq_true e
      refine ⟨_, rfl, a, C, dx, _, _, rfl, hx, Z.cl, Z.nC, calF_c l d, _, rfl, b, C, dy, _, _, rfl, hy, Z.cl, Z.nC, calF_c l' d', d, d', ms, ns, rfl, rfl, c1.dc, c2.dc, ?_⟩
      rw [dict_eq asc asc2]
      rw [show decide (ms = ns) = decide (ps = qs ∧ ms = ns) from decide_eq_decide.mpr ⟨fun h => ⟨e, h⟩, fun h => h.2⟩]
      exact k
    · have e : ¬ ps = qs := fun h => e (decide_eq_true h)
      rw [decide_eq_false (fun h => e h.1)] at k
      exact k
theorem scSame : FnScope ["paces", "marks", "twins", "pairs", "at", "pace"] ["paces", "marks", "twins", "pairs"] (defScope sSame) := ⟨rfl, rfl, rfl, by decide +kernel, rfl, by decide +kernel, by decide +kernel⟩
theorem ok_same {f fP : Addr} {fd dP : FuncData} (F : Fun K "_law_same" "_law_same" sSame f fd) (Pc : At P w K mg base 1 "_law_pace" ["paces", "marks", "at"] spPace fP dP) : FnOk P w K mg base CX0 2 f fd ["paces", "marks", "twins", "pairs"] spSame := by
  refine F.ok scSame (fun vs H Q E h => ?_) (fun cdv A outer s H vs Q E hr h => ?_)
  · obtain ⟨a, b, c, d, ps, qs, ts, us, ms, ns, rfl, _⟩ := h
    rfl
  · obtain ⟨a, b, c, d, ps, qs, ts, us, ms, ns, rfl, ha, hb, tp, hc, hd, up, l0, fm, fn, le, k⟩ := h
    have hr1 : Room 1 _ := hr.mono (by decide)
    have hu := hr.units
    refine ⟨_, pss_cons (ps_if (pt_cmpR (op_neD hu) (pv 0) (pv 2) (nomark _))
        (pss_one (ps_ret pe_bl))
        pss_nil)
      (pss_cons (ps_for PassesOwn.never rfl (pi_list (pe_op op_cat (pv 1) (pv 3))) (pg_tup rfl (pgs_cons (pg_name (i := 4) scSame.nd rfl (.inl rfl)) (pgs_cons (pg_name (i := 5) scSame.nd rfl (.inl rfl)) pgs_nil)))
        (pss_one (ps_if (pt_cmpR op_ne (pe_call Pc.ok hr1 (by rfl) Pc.at_ Pc.kp Pc.bi .nil pass0 (pa_cons (pv 0) (pa_cons (pv 1) (pa_cons (pv 4) pa_nil)))) (pe_call Pc.ok hr1 (by rfl) Pc.at_ Pc.kp Pc.bi .nil pass0 (pa_cons (pv 2) (pa_cons (pv 3) (pa_cons (pv 4) pa_nil)))) (nomark _))
          (pss_one (ps_ret pe_bl))
          pss_nil)))
      (pss_one (ps_ret pe_bl))), ?_⟩
    have tl := tp.len
    have ul := up.len
    refine ⟨_, rfl, _, rfl, dInts ps, dInts qs, dp_ints (SqL.of ha), dp_ints (SqL.of hc), shaped_ints _, shaped_ints _, _, rfl, ?_⟩
    rw [eqv_ints]
    by_cases e : ps = qs
    rotate_left
    · rw [decide_eq_false e]
      refine ite2 (fun _ => ?_) (fun z => absurd (show (!false) = true from rfl) z)
      have k := k H (Same.refl H)
      rw [decide_eq_false (fun z => e z.1)] at k
      exact k
    subst e
    rw [decide_eq_true rfl]
    refine ite2 (fun g => absurd g (by decide)) (fun _ => ?_)
    refine ⟨_, rfl, _, rfl, b, d, _, _, rfl, rfl, hb, hd, by rw [List.length_map, List.length_map, sizeLine_eq]; omega, fun G nG => ?_⟩
    have s2 := same_new (o := .lst (ts.map V.ref ++ us.map V.ref)) nG
    have hG := upd_same (H := H) (a := G) (o := .lst (ts.map V.ref ++ us.map V.ref))
    rw [← List.map_append] at hG s2 ⊢
    have al := (tp.append up).same s2
    generalize upd H G (.lst ((ts ++ us).map V.ref)) = J1 at hG s2 al ⊢
    have ll := al.len
    refine ⟨G, rfl, ⟨_, SqL.of hG⟩, for_list (K := K) (a := G) (xs := (ts ++ us).map V.ref) (fun i σ J => ∃ y4 y5 : Option V, σ = [some (.ref a), some (.ref b), some (.ref c), some (.ref d), y4, y5] ∧ Same J1 J ∧ ∀ (j : Nat) (m : Int × Int), j < i → (ms ++ ns)[j]? = some m → speedAt ps ms m.1 = speedAt ps ns m.1)
      ⟨none, none, rfl, Same.refl J1, fun j m h => absurd h (Nat.not_lt_zero j)⟩ (fun i σ J _ ⟨_, _, _, h, _⟩ => SqL.of (h _ _ hG)) ?_ ?_⟩
    · rintro i y σ J hi' ⟨y4, y5, rfl, sJ, dn⟩
      have hi2 : i < (ts ++ us).length := by
        have := (List.getElem?_eq_some_iff.mp hi').1
        simpa using this
      rw [List.getElem?_map, List.getElem?_eq_getElem hi2] at hi'
      obtain rfl := Option.some.inj hi'
      obtain ⟨m, hm', hm2⟩ := (al.same sJ).get (List.getElem?_eq_getElem hi2)
      have sX := s2.trans sJ
      refine ⟨_, _, rfl, .inl (.inl hm2), rfl, _, _, rfl, _, [], rfl, rfl, ?_⟩
      refine ⟨_, rfl, _, rfl, _, rfl, ⟨a, b, ps, ts, ms, m.1, rfl, sX _ _ ha, sX _ _ hb, tp.same sX, l0, ?_⟩⟩
      refine ⟨_, rfl, _, rfl, _, rfl, ⟨c, d, ps, us, ns, m.1, rfl, sX _ _ hc, sX _ _ hd, up.same sX, l0, rfl, _, rfl, ?_⟩⟩
      by_cases hq : speedAt ps ms m.1 = speedAt ps ns m.1
      · rw [hq, decide_eq_true rfl]
        refine ite2 (fun g => absurd g (by decide)) (fun _ => ⟨_, _, rfl, sJ, fun j m9 hj e9 => ?_⟩)
        rcases Nat.lt_or_ge j i with g | g
        · exact dn j m9 g e9
        · have : j = i := by omega
          subst this
          rw [hm'] at e9
          obtain rfl := Option.some.inj e9
          exact hq
      · have hq' : ¬ V.int (speedAt ps ms m.1) = V.int (speedAt ps ns m.1) := fun z => hq (by injection z)
        rw [decide_eq_false hq']
        refine ite2 (fun _ => ?_) (fun z => absurd (show (!false) = true from rfl) z)
        have k := k J sX
        rw [decide_eq_false (fun z => hq ((real_eq7 fm fn).mp z.2 m (List.mem_of_getElem? hm')))] at k
        exact k
    · rintro σ J ⟨y4, y5, rfl, sJ, dn⟩
      have k := k J (s2.trans sJ)
      rw [decide_eq_true (show ps = ps ∧ realOf ps ms = realOf ps ns from ⟨rfl, (real_eq7 fm fn).mpr fun m hm => by
        obtain ⟨j, hj, e⟩ := List.getElem_of_mem hm
        refine dn j m (by rw [List.length_map]; rw [ll]; exact hj) ?_
        rw [List.getElem?_eq_getElem hj, e]⟩)] at k
      exact k
end

theorem shaped_marks (ms : List (Int × Int)) : SeqAt.shaped (dMarks ms) = true := by
  have h1 : ∀ ms : List (Int × Int), PyData.canLayAll0 (ms.map fun m => PyData.tuple [.int m.1, .int m.2]) = true := by
    intro ms
    induction ms with
    | nil => rfl
    | cons x xs ih =>
      rw [List.map_cons]
      show (PyData.canLay0 (.tuple [.int x.1, .int x.2]) && PyData.canLayAll0 (xs.map fun m => PyData.tuple [.int m.1, .int m.2])) = true
      rw [ih]
      rfl
  have h2 : ∀ ms : List (Int × Int), PyData.depthAll (ms.map fun m => PyData.tuple [.int m.1, .int m.2]) ≤ 1 := by
    intro ms
    induction ms with
    | nil => exact Nat.zero_le _
    | cons x xs ih =>
      rw [List.map_cons]
      simp only [PyData.depthAll, PyData.depth]
      omega
  unfold SeqAt.shaped dMarks
  have e1 : PyData.canLay0 (.list (ms.map fun m => PyData.tuple [.int m.1, .int m.2])) = true := by
    simp only [PyData.canLay0]
    exact h1 ms
  have e2 : PyData.depth (.list (ms.map fun m => PyData.tuple [.int m.1, .int m.2])) ≤ 64 := by
    simp only [PyData.depth]
    have := h2 ms
    omega
  rw [e1, decide_eq_true e2]
  rfl
theorem eqv_nil (ms : List (Int × Int)) : PyData.eqv (dMarks ms) (.list []) = decide (ms = []) := by
  cases ms with
  | nil => unfold dMarks; simp [PyData.eqv, PyData.eqvAll]
  | cons m ms => unfold dMarks; simp [PyData.eqv, PyData.eqvAll]
theorem Tups.last {H : Hp} : ∀ {ts : List Addr} {ms : List (Int × Int)}, Tups H ts ms → ms ≠ [] → ∃ ts' t ms' m, ts = ts' ++ [t] ∧ ms = ms' ++ [m] ∧ Tups H ts' ms' ∧ H t = some (.tup [.int m.1, .int m.2])
  | [], [], _, n => absurd rfl n
  | [t], [m], h, _ => ⟨[], t, [], m, rfl, rfl, trivial, h.1⟩
  | t :: t2 :: ts, m :: m2 :: ms, h, _ => by
    obtain ⟨ts', t', ms', m', e1, e2, h1, h2⟩ := Tups.last (ts := t2 :: ts) (ms := m2 :: ms) h.2 (by simp)
    exact ⟨t :: ts', t', m :: ms', m', by rw [e1]; rfl, by rw [e2]; rfl, ⟨h.1, h1⟩, h2⟩
structure O7 (p : Addr) (H : Hp) (m : Nat) (J : Hp) (c d : Addr) (qs : List Int) (us : List Addr) (ns : List (Int × Int)) : Prop where
  hc : J c = some (.lst (qs.map V.int))
  hd : J d = some (.lst (us.map V.ref))
  tp : Tups J us ns
  pa : Paces qs
  fit : Fit ns
  len : ns.length ≤ 3
  big : ∀ m ∈ ns, -10 ^ 40 < m.1 ∧ m.1 < 10 ^ 40
  fr : Fr p H J
  well : Well J p m
  cp : c ≠ p
  cH : H c = none
  cd : c ≠ d
theorem O7.mono {p : Addr} {H J : Hp} {m m' : Nat} {c d : Addr} {qs : List Int} {us : List Addr} {ns : List (Int × Int)} (o : O7 p H m J c d qs us ns) (g : m ≤ m') : O7 p H m' J c d qs us ns := ⟨o.hc, o.hd, o.tp, o.pa, o.fit, o.len, o.big, o.fr, o.well.mono g, o.cp, o.cH, o.cd⟩
theorem cut_last (xs : List V) : cutV xs none (some (-1)) = xs.take (xs.length - 1) := by
  unfold cutV
  rw [HT.sIx_none, Nat.sub_zero, List.drop_zero, List.take_eq_take_iff]
  show min (if (-1 : Int) < 0 then ((-1 : Int) + (xs.length : Int)).toNat else min (-1 : Int).toNat xs.length) xs.length = _
  rw [if_pos (by decide)]
  omega
theorem cut_tail (xs : List V) : cutV xs (some 1) none = xs.drop 1 := by
  cases xs with
  | nil => rfl
  | cons x xs =>
    unfold cutV
    rw [HT.sIx_none, show HT.sIx (x :: xs).length 0 (some 1) = 1 from by
      rw [show (1 : Int) = ((1 : Nat) : Int) from rfl, HT.sIx_nat]
      show min 1 (xs.length + 1) = 1
      omega]
    show xs.take (xs.length + 1 - 1) = xs
    rw [Nat.add_sub_cancel, List.take_length]
theorem map_snoc (us : List Addr) (t : Addr) : us.map V.ref ++ [V.ref t] = (us ++ [t]).map V.ref := by rw [List.map_append]; rfl
theorem Tups.tail {H : Hp} : ∀ {ts : List Addr} {ms : List (Int × Int)}, Tups H ts ms → Tups H (ts.drop 1) (ms.drop 1)
  | [], [], _ => trivial
  | _ :: _, _ :: _, h => h.2
theorem O7.same {p : Addr} {H J J' : Hp} {m : Nat} {c d : Addr} {qs : List Int} {us : List Addr} {ns : List (Int × Int)} (o : O7 p H m J c d qs us ns) (s : Same J J') : O7 p H m J' c d qs us ns := ⟨s _ _ o.hc, s _ _ o.hd, o.tp.same s, o.pa, o.fit, o.len, o.big, o.fr.trans (Fr.of s), o.well.same s, o.cp, o.cH, o.cd⟩
def spOther : Sp := fun vs H Q _ => ∃ (p a b : Addr) (n : Nat) (ps : List Int) (ts : List Addr) (ms : List (Int × Int)), vs = [.ref p, .ref a, .ref b] ∧ Well H p n ∧ n ≤ 2 * 10 ^ 6 ∧ H a = some (.lst (ps.map V.int)) ∧ a ≠ p ∧ H b = some (.lst (ts.map V.ref)) ∧ b ≠ p ∧ Tups H ts ms ∧ Paces ps ∧ Marks 2 ms ∧
  ∀ (H' : Hp) (r c d : Addr) (qs : List Int) (us : List Addr) (ns : List (Int × Int)), H' r = some (.lst [.ref c, .ref d]) → O7 p H (n + 100) H' c d qs us ns → Q (.ref r) H'
theorem fit_snoc {ms : List (Int × Int)} {v : Int × Int} (f : Fit ms) (h : ∀ m ∈ ms, m.1 < v.1) (p : 0 ≤ v.2 ∧ v.2 ≤ 3) (l : ms.length ≤ 60) : Fit (ms ++ [v]) := by
  refine ⟨?_, fun m hm => ?_, by rw [List.length_append]; show ms.length + 1 ≤ _; omega⟩
  · rw [List.pairwise_append]
    refine ⟨f.asc, List.pairwise_singleton _ _, fun a1 h1 b1 h2 => ?_⟩
    rw [List.mem_singleton.mp h2]
    exact h a1 h1
  · rcases List.mem_append.mp hm with g | g
    · exact f.val m g
    · rw [List.mem_singleton.mp g]
      exact p
section
variable {P : Program} {w : World} {K : PySem.W.Frag} {mg : Str → Option Value} {base : Heap}
theorem scOther : FnScope ["well", "paces", "marks", "way", "size", "twins", "pairs", "spot", "at", "last"] ["well", "paces", "marks"] (defScope sOther) := ⟨rfl, rfl, rfl, by decide +kernel, rfl, by decide +kernel, by decide +kernel⟩
theorem ok_other {f fT : Addr} {fd dT : FuncData} (F : Fun K "_law_other" "_law_other" sOther f fd) (T : Blt mg) (L : Tk P w K mg base fT dT) : FnOk P w K mg base CX0 2 f fd ["well", "paces", "marks"] spOther := by
  refine F.ok scOther (fun vs H Q E h => ?_) (fun cdv A outer s H vs Q E hr h => ?_)
  · obtain ⟨p, a, b, n, ps, ts, ms, rfl, _⟩ := h
    rfl
  · obtain ⟨p, a, b, n, ps, ts, ms, rfl, hW, hn, ha, ap, hb, bp, tp, hp, hm, k⟩ := h
    have hr1 : Room 1 _ := hr.mono (by decide)
    have hu := hr.units
    refine ⟨_, pss_cons (ps_par (i := 3) (j := 4) rfl scOther.nd rfl rfl (by decide) rfl rfl (pa_cons (pe_call L.ok hr1 (by rfl) L.at_ L.kp L.bi .nil pass0 (pa_cons (pv 0) (pa_cons pe_int pa_nil))) (pa_cons (pe_callB call_len_seq (by rfl) T.len PySem.boot_len (pa_cons (pv 1) pa_nil)) pa_nil)) (by rfl))
      (pss_cons (ps_par (i := 5) (j := 6) rfl scOther.nd rfl rfl (by decide) rfl rfl (pa_cons (pe_callTy call_list_of (by rfl) T.list (by decide +kernel) (pa_cons (pv 1) pa_nil)) (pa_cons (pe_callTy call_list_of (by rfl) T.list (by decide +kernel) (pa_cons (pv 2) pa_nil)) pa_nil)) (by rfl))
      (pss_cons (ps_set (i := 7) scOther.nd rfl (.inl rfl) (pe_call L.ok hr1 (by rfl) L.at_ L.kp L.bi .nil pass0 (pa_cons (pv 0) (pa_cons (pv 4) pa_nil))))
      (C8.pss_cut (ps_if (pt_cmpR op_eq (pv 3) pe_int (nomark _))
        (pss_cons (ps_set (i := 8) scOther.nd rfl (.inl rfl) (pe_ifExp (pt_cmpR (op_neD hu) (pv 6) (pe_lst pa_nil) (nomark _)) (pe_op op_add (pe_op op_add (pe_ix ix_tup (pe_ix ix_list (pv 6) (pe_un un_neg pe_int) (fun _ _ => rfl)) pe_int (fun _ _ => rfl)) pe_int) (pv 7)) (pv 7)))
        (pss_one (ps_set (i := 6) scOther.nd rfl (.inl rfl) (pe_op op_cat (pv 6) (pe_lst (pa_cons (pe_tup (pa_cons (pv 8) (pa_cons (pe_ix ix_list (pv 1) (pe_op op_mod (pe_callTy call_int1 (by rfl) T.int (by decide +kernel) (pa_cons (pv 8) pa_nil)) (pv 4)) (fun _ _ => rfl)) pa_nil))) pa_nil))))))
        pss_nil)
      (C8.pss_cut (ps_if (pt_cmpR op_eq (pv 3) pe_int (nomark _))
        (pss_one (ps_asg (pe_op op_add pe_int (pe_op op_mod (pe_callTy call_int1 (by rfl) T.int (by decide +kernel) (pa_cons (pe_ix ix_list (pv 1) (pv 7) (fun _ _ => rfl)) pa_nil)) pe_int)) (pg_sub (pv 5) (pv 7) set_list)))
        pss_nil)
      (C8.pss_cut (ps_if (PW.pt (pw_and (pt_cmpR op_eq (pv 3) pe_int (nomark _)) (pw_and1 (pt_cmpR (op_neD hu) (pv 6) (pe_lst pa_nil) (nomark _)))))
        (pss_cons (ps_set (i := 9) scOther.nd rfl (.inl rfl) (pe_ix ix_list (pv 6) (pe_un un_neg pe_int) (fun _ _ => rfl)))
        (pss_one (ps_set (i := 6) scOther.nd rfl (.inl rfl) (pe_op op_cat (pe_slice sl_list (pv 6) po_none (po_some (pe_un un_neg pe_int))) (pe_lst (pa_cons (pe_tup (pa_cons (pe_ix ix_tup (pv 9) pe_int (fun _ _ => rfl)) (pa_cons (pe_op op_mod (pe_callTy call_int1 (by rfl) T.int (by decide +kernel) (pa_cons (pe_op op_add (pe_op op_add (pe_ix ix_tup (pv 9) pe_int (fun _ _ => rfl)) pe_int) (pe_call L.ok hr1 (by rfl) L.at_ L.kp L.bi .nil pass0 (pa_cons (pv 0) (pa_cons pe_int pa_nil)))) pa_nil)) pe_int) pa_nil))) pa_nil))))))
        pss_nil)
      (C8.pss_cut (ps_if (pt_cmpR op_eq (pv 3) pe_int (nomark _))
        (pss_one (ps_set (i := 6) scOther.nd rfl (.inl rfl) (pe_slice sl_list (pv 6) (po_some pe_int) po_none)))
        pss_nil)
      (C8.pss_cut (ps_if (PW.pt (pw_and (pt_cmpR op_eq (pv 3) pe_int (nomark _)) (pw_and1 (pt_cmpR op_lt (pv 4) pe_int (nomark _)))))
        (pss_one (ps_set (i := 5) scOther.nd rfl (.inl rfl) (pe_op op_cat (pv 5) (pv 5))))
        pss_nil)
      (pss_one (ps_ret (pe_lst (pa_cons (pv 5) (pa_cons (pv 6) pa_nil)))))))))))), ?_⟩
    have lp : (((ps.map V.int).length : Nat) : Int) = ps.length := by rw [List.length_map]
    have l0 := hp.len0
    have l1 := hp.len1
    refine ⟨_, rfl, ⟨_, _, _, rfl, hW, (by omega), (by decide), (by decide), fun way H1 v0 v1 f1 w1 => ?_⟩⟩
    refine ⟨_, rfl, a, _, rfl, .inl (SqL.of (f1 _ _ ha ap)), _, _, rfl, ?_⟩
    rw [lp]
    refine ⟨_, rfl, a, _, rfl, .inl (SqL.of (f1 _ _ ha ap)), fun c nc => ?_⟩
    have s1 := same_new (o := .lst (ps.map V.int)) nc
    refine ⟨_, rfl, b, _, rfl, .inl (SqL.of (s1 _ _ (f1 _ _ hb bp))), fun d nd => ⟨_, _, rfl, ?_⟩⟩
    have s2 := same_new (o := .lst (ts.map V.ref)) nd
    have cd : c ≠ d := ne_of_none upd_same nd
    have w2 := (w1.same s1).same s2
    have f2 := f1.trans (Fr.of (s1.trans s2))
    have cf := free_of f1 w1 nc
    refine ⟨_, rfl, _, rfl, ⟨_, _, _, rfl, w2, (by omega), (by omega), (by omega), fun spot H3 p0 p1 f3 w3 => ?_⟩⟩
    have dp : d ≠ p := ((w1.same s1).ne nd).symm
    have o0 : O7 p H (n + 4) H3 c d ps ts ms := ⟨f3 _ _ (s2 _ _ upd_same) cf.2, f3 _ _ upd_same dp, ((tp.fr hW f1).same (s1.trans s2)).fr w2 f3, hp, ⟨hm.asc, hm.val, by have := hm.len; omega⟩, by have := hm.len; omega, fun m h9 => by have := hm.big m h9; omega, f2.trans f3, w3.mono (by omega), cf.2, cf.1, cd⟩
    -- way 0
    have ha3 := (f2.trans f3) _ _ ha ap
    refine ⟨fun σ J => ∃ (c d : Addr) (qs : List Int) (us : List Addr) (ns : List (Int × Int)) (y8 y9 : Option V), σ = [some (.ref p), some (.ref a), some (.ref b), some (.int way), some (.int (ps.length : Nat)), some (.ref c), some (.ref d), some (.int spot), y8, y9] ∧ O7 p H (n + 10) J c d qs us ns ∧ qs.length = ps.length, ?_, ?_⟩
    · refine ⟨_, rfl, rfl, _, rfl, ite2 (fun g => ?_) (fun _ => ⟨c, d, ps, ts, ms, none, none, rfl, o0.mono (by omega), rfl⟩)⟩
      refine ⟨_, rfl, Nat.zero_le _, fun e ne => ?_⟩
      have xe := same_new (o := .lst []) ne
      refine ⟨dMarks ms, .list [], dp_marks (SqL.of (xe _ _ o0.hd)) (o0.tp.same xe), .lst (SqL.of upd_same) .nil, shaped_marks ms, rfl, _, rfl, ?_⟩
      rw [eqv_nil]
      by_cases nil : ms = []
      · rw [decide_eq_true nil]
        refine ite2 (fun g => absurd g (by decide)) (fun _ => ?_)
        refine ⟨_, rfl, ?_⟩
        refine ⟨_, rfl, _, rfl, _, rfl, _, rfl, .inl ⟨_, rfl, _, rfl, _, _, rfl, rfl, (by omega), a, _, _, .int (paceOf ps (spot)), rfl, rfl, SqL.of (xe _ _ ha3), atI_pace l0, (by show 2 ≤ sizeLine; decide), fun t8 nt8 => ⟨(by show 1 ≤ sizeLine; decide), fun l8 nl8 => ?_⟩⟩⟩
        have x1 := same_new (o := .tup [.int (spot), .int (paceOf ps (spot))]) nt8
        have x2 := same_new (o := .lst [.ref t8]) nl8
        have x12 := (xe.trans x1).trans x2
        refine ⟨d, l8, _, _, rfl, rfl, x12 _ _ o0.hd, upd_same, (by rw [List.length_map, sizeLine_eq]; have := o0.tp.len; have := hm.len; show _ + 1 ≤ _; omega), fun d2 nd2 => ?_⟩
        have x3 := same_new (o := .lst (ts.map V.ref ++ [.ref t8])) nd2
        have x13 := x12.trans x3
        have pl := hp.lo _ (pace_in (t := spot) l0)
        refine ⟨c, d2, ps, ts ++ [t8], ms ++ [(spot, paceOf ps (spot))], _, _, rfl, ⟨x13 _ _ o0.hc, by rw [upd_same, map_snoc ts t8], ((o0.tp.same x12).same x3).snoc (m := (spot, paceOf ps (spot))) (x3 _ _ (x2 _ _ upd_same)), hp, fit_snoc o0.fit (fun m9 h9 => by rw [nil] at h9; exact absurd h9 List.not_mem_nil) pl (by have := hm.len; omega), by rw [List.length_append]; have := hm.len; show _ + 1 ≤ 3; omega, fun m9 h9 => ?_, o0.fr.trans (Fr.of x13), (o0.well.same x13).mono (by omega), o0.cp, o0.cH, ne_of_none (x12 _ _ o0.hc) nd2⟩, rfl⟩
        rcases List.mem_append.mp h9 with g9 | g9
        · exact o0.big m9 g9
        · rw [List.mem_singleton.mp g9]
          exact ⟨by show _ < _; omega, by show _ < _; omega⟩
      · rw [decide_eq_false nil]
        refine ite2 (fun _ => ?_) (fun z => absurd (show (!false) = true from rfl) z)
        obtain ⟨ts', t, ms', m, rfl, rfl, tp', ht⟩ := Tups.last o0.tp nil
        have hdl : (upd H3 e (.lst [])) d = some (.lst (ts'.map V.ref ++ [V.ref t])) := by
          have := xe _ _ o0.hd
          rw [List.map_append] at this
          exact this
        have lastlt : ∀ m9 ∈ ms' ++ [m], m9.1 < m.1 + 1 + spot := fun m9 h9 => by
          rcases List.mem_append.mp h9 with g9 | g9
          · have := (List.pairwise_append.mp o0.fit.asc).2.2 m9 g9 m (List.mem_singleton.mpr rfl)
            omega
          · rw [List.mem_singleton.mp g9]
            omega
        have mb := hm.big m (List.mem_append_right _ (List.mem_singleton.mpr rfl))
        refine ⟨_, rfl, _, rfl, d, _, -1, .ref t, rfl, rfl, SqL.of hdl, atI_last _ _, t, _, 0, .int m.1, rfl, rfl, SqT.of (xe _ _ ht), rfl, _, _, rfl, rfl, _, rfl, _, _, rfl, rfl, ?_⟩
        refine ⟨_, rfl, _, rfl, _, rfl, _, rfl, .inl ⟨_, rfl, _, rfl, _, _, rfl, rfl, (by omega), a, _, _, .int (paceOf ps (m.1 + 1 + spot)), rfl, rfl, SqL.of (xe _ _ ha3), atI_pace l0, (by show 2 ≤ sizeLine; decide), fun t8 nt8 => ⟨(by show 1 ≤ sizeLine; decide), fun l8 nl8 => ?_⟩⟩⟩
        have x1 := same_new (o := .tup [.int (m.1 + 1 + spot), .int (paceOf ps (m.1 + 1 + spot))]) nt8
        have x2 := same_new (o := .lst [.ref t8]) nl8
        have x12 := (xe.trans x1).trans x2
        refine ⟨d, l8, _, _, rfl, rfl, x12 _ _ o0.hd, upd_same, (by rw [List.length_map, sizeLine_eq]; have := o0.tp.len; have := hm.len; show _ + 1 ≤ _; omega), fun d2 nd2 => ?_⟩
        have x3 := same_new (o := .lst ((ts' ++ [t]).map V.ref ++ [.ref t8])) nd2
        have x13 := x12.trans x3
        have pl := hp.lo _ (pace_in (t := m.1 + 1 + spot) l0)
        refine ⟨c, d2, ps, (ts' ++ [t]) ++ [t8], (ms' ++ [m]) ++ [(m.1 + 1 + spot, paceOf ps (m.1 + 1 + spot))], _, _, rfl, ⟨x13 _ _ o0.hc, by rw [upd_same, map_snoc (ts' ++ [t]) t8], ((o0.tp.same x12).same x3).snoc (m := (m.1 + 1 + spot, paceOf ps (m.1 + 1 + spot))) (x3 _ _ (x2 _ _ upd_same)), hp, fit_snoc o0.fit (fun m9 h9 => lastlt m9 h9) pl (by have := hm.len; omega), by rw [List.length_append]; have := hm.len; show _ + 1 ≤ 3; omega, fun m9 h9 => ?_, o0.fr.trans (Fr.of x13), (o0.well.same x13).mono (by omega), o0.cp, o0.cH, ne_of_none (x12 _ _ o0.hc) nd2⟩, rfl⟩
        rcases List.mem_append.mp h9 with g9 | g9
        · exact o0.big m9 g9
        · rw [List.mem_singleton.mp g9]
          exact ⟨by show _ < _; omega, by show _ < _; omega⟩
    rintro σ J ⟨c, d, qs, us, ns, y8, y9, rfl, o, ql⟩
    clear o0 cd nd s2 cf w2 f2 f3 w3 dp ha3 s1 nc
    -- way 1
    refine ⟨fun σ J => ∃ (c d : Addr) (qs : List Int) (us : List Addr) (ns : List (Int × Int)) (y8 y9 : Option V), σ = [some (.ref p), some (.ref a), some (.ref b), some (.int way), some (.int (ps.length : Nat)), some (.ref c), some (.ref d), some (.int spot), y8, y9] ∧ O7 p H (n + 30) J c d qs us ns ∧ qs.length = ps.length, ?_, ?_⟩
    · refine ⟨_, rfl, rfl, _, rfl, ite2 (fun g => ?_) (fun _ => ⟨c, d, qs, us, ns, y8, y9, rfl, o.mono (by omega), ql⟩)⟩
      obtain ⟨v, hv, hv2, he⟩ := atI_ints (xs := ps) p0 p1
      have pv' := hp.lo v hv
      refine ⟨_, rfl, _, rfl, a, _, spot, .int v, rfl, rfl, SqL.of (o.fr _ _ ha ap), he, .inl ⟨_, rfl, _, _, rfl, rfl, (by show (0 : Int) < 3; decide), _, _, rfl, rfl, _, rfl, _, rfl, c, _, spot, spot.toNat, rfl, rfl, o.hc, ?_, ?_⟩⟩
      · unfold ixN
        rw [if_pos p0, if_pos (by rw [List.length_map]; omega)]
      · refine ⟨c, d, qs.set spot.toNat (1 + v % 3), us, ns, y8, y9, rfl, ⟨by rw [upd_same, List.map_set], by rw [upd_ne o.cd.symm]; exact o.hd, o.tp.put o.hc, ⟨fun x hx => ?_, ⟨1 + v % 3, List.mem_set (by omega) _, by omega⟩, by rw [List.length_set]; exact o.pa.len0, by rw [List.length_set]; exact o.pa.len1⟩, o.fit, o.len, o.big, Fr.put o.cH o.fr, (o.well.upd_ne o.cp.symm).mono (by omega), o.cp, o.cH, o.cd⟩, by rw [List.length_set]; exact ql⟩
        rcases List.mem_or_eq_of_mem_set hx with g9 | g9
        · exact o.pa.lo x g9
        · rw [g9]
          omega
    clear o ql qs ns us c d y8 y9
    rintro σ J ⟨c, d, qs, us, ns, y8, y9, rfl, o, ql⟩
    -- way 2
    refine ⟨fun σ J => ∃ (c d : Addr) (qs : List Int) (us : List Addr) (ns : List (Int × Int)) (y8 y9 : Option V), σ = [some (.ref p), some (.ref a), some (.ref b), some (.int way), some (.int (ps.length : Nat)), some (.ref c), some (.ref d), some (.int spot), y8, y9] ∧ O7 p H (n + 50) J c d qs us ns ∧ qs.length = ps.length, ?_, ?_⟩
    · refine ⟨_, rfl, rfl, _, rfl, ite2 (fun g => ?_) (fun _ => ?_)⟩
      rotate_left
      · exact ite2 (fun g => absurd g (by decide)) (fun _ => ⟨c, d, qs, us, ns, y8, y9, rfl, o.mono (by omega), ql⟩)
      refine ⟨_, rfl, Nat.zero_le _, fun e ne => ?_⟩
      have xe := same_new (o := .lst []) ne
      refine ⟨dMarks ns, .list [], dp_marks (SqL.of (xe _ _ o.hd)) (o.tp.same xe), .lst (SqL.of upd_same) .nil, shaped_marks ns, rfl, _, rfl, ?_⟩
      rw [eqv_nil]
      by_cases nil : ns = []
      · rw [decide_eq_true nil]
        exact ite2 (fun g => absurd g (by decide)) (fun _ => ⟨c, d, qs, us, ns, y8, y9, rfl, (o.same xe).mono (by omega), ql⟩)
      rw [decide_eq_false nil]
      refine ite2 (fun _ => ?_) (fun z => absurd (show (!false) = true from rfl) z)
      obtain ⟨us', t, ns', m, rfl, rfl, tp', ht⟩ := Tups.last o.tp nil
      have hdl : (upd J e (.lst [])) d = some (.lst (us'.map V.ref ++ [V.ref t])) := by
        have := xe _ _ o.hd
        rw [List.map_append] at this
        exact this
      refine ⟨_, rfl, _, rfl, d, _, -1, .ref t, rfl, rfl, SqL.of hdl, atI_last _ _, ?_⟩
      refine ⟨_, rfl, _, rfl, _, rfl, d, _, rfl, SqL.of hdl, fun D1 n1 => ?_⟩
      rw [show cutV (us'.map V.ref ++ [V.ref t]) none (some (-1)) = us'.map V.ref from by rw [cut_last, List.length_append, List.length_singleton, Nat.add_sub_cancel, List.take_left]]
      have x1 := same_new (o := .lst (us'.map V.ref)) n1
      have xe1 := xe.trans x1
      refine ⟨_, rfl, t, _, 0, .int m.1, rfl, rfl, SqT.of (xe1 _ _ ht), rfl, ?_⟩
      refine ⟨_, rfl, t, _, 1, .int m.2, rfl, rfl, SqT.of (xe1 _ _ ht), rfl, _, _, rfl, rfl, _, rfl, ⟨_, _, _, rfl, o.well.same xe1, (by omega), (by decide), (by decide), fun v J2 b0 b1 f2 w2 => ?_⟩⟩
      refine ⟨_, _, rfl, rfl, .inl ⟨_, rfl, _, _, rfl, rfl, (by show (0 : Int) < 4; decide), (by show 2 ≤ sizeLine; decide), fun t8 nt8 => ⟨(by show 1 ≤ sizeLine; decide), fun l8 nl8 => ?_⟩⟩⟩
      have x8 := same_new (o := .tup [.int m.1, .int ((m.2 + 1 + v) % 4)]) nt8
      have x9 := same_new (o := .lst [.ref t8]) nl8
      have D1p : D1 ≠ p := ((o.well.same xe).ne n1).symm
      have x89 := x8.trans x9
      have hD := x89 _ _ (f2 _ _ (upd_same (H := upd J e (.lst [])) (a := D1) (o := .lst (us'.map V.ref))) D1p)
      refine ⟨D1, l8, _, _, rfl, rfl, hD, upd_same, (by rw [List.length_map, sizeLine_eq]; have := tp'.len; have := o.len; rw [List.length_append] at this; show _ + 1 ≤ _; omega), fun d2 nd2 => ?_⟩
      have x3 := same_new (o := .lst (us'.map V.ref ++ [.ref t8])) nd2
      have x93 := x89.trans x3
      have fA : Fr p H _ := ((o.fr.trans (Fr.of xe1)).trans f2).trans (Fr.of x93)
      have hc' := f2 _ _ (xe1 _ _ o.hc) o.cp
      have fit' : Fit ns' := ⟨(List.pairwise_append.mp o.fit.asc).1, fun m9 h9 => o.fit.val m9 (List.mem_append_left _ h9), by have := o.fit.len; rw [List.length_append] at this; omega⟩
      refine ⟨c, d2, qs, us' ++ [t8], ns' ++ [(m.1, (m.2 + 1 + v) % 4)], _, _, rfl, ⟨x93 _ _ hc', by rw [upd_same, map_snoc us' t8], ((((tp'.same xe1).fr (o.well.same xe1) f2).same x89).same x3).snoc (m := (m.1, (m.2 + 1 + v) % 4)) (x3 _ _ (x9 _ _ upd_same)), o.pa, fit_snoc fit' (fun m9 h9 => (List.pairwise_append.mp o.fit.asc).2.2 m9 h9 m (List.mem_singleton.mpr rfl)) ⟨by show 0 ≤ _ % _; omega, by show _ % _ ≤ 3; omega⟩ (by have := o.len; rw [List.length_append] at this; omega), by have := o.len; rw [List.length_append] at this ⊢; exact this, fun m9 h9 => ?_, fA, (w2.same x93).mono (by omega), o.cp, o.cH, ne_of_none (x89 _ _ hc') nd2⟩, ql⟩
      rcases List.mem_append.mp h9 with g9 | g9
      · exact o.big m9 (List.mem_append_left _ g9)
      · rw [List.mem_singleton.mp g9]
        exact o.big m (List.mem_append_right _ (List.mem_singleton.mpr rfl))
    clear o ql qs ns us c d y8 y9
    rintro σ J ⟨c, d, qs, us, ns, y8, y9, rfl, o, ql⟩
    -- way 3
    refine ⟨fun σ J => ∃ (c d : Addr) (qs : List Int) (us : List Addr) (ns : List (Int × Int)) (y8 y9 : Option V), σ = [some (.ref p), some (.ref a), some (.ref b), some (.int way), some (.int (ps.length : Nat)), some (.ref c), some (.ref d), some (.int spot), y8, y9] ∧ O7 p H (n + 60) J c d qs us ns ∧ qs.length = ps.length, ?_, ?_⟩
    · refine ⟨_, rfl, rfl, _, rfl, ite2 (fun g => ?_) (fun _ => ⟨c, d, qs, us, ns, y8, y9, rfl, o.mono (by omega), ql⟩)⟩
      refine ⟨_, rfl, _, rfl, d, _, rfl, SqL.of o.hd, fun D1 n1 => ?_⟩
      rw [cut_tail]
      have x1 := same_new (o := .lst ((us.map V.ref).drop 1)) n1
      refine ⟨c, D1, qs, us.drop 1, ns.drop 1, _, _, rfl, ⟨x1 _ _ o.hc, by rw [upd_same, List.map_drop], (o.tp.tail).same x1, o.pa, ⟨o.fit.asc.sublist (List.drop_sublist 1 ns), fun m9 h9 => o.fit.val m9 (List.mem_of_mem_drop h9), by have := o.fit.len; rw [List.length_drop]; omega⟩, by have := o.len; rw [List.length_drop]; omega, fun m9 h9 => o.big m9 (List.mem_of_mem_drop h9), o.fr.trans (Fr.of x1), (o.well.same x1).mono (by omega), o.cp, o.cH, ne_of_none o.hc n1⟩, ql⟩
    clear o ql qs ns us c d y8 y9
    rintro σ J ⟨c, d, qs, us, ns, y8, y9, rfl, o, ql⟩
    -- way 4
    refine ⟨fun σ J => ∃ (c d : Addr) (qs : List Int) (us : List Addr) (ns : List (Int × Int)) (y8 y9 : Option V), σ = [some (.ref p), some (.ref a), some (.ref b), some (.int way), some (.int (ps.length : Nat)), some (.ref c), some (.ref d), some (.int spot), y8, y9] ∧ O7 p H (n + 70) J c d qs us ns, ?_, ?_⟩
    · refine ⟨_, rfl, rfl, _, rfl, ite2 (fun g => ?_) (fun _ => ?_)⟩
      rotate_left
      · exact ite2 (fun g => absurd g (by decide)) (fun _ => ⟨c, d, qs, us, ns, y8, y9, rfl, o.mono (by omega)⟩)
      refine ⟨_, rfl, _, _, rfl, rfl, _, rfl, ite2 (fun g2 => ?_) (fun _ => ⟨c, d, qs, us, ns, y8, y9, rfl, o.mono (by omega)⟩)⟩
      have lt7 : (ps.length : Int) < 7 := of_decide_eq_true g2
      refine ⟨_, rfl, _, rfl, c, c, _, _, rfl, rfl, o.hc, o.hc, (by rw [List.length_map, sizeLine_eq]; omega), fun c2 n2 => ?_⟩
      have x1 := same_new (o := .lst (qs.map V.int ++ qs.map V.int)) n2
      have cf := free_of o.fr o.well n2
      refine ⟨c2, d, qs ++ qs, us, ns, _, _, rfl, ⟨by rw [upd_same, List.map_append], x1 _ _ o.hd, o.tp.same x1, ⟨fun x hx => ?_, ?_, by rw [List.length_append]; omega, by rw [List.length_append]; omega⟩, o.fit, o.len, o.big, o.fr.trans (Fr.of x1), (o.well.same x1).mono (by omega), cf.2, cf.1, (ne_of_none o.hd n2).symm⟩⟩
      · rcases List.mem_append.mp hx with g9 | g9 <;> exact o.pa.lo x g9
      · obtain ⟨v, hv, v0⟩ := o.pa.pos
        exact ⟨v, List.mem_append_left _ hv, v0⟩
    clear o ql qs ns us c d y8 y9
    rintro σ J ⟨c, d, qs, us, ns, y8, y9, rfl, o⟩
    refine ⟨_, rfl, _, rfl, (by show 2 ≤ sizeLine; decide), fun r nr => ?_⟩
    exact k _ r c d qs us ns upd_same ((o.same (same_new nr)).mono (by omega))
end

/-! ### moving, twice and back -/
theorem movP_zero {ps : List Int} : movP ps 0 = ps := by
  refine List.ext_getElem? fun i => ?_
  by_cases h : i < ps.length
  · unfold movP
    rw [List.getElem?_map, List.getElem?_range h, List.getElem?_eq_getElem h]
    show some (paceOf ps ((i : Int) - 0)) = _
    unfold paceOf
    rw [Int.sub_zero, Int.emod_eq_of_lt (by omega) (by omega), List.getD_eq_getElem?_getD, show ((i : Int)).toNat = i by omega, List.getElem?_eq_getElem h]
    rfl
  · rw [List.getElem?_eq_none (by rw [movP_len]; omega), List.getElem?_eq_none (by omega)]
theorem movM_zero {ms : List (Int × Int)} : movM ms 0 = ms := by
  unfold movM
  have : (fun m : Int × Int => (m.1 + 0, m.2)) = id := by
    funext m
    rw [Int.add_zero]
    rfl
  rw [this, List.map_id]
theorem movP_movP {ps : List Int} (h : 0 < ps.length) (s t : Int) : movP (movP ps s) t = movP ps (s + t) := by
  unfold movP
  rw [List.length_map, List.length_range]
  refine List.map_congr_left fun i _ => ?_
  show paceOf (movP ps s) _ = _
  rw [movP_pace h]
  congr 1
  omega
theorem movM_movM {ms : List (Int × Int)} (s t : Int) : movM (movM ms s) t = movM ms (s + t) := by
  unfold movM
  rw [List.map_map]
  refine List.map_congr_left fun m _ => ?_
  show (m.1 + s + t, m.2) = _
  rw [Int.add_assoc]
theorem real_mov {ps : List Int} (h : 0 < ps.length) (s : Int) : ∀ ms : List (Int × Int), realOf (movP ps s) (movM ms s) = movM (realOf ps ms) s
  | [] => rfl
  | m :: ms => by
    have ih := real_mov h s ms
    unfold realOf movM at *
    rw [List.map_cons, List.filter_cons, List.filter_cons]
    have e : paceOf (movP ps s) (m.1 + s) = paceOf ps m.1 := by rw [movP_pace h]; congr 1; omega
    show (if decide (m.2 ≠ paceOf (movP ps s) (m.1 + s)) = true then _ else _) = _
    rw [e]
    split
    · rw [ih, List.map_cons]
    · exact ih
theorem real_real {ps : List Int} (ms : List (Int × Int)) : realOf ps (realOf ps ms) = realOf ps ms := by
  unfold realOf
  rw [List.filter_filter]
  congr 1
  funext m
  exact Bool.and_self _
/-- what a calendar tells of itself -/
def dTold (ps : List Int) (ms : List (Int × Int)) : PyData := .list [.int (ps.length : Nat), dInts ps, dMarks ms]
theorem rp_told {ps : List Int} {ms : List (Int × Int)} (hp : Paces ps) (f : Fit ms) (g : ∀ m ∈ ms, -10 ^ 40 < m.1 ∧ m.1 < 10 ^ 40) : Rp (dTold ps ms) 5000 8 := by
  have h1 := hp.len1
  have h2 := f.len
  refine (Rp.list (.cons (Rp.int (by omega) (by omega)) (.cons (rp_ints fun v hv => ?_) (.cons (rp_marks fun m hm => ?_) .nil)))).mono (by omega) (by omega)
  · have := hp.lo v hv
    omega
  · have := f.val m hm
    have := g m hm
    omega

theorem call_strL {X : Cx} (hgd : X.A.guards = some []) (hu : X.A.units + 64 < cLine) : CallR X (.type "str") (rStrL X.K) := by
  intro pins s σ H xs us Q I r h
  obtain ⟨a, d, n, k, rfl, hd, hr, hk, hn, q⟩ := h
  cases r with
  | cons r1 r2 =>
    cases r2
    rename_i u
    obtain rfl : u = Value.ref a := r1
    obtain ⟨as, rd⟩ := Dp.reads I d _ _ hd (show RelV (V.ref a) (Value.ref a) from rfl)
    refine PySem.str_of_reads rd hr.sh (PyData.noDict_hsm hr.nd) hgd (by have := hr.dp; omega) (fun _ _ e => e) (fun h' u tk hk => ?_) (hr.fits hn)
    exact ⟨.str d.shown, H, I.kept hk, ⟨u, rfl⟩, q⟩
theorem rp_bools4 (a b c d : Bool) : Rp (.list [.bool a, .bool b, .bool c, .bool d]) 100 10 := (Rp.list (.cons (Rp.bool a) (.cons (Rp.bool b) (.cons (Rp.bool c) (.cons (Rp.bool d) .nil))))).mono (by omega) (by omega)
theorem rp_bools3 (a b c : Bool) : Rp (.list [.bool a, .bool b, .bool c]) 100 10 := (Rp.list (.cons (Rp.bool a) (.cons (Rp.bool b) (.cons (Rp.bool c) .nil)))).mono (by omega) (by omega)
section
variable {P : Program} {w : World} {K : PySem.W.Frag} {mg : Str → Option Value} {base : Heap}
theorem scFits : FnScope ["well", "size", "paces", "marks", "twins", "pairs", "made", "twin", "want", "back", "thing"] ["well"] (defScope sFits) := ⟨rfl, rfl, rfl, by decide +kernel, rfl, by decide +kernel, by decide +kernel⟩
theorem ok_fits {f fT fP fM fI fO fS fV fQ C : Addr} {fd dT dP dM dI dO dS dV dQ : FuncData} (F : Fun K "_law_fits" "_law_fits" sFits f fd) (T : Blt mg) (nS : mg "str" = none) (Z : Cal K mg C) (L : Tk P w K mg base fT dT)
    (Pa : At P w K mg base 2 "_law_paces" ["well", "size"] spPaces fP dP) (Ma : At P w K mg base 3 "_law_marks" ["well", "size", "cap"] spMarks fM dM)
    (MK : Mk K C fI) (GI : FnOk P w K mg base CX0 3 fI dI ["self", "speeds", "changes"] (spInit C K)) (bI : Binds K dI ["self", "speeds", "changes"] [])
    (Ot : At P w K mg base 2 "_law_other" ["well", "paces", "marks"] spOther fO dO) (Sa : At P w K mg base 2 "_law_same" ["paces", "marks", "twins", "pairs"] spSame fS dS)
    (hV : Meth K C "moved" fV) (GV : FnOk P w K mg base CX0 5 fV dV ["self", "number"] (spMoved C)) (bV : Binds K dV ["self", "number"] [])
    (EQ : EqK K C fQ) (GE : FnOk P w K mg base CX0 1 fQ dQ ["self", "other"] (spEqX C)) (bE : Binds K dQ ["self", "other"] []) : FnG P w K mg base 7 f fd ["well"] spFits := by
  refine okG F scFits (fun vs H Q E h => ?_) (fun cdv A outer s H vs Q E hgd hr h => ?_)
  · obtain ⟨p, n, rfl, _⟩ := h
    rfl
  · obtain ⟨p, n, rfl, hW, hn, k⟩ := h
    have hr1 : Room 1 _ := hr.mono (by decide)
    have hr2 : Room 2 _ := hr.mono (by decide)
    have hr3 : Room 3 _ := hr.mono (by decide)
    have hr4 : Room 4 _ := hr.mono (by decide)
    have hr5 : Room 5 _ := hr.mono (by decide)
    have hu := hr.units
    refine ⟨_, pss_cons (ps_set (i := 1) scFits.nd rfl (.inl rfl) (pe_op op_add pe_int (pe_call L.ok hr1 (by rfl) L.at_ L.kp L.bi .nil pass0 (pa_cons (pv 0) (pa_cons pe_int pa_nil)))))
      (pss_cons (ps_set (i := 2) scFits.nd rfl (.inl rfl) (pe_call Pa.ok hr2 (by rfl) Pa.at_ Pa.kp Pa.bi .nil pass0 (pa_cons (pv 0) (pa_cons (pv 1) pa_nil))))
      (pss_cons (ps_set (i := 3) scFits.nd rfl (.inl rfl) (pe_call Ma.ok hr3 (by rfl) Ma.at_ Ma.kp Ma.bi .nil pass0 (pa_cons (pv 0) (pa_cons (pv 1) (pa_cons pe_int pa_nil)))))
      (pss_cons (ps_asg (pe_call Ot.ok hr2 (by rfl) Ot.at_ Ot.kp Ot.bi .nil pass0 (pa_cons (pv 0) (pa_cons (pv 2) (pa_cons (pv 3) pa_nil)))) (pg_lst rfl (pgs_cons (pg_name (i := 4) scFits.nd rfl (.inl rfl)) (pgs_cons (pg_name (i := 5) scFits.nd rfl (.inl rfl)) pgs_nil))))
      (pss_cons (ps_par (i := 6) (j := 7) rfl scFits.nd rfl rfl (by decide) rfl rfl (pa_cons (pe_make MK GI hr4 (by rfl) Z.at_ bI .nil pass0 (pa_cons (pe_callTy call_list_of (by rfl) T.list (by decide +kernel) (pa_cons (pv 2) pa_nil)) (pa_cons (pe_callTy call_list_of (by rfl) T.list (by decide +kernel) (pa_cons (pv 3) pa_nil)) pa_nil))) (pa_cons (pe_make MK GI hr4 (by rfl) Z.at_ bI .nil pass0 (pa_cons (pe_callTy call_list_of (by rfl) T.list (by decide +kernel) (pa_cons (pv 4) pa_nil)) (pa_cons (pe_callTy call_list_of (by rfl) T.list (by decide +kernel) (pa_cons (pv 5) pa_nil)) pa_nil))) pa_nil)) (by rfl))
      (pss_cons (ps_set (i := 8) scFits.nd rfl (.inl rfl) (pe_call Sa.ok hr2 (by rfl) Sa.at_ Sa.kp Sa.bi .nil pass0 (pa_cons (pv 2) (pa_cons (pv 3) (pa_cons (pv 4) (pa_cons (pv 5) pa_nil))))))
      (pss_cons (ps_if (pt_cmpR op_ne (pe_callB (call_rep2 hgd hu) (by rfl) T.repr (by decide +kernel) (pa_cons (pe_lst (pa_cons (pe_cmpR (op_eqOO GE EQ bE hr2) (pv 6) (pv 7) (nomark _)) (pa_cons (pe_cmpR (op_eqOO GE EQ bE hr2) (pv 7) (pv 6) (nomark _)) (pa_cons (pe_cmpR (op_neOO GE EQ bE hr2) (pv 6) (pv 7) (nomark _)) (pa_cons (pe_cmpR (op_neOO GE EQ bE hr2) (pv 7) (pv 6) (nomark _)) pa_nil))))) pa_nil)) (pe_callB (call_rep2 hgd hu) (by rfl) T.repr (by decide +kernel) (pa_cons (pe_lst (pa_cons (pv 8) (pa_cons (pv 8) (pa_cons (pe_not (pv 8)) (pa_cons (pe_not (pv 8)) pa_nil))))) pa_nil)) (nomark _))
        (pss_one (ps_ret pe_bl))
        pss_nil)
      (pss_cons (ps_set (i := 9) scFits.nd rfl (.inl rfl) (pe_meth (pe_meth (pv 6) Z.cl hV GV hr5 bV .nil pass0 (pa_cons (pe_op op_mul (pv 1) pe_int) pa_nil)) Z.cl hV GV hr5 bV .nil pass0 (pa_cons (pe_op op_mul (pv 1) (pe_un un_neg pe_int)) pa_nil)))
      (pss_cons (ps_if (pt_cmpR op_ne (pe_callB (call_rep2 hgd hu) (by rfl) T.repr (by decide +kernel) (pa_cons (pe_lst (pa_cons (pe_cmpR (op_eqOO GE EQ bE hr2) (pv 6) (pv 6) (nomark _)) (pa_cons (pe_cmpR (op_eqOO GE EQ bE hr2) (pv 6) (pe_make MK GI hr4 (by rfl) Z.at_ bI .nil pass0 (pa_cons (pe_callTy call_list_of (by rfl) T.list (by decide +kernel) (pa_cons (pv 2) pa_nil)) (pa_cons (pe_callTy call_list_of (by rfl) T.list (by decide +kernel) (pa_cons (pv 3) pa_nil)) pa_nil))) (nomark _)) (pa_cons (pe_cmpR (op_eqOO GE EQ bE hr2) (pv 9) (pv 6) (nomark _)) pa_nil)))) pa_nil)) (pe_callB (call_rep2 hgd hu) (by rfl) T.repr (by decide +kernel) (pa_cons (pe_op op_rep (pe_lst (pa_cons pe_bl pa_nil)) pe_int) pa_nil)) (nomark _))
        (pss_one (ps_ret pe_bl))
        pss_nil)
      (pss_cons (ps_for PassesOwn.never rfl (pi_list (pe_lst (pa_cons (pv 2) (pa_cons (pe_tup (pa_cons (pv 2) (pa_cons (pv 3) pa_nil))) (pa_cons (pv 1) (pa_cons (pe_callTy (call_strL hgd hu) (by rfl) nS (by decide +kernel) (pa_cons (pv 2) pa_nil)) (pa_cons pe_non pa_nil))))))) (pg_name (i := 10) scFits.nd rfl (.inl rfl))
        (pss_one (ps_if (pt_cmpR op_ne (pe_callB (call_rep2 hgd hu) (by rfl) T.repr (by decide +kernel) (pa_cons (pe_lst (pa_cons (pe_cmpR (op_eqOT GE EQ bE hr2) (pv 6) (pv 10) (nomark _)) (pa_cons (pe_cmpR (op_eqTO GE EQ bE hr2) (pv 10) (pv 6) (nomark _)) (pa_cons (pe_cmpR (op_neOT GE EQ bE hr2) (pv 6) (pv 10) (nomark _)) (pa_cons (pe_cmpR (op_neTO GE EQ bE hr2) (pv 10) (pv 6) (nomark _)) pa_nil))))) pa_nil)) (pe_callB (call_rep2 hgd hu) (by rfl) T.repr (by decide +kernel) (pa_cons (pe_lst (pa_cons pe_bl (pa_cons pe_bl (pa_cons pe_bl (pa_cons pe_bl pa_nil))))) pa_nil)) (nomark _))
          (pss_one (ps_ret pe_bl))
          pss_nil)))
      (pss_one (ps_ret pe_bl))))))))))), ?_⟩
    refine ⟨_, rfl, ⟨_, _, _, rfl, hW, (by omega), (by decide), (by decide), fun z H1 z0 z1 f1 w1 => ⟨_, _, rfl, rfl, ?_⟩⟩⟩
    refine ⟨_, rfl, _, rfl, ⟨p, _, _, rfl, w1, by omega, by omega, by omega, fun aP ps H3 hp pl nP nPp h3 f3 w3 => ?_⟩⟩
    refine ⟨_, rfl, _, rfl, ⟨p, _, _, _, rfl, w3, by omega, by omega, by omega, by decide, by decide, fun aM ts ms H5 hm nM nMp h5 tp nts f5 w5 => ?_⟩⟩
    have hP5 := f5 _ _ h3 nPp
    refine ⟨_, rfl, _, rfl, _, rfl, ⟨p, aP, aM, _, ps, ts, ms, rfl, w5, by omega, hP5, nPp, h5, nMp, tp, hp, hm, fun H6 r aT aN qs us ns hr6 o => ?_⟩⟩
    refine ⟨r, _, rfl, SqL.of hr6, rfl, _, _, rfl, _, [], rfl, rfl, ?_⟩
    have hP := o.fr _ _ hP5 nPp
    have hM := o.fr _ _ h5 nMp
    replace tp := tp.fr w5 o.fr
    have f06 := ((f1.trans f3).trans f5).trans o.fr
    have w6 := o.well
    have hT := o.hc
    have hN := o.hd
    have up := o.tp
    have hq := o.pa
    have fit2 := o.fit
    have fit : Fit ms := ⟨hm.asc, hm.val, by have := hm.len; omega⟩
    have ml0 := hm.len
    have nl0 := o.len
    have l0 := hp.len0
    clear o hP5 h5 h3 f1 f3 f5 w1 w3 w5 hr6
    -- made and twin
    refine ⟨_, rfl, aP, _, rfl, .inl (SqL.of hP), fun q1 nq1 => ?_⟩
    have s1 := same_new (o := .lst (ps.map V.int)) nq1
    refine ⟨_, rfl, aM, _, rfl, .inl (SqL.of (s1 _ _ hM)), fun q2 nq2 => ?_⟩
    have s2 := s1.trans (same_new (o := .lst (ts.map V.ref)) nq2)
    have hq1 := (same_new (o := .lst (ts.map V.ref)) nq2) _ _ (upd_same (H := H6) (a := q1) (o := .lst (ps.map V.int)))
    refine fun x dx nx ndx _ => made_ok rfl nx ndx hq1 upd_same (tp.same s2) hp fit fun H7 l d cal nl nd s3 => ⟨rfl, ?_⟩
    have s67 := s2.trans s3
    refine ⟨_, rfl, aT, _, rfl, .inl (SqL.of (s67 _ _ hT)), fun q3 nq3 => ?_⟩
    have s4 := same_new (o := .lst (qs.map V.int)) nq3
    refine ⟨_, rfl, aN, _, rfl, .inl (SqL.of (s4 _ _ (s67 _ _ hN))), fun q4 nq4 => ?_⟩
    have s5 := s4.trans (same_new (o := .lst (us.map V.ref)) nq4)
    have hq3 := (same_new (o := .lst (us.map V.ref)) nq4) _ _ (upd_same (H := H7) (a := q3) (o := .lst (qs.map V.int)))
    refine fun y dy ny ndy _ => made_ok rfl ny ndy hq3 upd_same (up.same (s67.trans s5)) hq fit2 fun H8 l' d' cal2 nl2 nd2 s6 => ⟨rfl, _, _, rfl, ?_⟩
    have s78 := s5.trans s6
    have s68 := s67.trans s78
    replace cal := cal.same s78
    replace hP := s68 _ _ hP
    replace hT := s68 _ _ hT
    replace hM := s68 _ _ hM
    replace hN := s68 _ _ hN
    replace tp := tp.same s68
    replace up := up.same s68
    have f08 := f06.trans (Fr.of s68)
    have w8 := w6.same s68
    clear s68 s78 s6 s5 s4 s67 s3 s2 s1 f06 w6 hq3 hq1 nq1 nq2 nq3 nq4 nl nd nl2 nd2 nx ndx ny ndy
    -- want
    refine ⟨_, rfl, _, rfl, _, rfl, _, rfl, ⟨aP, aM, aT, aN, ps, qs, ts, us, ms, ns, rfl, hP, hM, tp, hT, hN, up, l0, fit, fit2, by omega, fun H9 s89 => ?_⟩⟩
    replace cal := cal.same s89
    replace cal2 := cal2.same s89
    replace hP := s89 _ _ hP
    replace hM := s89 _ _ hM
    replace tp := tp.same s89
    have f09 := f08.trans (Fr.of s89)
    have w9 := w8.same s89
    clear hT hN up f08 w8 s89
    have fr1 := realFit (ps := ps) fit
    have fr2 := realFit (ps := qs) fit2
    have rr : realOf ps (realOf ps ms) = realOf ps ms := real_real ms
    obtain ⟨ox, hx⟩ := cal.ob
    obtain ⟨oy, hy⟩ := cal2.ob
    have eb : decide (qs = ps ∧ realOf qs ns = realOf ps ms) = decide (ps = qs ∧ realOf ps ms = realOf qs ns) := decide_eq_decide.mpr ⟨fun g => ⟨g.1.symm, g.2.symm⟩, fun g => ⟨g.1.symm, g.2.symm⟩⟩
    refine ⟨_, rfl, _, rfl, x, y, _, _, _, _, rfl, rfl, hx, hy, ⟨x, l, d, ps, _, .ref y, rfl, cal, .inl ⟨y, l', d', qs, _, rfl, cal2, fr1.asc, fr2.asc, ⟨_, rfl, ?_⟩⟩⟩⟩
    refine ⟨_, rfl, _, rfl, y, x, _, _, _, _, rfl, rfl, hy, hx, ⟨y, l', d', qs, _, .ref x, rfl, cal2, .inl ⟨x, l, d, ps, _, rfl, cal, fr2.asc, fr1.asc, ⟨_, rfl, ?_⟩⟩⟩⟩
    refine ⟨_, rfl, _, rfl, x, y, _, _, _, _, rfl, rfl, hx, hy, ⟨x, l, d, ps, _, .ref y, rfl, cal, .inl ⟨y, l', d', qs, _, rfl, cal2, fr1.asc, fr2.asc, ⟨_, rfl, ?_⟩⟩⟩⟩
    refine ⟨_, rfl, _, rfl, y, x, _, _, _, _, rfl, rfl, hy, hx, ⟨y, l', d', qs, _, .ref x, rfl, cal2, .inl ⟨x, l, d, ps, _, rfl, cal, fr2.asc, fr1.asc, ⟨_, rfl, ?_⟩⟩⟩⟩
    rw [eb]
    generalize decide (ps = qs ∧ realOf ps ms = realOf qs ns) = bb
    refine ⟨(by show 4 ≤ sizeLine; decide), fun g1 m1 => ?_⟩
    have x1 := same_new (o := .lst [.bl bb, .bl bb, .bl (!bb), .bl (!bb)]) m1
    refine ⟨g1, .list [.bool bb, .bool bb, .bool (!bb), .bool (!bb)], 100, 10, rfl, .lst (SqL.of upd_same) (.cons (.bl _) (.cons (.bl _) (.cons (.bl _) (.cons (.bl _) .nil)))), rp_bools4 _ _ _ _, by decide, by decide, ?_⟩
    refine ⟨_, rfl, _, rfl, _, rfl, _, rfl, _, rfl, _, rfl, (by show 4 ≤ sizeLine; decide), fun g2 m2 => ?_⟩
    have x2 := same_new (o := .lst [.bl bb, .bl bb, .bl (!bb), .bl (!bb)]) m2
    refine ⟨g2, .list [.bool bb, .bool bb, .bool (!bb), .bool (!bb)], 100, 10, rfl, .lst (SqL.of upd_same) (.cons (.bl _) (.cons (.bl _) (.cons (.bl _) (.cons (.bl _) .nil)))), rp_bools4 _ _ _ _, by decide, by decide, rfl, _, rfl, ?_⟩
    rw [decide_eq_true rfl]
    refine ite2 (fun g => absurd g (by decide)) (fun _ => ?_)
    have s9A := x1.trans x2
    generalize upd (upd H9 g1 (.lst [.bl bb, .bl bb, .bl (!bb), .bl (!bb)])) g2 (.lst [.bl bb, .bl bb, .bl (!bb), .bl (!bb)]) = HA at s9A ⊢
    replace cal := cal.same s9A
    replace hP := s9A _ _ hP
    replace hM := s9A _ _ hM
    replace tp := tp.same s9A
    have f0A := f09.trans (Fr.of s9A)
    have wA := w9.same s9A
    clear x1 x2 m1 m2 f09 w9 s9A cal2 hx hy ox oy
    -- back
    obtain ⟨ox, hx⟩ := cal.ob
    refine ⟨_, rfl, x, ox, _, rfl, hx, rfl, _, rfl, _, _, rfl, rfl, .inr ⟨by decide, by decide⟩, ⟨x, l, d, ps, _, _, rfl, cal, hp, fr1, fun HB y1 l1 d1 s1 cal1 _ _ _ => ?_⟩⟩
    obtain ⟨oy, hy⟩ := cal1.ob
    refine ⟨y1, oy, _, rfl, hy, rfl, _, rfl, _, rfl, _, _, rfl, rfl, .inr ⟨by decide, by decide⟩, ⟨y1, l1, d1, _, _, _, rfl, cal1, movP_ok hp _, realFit (movM_fit fr1 _), fun HC y2 l2 d2 s2 cal2 _ _ _ => ?_⟩⟩
    have e2 : movP (movP ps ((1 + z) * 4)) ((1 + z) * -4) = ps := by
      rw [movP_movP l0, show (1 + z) * 4 + (1 + z) * -4 = 0 by omega, movP_zero]
    have e3 : realOf (movP (movP ps ((1 + z) * 4)) ((1 + z) * -4)) (movM (realOf (movP ps ((1 + z) * 4)) (movM (realOf ps ms) ((1 + z) * 4))) ((1 + z) * -4)) = realOf ps ms := by
      rw [e2, real_mov l0, rr, movM_movM, show (1 + z) * 4 + (1 + z) * -4 = 0 by omega, movM_zero, rr]
    have cal2 : CalAt C HC y2 l2 d2 ps (realOf ps ms) := by
      have := cal2
      rw [e3] at this
      rw [e2] at this
      exact this
    have sAC := s1.trans s2
    replace cal := cal.same sAC
    replace hP := sAC _ _ hP
    replace hM := sAC _ _ hM
    replace tp := tp.same sAC
    have f0C := f0A.trans (Fr.of sAC)
    have wC := wA.same sAC
    clear sAC s1 s2 hx hy ox oy cal1 e2 e3
    obtain ⟨ox, hx⟩ := cal.ob
    have tt : decide (ps = ps ∧ realOf ps ms = realOf ps ms) = true := decide_eq_true ⟨rfl, rfl⟩
    refine ⟨_, rfl, _, rfl, x, x, _, _, _, _, rfl, rfl, hx, hx, ⟨x, l, d, ps, _, .ref x, rfl, cal, .inl ⟨x, l, d, ps, _, rfl, cal, fr1.asc, fr1.asc, ⟨_, rfl, ?_⟩⟩⟩⟩
    rw [tt]
    refine ⟨_, rfl, _, rfl, aP, _, rfl, .inl (SqL.of hP), fun q1 nq1 => ?_⟩
    have s1 := same_new (o := .lst (ps.map V.int)) nq1
    refine ⟨_, rfl, aM, _, rfl, .inl (SqL.of (s1 _ _ hM)), fun q2 nq2 => ?_⟩
    have s2 := s1.trans (same_new (o := .lst (ts.map V.ref)) nq2)
    have hq1 := (same_new (o := .lst (ts.map V.ref)) nq2) _ _ (upd_same (H := HC) (a := q1) (o := .lst (ps.map V.int)))
    refine fun x3 dx3 nx3 ndx3 _ => made_ok rfl nx3 ndx3 hq1 upd_same (tp.same s2) hp fit fun HD l3 d3 cal3 nl3 nd3 s3 => ⟨rfl, ?_⟩
    have sCD := s2.trans s3
    replace cal := cal.same sCD
    replace cal2 := cal2.same sCD
    obtain ⟨o1, h1⟩ := cal.ob
    obtain ⟨o2, h2⟩ := cal2.ob
    obtain ⟨o3, h3⟩ := cal3.ob
    refine ⟨x, x3, _, _, _, _, rfl, rfl, h1, h3, ⟨x, l, d, ps, _, .ref x3, rfl, cal, .inl ⟨x3, l3, d3, ps, _, rfl, cal3, fr1.asc, fr1.asc, ⟨_, rfl, ?_⟩⟩⟩⟩
    rw [tt]
    refine ⟨_, rfl, _, rfl, y2, x, _, _, _, _, rfl, rfl, h2, h1, ⟨y2, l2, d2, ps, _, .ref x, rfl, cal2, .inl ⟨x, l, d, ps, _, rfl, cal, fr1.asc, fr1.asc, ⟨_, rfl, ?_⟩⟩⟩⟩
    rw [tt]
    refine ⟨(by show 3 ≤ sizeLine; decide), fun g1 m1 => ?_⟩
    have x1 := same_new (o := .lst [.bl (id true), .bl (id true), .bl (id true)]) m1
    refine ⟨g1, .list [.bool true, .bool true, .bool true], 100, 10, rfl, .lst (SqL.of upd_same) (.cons (.bl _) (.cons (.bl _) (.cons (.bl _) .nil))), rp_bools3 true true true, by decide, by decide, ?_⟩
    refine ⟨(by show 1 ≤ sizeLine; decide), fun g2 m2 => ⟨g2, 3, _, rfl, rfl, upd_same, by decide, by decide, (by show 1 * 3 ≤ sizeLine; decide), fun g3 m3 => ?_⟩⟩
    have x2 := same_new (o := .lst [.bl true]) m2
    have x3 := same_new (o := .lst (List.replicate (3 : Int).toNat [V.bl true]).flatten) m3
    refine ⟨g3, .list [.bool true, .bool true, .bool true], 100, 10, rfl, .lst (xs := [.bl true, .bl true, .bl true]) (SqL.of upd_same) (.cons (.bl _) (.cons (.bl _) (.cons (.bl _) .nil))), rp_bools3 true true true, by decide, by decide, rfl, _, rfl, ?_⟩
    rw [decide_eq_true rfl]
    refine ite2 (fun g => absurd g (by decide)) (fun _ => ?_)
    have sDE := (x1.trans x2).trans x3
    have sCE := sCD.trans sDE
    replace cal := cal.same sDE
    replace hP := sCE _ _ hP
    replace hM := sCE _ _ hM
    have f0E := f0C.trans (Fr.of sCE)
    have wE := wC.same sCE
    clear sCE sCD x1 x2 m1 m2 m3 h1 h2 h3 o1 o2 o3 cal2 cal3
    generalize upd (upd (upd HD g1 (.lst [.bl (id true), .bl (id true), .bl (id true)])) g2 (.lst [.bl true])) g3 (.lst (List.replicate (3 : Int).toNat [V.bl true]).flatten) = HE at *
    -- the things
    have rI : Rp (dInts ps) 12 1 := (rp_ints fun v hv => by have := hp.lo v hv; omega).mono hp.len1 (Nat.le_refl _)
    refine ⟨_, rfl, _, rfl, _, rfl, (by show 2 ≤ sizeLine; decide), fun t nt => ?_⟩
    have y1' := same_new (o := .tup [.ref aP, .ref aM]) nt
    refine ⟨_, rfl, _, rfl, aP, dInts ps, 12, 1, rfl, dp_ints (SqL.of (y1' _ _ hP)), rI, by decide, by decide, (by show 5 ≤ sizeLine; decide), fun q nq => ?_⟩
    have y2' := same_new (o := .lst [.ref aP, .ref t, .int (1 + z), .str (dInts ps).shown, .non]) nq
    have hq := upd_same (H := upd HE t (.tup [.ref aP, .ref aM])) (a := q) (o := .lst [.ref aP, .ref t, .int (1 + z), .str (dInts ps).shown, .non])
    have ht := y2' _ _ (upd_same (H := HE) (a := t) (o := .tup [.ref aP, .ref aM]))
    have sEF := y1'.trans y2'
    replace cal := cal.same sEF
    replace hP := sEF _ _ hP
    have f0F := f0E.trans (Fr.of sEF)
    have wF := wE.same sEF
    refine ⟨q, rfl, ⟨_, SqL.of hq⟩, for_list (K := K) (a := q) (xs := [.ref aP, .ref t, .int (1 + z), .str (dInts ps).shown, .non]) (fun i σ J => ∃ y10 : Option V, σ = [some (.ref p), some (.int (1 + z)), some (.ref aP), some (.ref aM), some (.ref aT), some (.ref aN), some (.ref x), some (.ref y), some (.bl bb), some (.ref y2), y10] ∧ Same (upd (upd HE t (.tup [.ref aP, .ref aM])) q (.lst [.ref aP, .ref t, .int (1 + z), .str (dInts ps).shown, .non])) J)
      ⟨none, rfl, Same.refl _⟩ (fun i σ J _ ⟨_, _, h⟩ => SqL.of (h _ _ hq)) ?_ ?_⟩
    · rintro i v σ J hi ⟨y10, rfl, sJ⟩
      have mem : v ∈ [V.ref aP, .ref t, .int (1 + z), .str (dInts ps).shown, .non] := List.mem_of_getElem? hi
      obtain ⟨T', ot⟩ : ∃ T', OTy J v T' := by
        simp only [List.mem_cons, List.not_mem_nil, or_false] at mem
        rcases mem with rfl | rfl | rfl | rfl | rfl
        · exact ⟨_, .lst (sJ _ _ hP)⟩
        · exact ⟨_, .tup (sJ _ _ ht)⟩
        · exact ⟨_, .int _⟩
        · exact ⟨_, .str _⟩
        · exact ⟨_, .non⟩
      have c9 := cal.same sJ
      obtain ⟨o9, h9⟩ := c9.ob
      refine ⟨_, rfl, _, rfl, x, _, _, T', rfl, h9, ot, ⟨x, l, d, ps, _, v, rfl, c9, .inr ⟨T', ot, ⟨_, rfl, ?_⟩⟩⟩⟩
      refine ⟨_, rfl, _, rfl, x, _, _, T', rfl, h9, ot, ⟨x, l, d, ps, _, v, rfl, c9, .inr ⟨T', ot, ⟨_, rfl, ?_⟩⟩⟩⟩
      refine ⟨_, rfl, _, rfl, x, _, _, T', rfl, h9, ot, ⟨x, l, d, ps, _, v, rfl, c9, .inr ⟨T', ot, ⟨_, rfl, ?_⟩⟩⟩⟩
      refine ⟨_, rfl, _, rfl, x, _, _, T', rfl, h9, ot, ⟨x, l, d, ps, _, v, rfl, c9, .inr ⟨T', ot, ⟨_, rfl, ?_⟩⟩⟩⟩
      refine ⟨(by show 4 ≤ sizeLine; decide), fun g1 m1 => ?_⟩
      have x1 := same_new (o := .lst [.bl false, .bl false, .bl true, .bl true]) m1
      refine ⟨g1, .list [.bool false, .bool false, .bool true, .bool true], 100, 10, rfl, .lst (xs := [.bl false, .bl false, .bl true, .bl true]) (SqL.of upd_same) (.cons (.bl _) (.cons (.bl _) (.cons (.bl _) (.cons (.bl _) .nil)))), rp_bools4 false false true true, by decide, by decide, ?_⟩
      refine ⟨(by show 4 ≤ sizeLine; decide), fun g2 m2 => ?_⟩
      have x2 := same_new (o := .lst [.bl false, .bl false, .bl true, .bl true]) m2
      refine ⟨g2, .list [.bool false, .bool false, .bool true, .bool true], 100, 10, rfl, .lst (SqL.of upd_same) (.cons (.bl _) (.cons (.bl _) (.cons (.bl _) (.cons (.bl _) .nil)))), rp_bools4 false false true true, by decide, by decide, rfl, _, rfl, ?_⟩
      rw [decide_eq_true rfl]
      refine ite2 (fun g => absurd g (by decide)) (fun _ => ?_)
      exact ⟨_, rfl, (sJ.trans x1).trans x2⟩
    · rintro σ J ⟨y10, rfl, sJ⟩
      exact k _ (f0F.trans (Fr.of sJ)) ((wF.same sJ).mono (by omega))
end

theorem kit_tyo {K : PySem.W.Frag} {T : String} {C : Addr} (h : PySem.W.subIn K (.type T) (.ref C) = some false) (hd : PySem.W.hasDictIn K C = true) (ht : PySem.W.typeIn K (.ref C) = some (.type "type")) : PySem.W.kitOne K (.type T) (.ref C) = some false := by
  obtain ⟨cd, hc, _⟩ := PySem.W.any_some hd
  have e2 : ((PySem.W.clsIn K C).isSome && PySem.W.typeIn K (.ref C) == some (.type "type")) = true := by rw [hc, ht] <;> rfl
  show (if (Value.type T == Value.ref C) = true then some true else if ((PySem.W.clsIn K C).isSome && PySem.W.typeIn K (.ref C) == some (.type "type")) = true then PySem.W.subIn K (.type T) (.ref C) else none) = some false
  rw [if_pos e2, h]
  rfl
section
theorem all_mk {l : PySem.W.OpenLaw} {w : World} {K : PySem.W.Frag} {h : Heap} {mg : Str → Option Value} {fa C f0 f1 f2 f3 f4 f5 f6 f7 f8 f9 f10 f11 f12 f13 f14 f15 f16 f17 f18 p18 f19 p19 f20 p20 : Addr} (X : K.In h) (G : h.Ns mainGlobals mg) (hfa : mg "law" = some (.ref fa))
    {oc0 kV0 dc0 pm0 cd0 ct0 : Value} {od0 an0 : Option Addr} {sl0 : Array (Option Value)}
    {oc1 kV1 dc1 pm1 cd1 ct1 : Value} {od1 an1 : Option Addr} {sl1 : Array (Option Value)}
    {oc2 kV2 dc2 pm2 cd2 ct2 : Value} {od2 an2 : Option Addr} {sl2 : Array (Option Value)}
    {oc3 kV3 dc3 pm3 cd3 ct3 : Value} {od3 an3 : Option Addr} {sl3 : Array (Option Value)}
    {oc4 kV4 dc4 pm4 cd4 ct4 : Value} {od4 an4 : Option Addr} {sl4 : Array (Option Value)}
    {oc5 kV5 dc5 pm5 cd5 ct5 : Value} {od5 an5 : Option Addr} {sl5 : Array (Option Value)}
    {oc6 kV6 dc6 pm6 cd6 ct6 : Value} {od6 an6 : Option Addr} {sl6 : Array (Option Value)}
    {oc7 kV7 dc7 pm7 cd7 ct7 : Value} {od7 an7 : Option Addr} {sl7 : Array (Option Value)}
    {oc8 kV8 dc8 pm8 cd8 ct8 : Value} {od8 an8 : Option Addr} {sl8 : Array (Option Value)}
    {oc9 kV9 dc9 pm9 cd9 ct9 : Value} {od9 an9 : Option Addr} {sl9 : Array (Option Value)}
    {oc10 kV10 dc10 pm10 cd10 ct10 : Value} {od10 an10 : Option Addr} {sl10 : Array (Option Value)}
    {oc11 kV11 dc11 pm11 cd11 ct11 : Value} {od11 an11 : Option Addr} {sl11 : Array (Option Value)}
    {oc12 kV12 dc12 pm12 cd12 ct12 : Value} {od12 an12 : Option Addr} {sl12 : Array (Option Value)}
    {oc13 kV13 dc13 pm13 cd13 ct13 : Value} {od13 an13 : Option Addr} {sl13 : Array (Option Value)}
    {oc14 kV14 dc14 pm14 cd14 ct14 : Value} {od14 an14 : Option Addr} {sl14 : Array (Option Value)}
    {oc15 kV15 dc15 pm15 cd15 ct15 : Value} {od15 an15 : Option Addr} {sl15 : Array (Option Value)}
    {oc16 kV16 dc16 pm16 cd16 ct16 : Value} {od16 an16 : Option Addr} {sl16 : Array (Option Value)}
    {oc17 kV17 dc17 pm17 cd17 ct17 : Value} {od17 an17 : Option Addr} {sl17 : Array (Option Value)}
    {rs18 : List Value}
    {oc18 kV18 dc18 pm18 cd18 ct18 : Value} {od18 an18 : Option Addr} {sl18 : Array (Option Value)}
    {rs19 : List Value}
    {oc19 kV19 dc19 pm19 cd19 ct19 : Value} {od19 an19 : Option Addr} {sl19 : Array (Option Value)}
    {rs20 : List Value}
    {oc20 kV20 dc20 pm20 cd20 ct20 : Value} {od20 an20 : Option Addr} {sl20 : Array (Option Value)}
    {t_GREATEST_WEEK : Tok}
    {t_GREATEST_SPEED : Tok}
    (aC : PySem.W.nsIn K mainGlobals "Calendar" = some (some (.ref C)))
    (a0 : PySem.W.nsIn K mainGlobals "check_week" = some (some (.ref f0)))
    (l0 : K.lookup f0 = some ⟨oc0, od0, .func (PySem.W.fnOf "check_week" "check_week" (defArgs sChkWeek) (defBody sChkWeek) (defScope sChkWeek) .none kV0 dc0 pm0 an0 cd0 ct0), sl0⟩)
    (c0 : PySem.W.codeIn K cd0 "check_week" = true)
    (k0 : PySem.W.keepIn K (.ref f0) = true)
    (a1 : PySem.W.nsIn K mainGlobals "is_behind" = some (some (.ref f1)))
    (l1 : K.lookup f1 = some ⟨oc1, od1, .func (PySem.W.fnOf "is_behind" "is_behind" (defArgs sBehind) (defBody sBehind) (defScope sBehind) .none kV1 dc1 pm1 an1 cd1 ct1), sl1⟩)
    (c1 : PySem.W.codeIn K cd1 "is_behind" = true)
    (k1 : PySem.W.keepIn K (.ref f1) = true)
    (a2 : PySem.W.nsIn K mainGlobals "is_speed" = some (some (.ref f2)))
    (l2 : K.lookup f2 = some ⟨oc2, od2, .func (PySem.W.fnOf "is_speed" "is_speed" (defArgs sIsSpeed) (defBody sIsSpeed) (defScope sIsSpeed) .none kV2 dc2 pm2 an2 cd2 ct2), sl2⟩)
    (c2 : PySem.W.codeIn K cd2 "is_speed" = true)
    (k2 : PySem.W.keepIn K (.ref f2) = true)
    (a3 : PySem.W.nsIn K mainGlobals "check_speeds" = some (some (.ref f3)))
    (l3 : K.lookup f3 = some ⟨oc3, od3, .func (PySem.W.fnOf "check_speeds" "check_speeds" (defArgs sChkSpeeds) (defBody sChkSpeeds) (defScope sChkSpeeds) .none kV3 dc3 pm3 an3 cd3 ct3), sl3⟩)
    (c3 : PySem.W.codeIn K cd3 "check_speeds" = true)
    (k3 : PySem.W.keepIn K (.ref f3) = true)
    (a4 : PySem.W.nsIn K mainGlobals "check_changes" = some (some (.ref f4)))
    (l4 : K.lookup f4 = some ⟨oc4, od4, .func (PySem.W.fnOf "check_changes" "check_changes" (defArgs sChkChanges) (defBody sChkChanges) (defScope sChkChanges) .none kV4 dc4 pm4 an4 cd4 ct4), sl4⟩)
    (c4 : PySem.W.codeIn K cd4 "check_changes" = true)
    (k4 : PySem.W.keepIn K (.ref f4) = true)
    (a5 : PySem.W.nsIn K mainGlobals "_law_well" = some (some (.ref f5)))
    (l5 : K.lookup f5 = some ⟨oc5, od5, .func (PySem.W.fnOf "_law_well" "_law_well" (defArgs sWell) (defBody sWell) (defScope sWell) .none kV5 dc5 pm5 an5 cd5 ct5), sl5⟩)
    (c5 : PySem.W.codeIn K cd5 "_law_well" = true)
    (k5 : PySem.W.keepIn K (.ref f5) = true)
    (a6 : PySem.W.nsIn K mainGlobals "_law_take" = some (some (.ref f6)))
    (l6 : K.lookup f6 = some ⟨oc6, od6, .func (PySem.W.fnOf "_law_take" "_law_take" (defArgs sTake) (defBody sTake) (defScope sTake) .none kV6 dc6 pm6 an6 cd6 ct6), sl6⟩)
    (c6 : PySem.W.codeIn K cd6 "_law_take" = true)
    (k6 : PySem.W.keepIn K (.ref f6) = true)
    (a7 : PySem.W.nsIn K mainGlobals "_law_number" = some (some (.ref f7)))
    (l7 : K.lookup f7 = some ⟨oc7, od7, .func (PySem.W.fnOf "_law_number" "_law_number" (defArgs sNumber) (defBody sNumber) (defScope sNumber) .none kV7 dc7 pm7 an7 cd7 ct7), sl7⟩)
    (c7 : PySem.W.codeIn K cd7 "_law_number" = true)
    (k7 : PySem.W.keepIn K (.ref f7) = true)
    (a8 : PySem.W.nsIn K mainGlobals "_law_paces" = some (some (.ref f8)))
    (l8 : K.lookup f8 = some ⟨oc8, od8, .func (PySem.W.fnOf "_law_paces" "_law_paces" (defArgs sPaces) (defBody sPaces) (defScope sPaces) .none kV8 dc8 pm8 an8 cd8 ct8), sl8⟩)
    (c8 : PySem.W.codeIn K cd8 "_law_paces" = true)
    (k8 : PySem.W.keepIn K (.ref f8) = true)
    (a9 : PySem.W.nsIn K mainGlobals "_law_marks" = some (some (.ref f9)))
    (l9 : K.lookup f9 = some ⟨oc9, od9, .func (PySem.W.fnOf "_law_marks" "_law_marks" (defArgs sMarks) (defBody sMarks) (defScope sMarks) .none kV9 dc9 pm9 an9 cd9 ct9), sl9⟩)
    (c9 : PySem.W.codeIn K cd9 "_law_marks" = true)
    (k9 : PySem.W.keepIn K (.ref f9) = true)
    (a10 : PySem.W.nsIn K mainGlobals "_law_pace" = some (some (.ref f10)))
    (l10 : K.lookup f10 = some ⟨oc10, od10, .func (PySem.W.fnOf "_law_pace" "_law_pace" (defArgs sPace) (defBody sPace) (defScope sPace) .none kV10 dc10 pm10 an10 cd10 ct10), sl10⟩)
    (c10 : PySem.W.codeIn K cd10 "_law_pace" = true)
    (k10 : PySem.W.keepIn K (.ref f10) = true)
    (a11 : PySem.W.nsIn K mainGlobals "_law_other" = some (some (.ref f11)))
    (l11 : K.lookup f11 = some ⟨oc11, od11, .func (PySem.W.fnOf "_law_other" "_law_other" (defArgs sOther) (defBody sOther) (defScope sOther) .none kV11 dc11 pm11 an11 cd11 ct11), sl11⟩)
    (c11 : PySem.W.codeIn K cd11 "_law_other" = true)
    (k11 : PySem.W.keepIn K (.ref f11) = true)
    (a12 : PySem.W.nsIn K mainGlobals "_law_same" = some (some (.ref f12)))
    (l12 : K.lookup f12 = some ⟨oc12, od12, .func (PySem.W.fnOf "_law_same" "_law_same" (defArgs sSame) (defBody sSame) (defScope sSame) .none kV12 dc12 pm12 an12 cd12 ct12), sl12⟩)
    (c12 : PySem.W.codeIn K cd12 "_law_same" = true)
    (k12 : PySem.W.keepIn K (.ref f12) = true)
    (a13 : PySem.W.nsIn K mainGlobals "_law_fits" = some (some (.ref f13)))
    (l13 : K.lookup f13 = some ⟨oc13, od13, .func (PySem.W.fnOf "_law_fits" "_law_fits" (defArgs sFits) (defBody sFits) (defScope sFits) .none kV13 dc13 pm13 an13 cd13 ct13), sl13⟩)
    (c13 : PySem.W.codeIn K cd13 "_law_fits" = true)
    (k13 : PySem.W.keepIn K (.ref f13) = true)
    (a14 : PySem.W.nsIn K mainGlobals "law" = some (some (.ref f14)))
    (l14 : K.lookup f14 = some ⟨oc14, od14, .func (PySem.W.fnOf "law" "law" (defArgs sLaw) (defBody sLaw) (defScope sLaw) .none kV14 dc14 pm14 an14 cd14 ct14), sl14⟩)
    (c14 : PySem.W.codeIn K cd14 "law" = true)
    (k14 : PySem.W.keepIn K (.ref f14) = true)
    (a15 : PySem.W.findIn K (.ref C) "__init__" = some (some (.ref f15)))
    (i15 : PySem.W.isFn K (.ref f15) = true)
    (j15 : PySem.W.fnIn K f15 = true)
    (l15 : K.lookup f15 = some ⟨oc15, od15, .func (PySem.W.fnOf "__init__" "Calendar.__init__" (defArgs sInit) (defBody sInit) (defScope sInit) .none kV15 dc15 pm15 an15 cd15 ct15), sl15⟩)
    (c15 : PySem.W.codeIn K cd15 "Calendar.__init__" = true)
    (k15 : PySem.W.keepIn K (.ref f15) = true)
    (a16 : PySem.W.findIn K (.ref C) "moved" = some (some (.ref f16)))
    (i16 : PySem.W.isFn K (.ref f16) = true)
    (j16 : PySem.W.fnIn K f16 = true)
    (l16 : K.lookup f16 = some ⟨oc16, od16, .func (PySem.W.fnOf "moved" "Calendar.moved" (defArgs sMoved) (defBody sMoved) (defScope sMoved) .none kV16 dc16 pm16 an16 cd16 ct16), sl16⟩)
    (c16 : PySem.W.codeIn K cd16 "Calendar.moved" = true)
    (k16 : PySem.W.keepIn K (.ref f16) = true)
    (a17 : PySem.W.findIn K (.ref C) "__eq__" = some (some (.ref f17)))
    (i17 : PySem.W.isFn K (.ref f17) = true)
    (j17 : PySem.W.fnIn K f17 = true)
    (l17 : K.lookup f17 = some ⟨oc17, od17, .func (PySem.W.fnOf "__eq__" "Calendar.__eq__" (defArgs sEq) (defBody sEq) (defScope sEq) .none kV17 dc17 pm17 an17 cd17 ct17), sl17⟩)
    (c17 : PySem.W.codeIn K cd17 "Calendar.__eq__" = true)
    (k17 : PySem.W.keepIn K (.ref f17) = true)
    (a18 : PySem.W.findIn K (.ref C) "week" = some (some (.ref p18)))
    (g18 : PySem.W.specialIn K (.ref p18) "__get__" = some (some (.builtin "property.__get__")))
    (t18 : PySem.W.takesIn K (.ref p18) = some true)
    (r18 : PySem.W.recIn K p18 "property" = some (.ref f18 :: rs18))
    (l18 : K.lookup f18 = some ⟨oc18, od18, .func (PySem.W.fnOf "week" "Calendar.week" (defArgs sWeek) (defBody sWeek) (defScope sWeek) .none kV18 dc18 pm18 an18 cd18 ct18), sl18⟩)
    (c18 : PySem.W.codeIn K cd18 "Calendar.week" = true)
    (k18 : PySem.W.keepIn K (.ref f18) = true)
    (a19 : PySem.W.findIn K (.ref C) "speeds" = some (some (.ref p19)))
    (g19 : PySem.W.specialIn K (.ref p19) "__get__" = some (some (.builtin "property.__get__")))
    (t19 : PySem.W.takesIn K (.ref p19) = some true)
    (r19 : PySem.W.recIn K p19 "property" = some (.ref f19 :: rs19))
    (l19 : K.lookup f19 = some ⟨oc19, od19, .func (PySem.W.fnOf "speeds" "Calendar.speeds" (defArgs sSpeeds) (defBody sSpeeds) (defScope sSpeeds) .none kV19 dc19 pm19 an19 cd19 ct19), sl19⟩)
    (c19 : PySem.W.codeIn K cd19 "Calendar.speeds" = true)
    (k19 : PySem.W.keepIn K (.ref f19) = true)
    (a20 : PySem.W.findIn K (.ref C) "changes" = some (some (.ref p20)))
    (g20 : PySem.W.specialIn K (.ref p20) "__get__" = some (some (.builtin "property.__get__")))
    (t20 : PySem.W.takesIn K (.ref p20) = some true)
    (r20 : PySem.W.recIn K p20 "property" = some (.ref f20 :: rs20))
    (l20 : K.lookup f20 = some ⟨oc20, od20, .func (PySem.W.fnOf "changes" "Calendar.changes" (defArgs sChanges) (defBody sChanges) (defScope sChanges) .none kV20 dc20 pm20 an20 cd20 ct20), sl20⟩)
    (c20 : PySem.W.codeIn K cd20 "Calendar.changes" = true)
    (k20 : PySem.W.keepIn K (.ref f20) = true)
    (z_int : PySem.W.nsIn K mainGlobals "int" = some none)
    (z_len : PySem.W.nsIn K mainGlobals "len" = some none)
    (z_abs : PySem.W.nsIn K mainGlobals "abs" = some none)
    (z_max : PySem.W.nsIn K mainGlobals "max" = some none)
    (z_min : PySem.W.nsIn K mainGlobals "min" = some none)
    (z_range : PySem.W.nsIn K mainGlobals "range" = some none)
    (z_repr : PySem.W.nsIn K mainGlobals "repr" = some none)
    (z_list : PySem.W.nsIn K mainGlobals "list" = some none)
    (z_enumerate : PySem.W.nsIn K mainGlobals "enumerate" = some none)
    (z_sum : PySem.W.nsIn K mainGlobals "sum" = some none)
    (z_divmod : PySem.W.nsIn K mainGlobals "divmod" = some none)
    (z_sorted : PySem.W.nsIn K mainGlobals "sorted" = some none)
    (z_zip : PySem.W.nsIn K mainGlobals "zip" = some none)
    (z_set : PySem.W.nsIn K mainGlobals "set" = some none)
    (z_isinstance : PySem.W.nsIn K mainGlobals "isinstance" = some none)
    (z_bool : PySem.W.nsIn K mainGlobals "bool" = some none)
    (z_str : PySem.W.nsIn K mainGlobals "str" = some none)
    (q_GREATEST_WEEK : PySem.W.nsIn K mainGlobals "GREATEST_WEEK" = some (some (.int 12 t_GREATEST_WEEK)))
    (q_GREATEST_SPEED : PySem.W.nsIn K mainGlobals "GREATEST_SPEED" = some (some (.int 3 t_GREATEST_SPEED)))
    (pgC : PySem.W.plainGet K C Str.empty = true)
    (hdC : PySem.W.hasDictIn K C = true)
    (poC : PySem.W.plainOver K C = true)
    (saC : PySem.W.findIn K (.ref C) "__setattr__" = some (some (.builtin "object.__setattr__")))
    (mkC : PySem.W.makesIn K C = true)
    (kcC : PySem.W.keepIn K (.ref C) = true)
    (n_speeds : PySem.W.findIn K (.ref C) "_speeds" = some none)
    (n_changes : PySem.W.findIn K (.ref C) "_changes" = some none)
    (icA : PySem.W.findIn K (.ref C) "__class__" = some (some (.builtin "object.__class__")))
    (icN : PySem.W.specialIn K (.builtin "object.__class__") "__get__" = some (some (.builtin "getset_descriptor.__get__")))
    (icT : PySem.W.takesIn K (.builtin "object.__class__") = some true)
    (icM : PySem.W.mroIn K C (.type "object") = some true)
    (neC : PySem.W.findIn K (.ref C) "__ne__" = some (some (.builtin "object.__ne__")))
    (s1int : PySem.W.subIn K (.ref C) (.type "int") = some false)
    (s2int : PySem.W.subIn K (.type "int") (.ref C) = some false)
    (s1str : PySem.W.subIn K (.ref C) (.type "str") = some false)
    (s2str : PySem.W.subIn K (.type "str") (.ref C) = some false)
    (s1NoneType : PySem.W.subIn K (.ref C) (.type "NoneType") = some false)
    (s2NoneType : PySem.W.subIn K (.type "NoneType") (.ref C) = some false)
    (s1list : PySem.W.subIn K (.ref C) (.type "list") = some false)
    (s2list : PySem.W.subIn K (.type "list") (.ref C) = some false)
    (s1tuple : PySem.W.subIn K (.ref C) (.type "tuple") = some false)
    (s2tuple : PySem.W.subIn K (.type "tuple") (.ref C) = some false)
    (tyC : PySem.W.typeIn K (.ref C) = some (.type "type")) :
    ∃ fd : FuncData, (∀ (s : Shared) (v : Value), BindsTo s fd ⟨[v], []⟩ [("script", v)]) ∧ ∀ base : Heap, K.In base → base.Ns mainGlobals mg → FnG l.prog w K mg base 8 fa fd ["script"] (spLaw K) := by
  have e := hfa.symm.trans (PySem.W.mg_of X G a14)
  cases e
  have F_sChkWeek := fun_mk (st := sChkWeek) l0 c0 k0
  have b_sChkWeek := F_sChkWeek.binds (ps := ["number"]) fun _ _ _ _ _ _ us hl => match us, hl with | [_], _ => rfl
  have m_sChkWeek := PySem.W.mg_of X G a0
  have k_sChkWeek := k0
  have F_sBehind := fun_mk (st := sBehind) l1 c1 k1
  have b_sBehind := F_sBehind.binds (ps := ["changes", "index"]) fun _ _ _ _ _ _ us hl => match us, hl with | [_, _], _ => rfl
  have m_sBehind := PySem.W.mg_of X G a1
  have k_sBehind := k1
  have F_sIsSpeed := fun_mk (st := sIsSpeed) l2 c2 k2
  have b_sIsSpeed := F_sIsSpeed.binds (ps := ["number"]) fun _ _ _ _ _ _ us hl => match us, hl with | [_], _ => rfl
  have m_sIsSpeed := PySem.W.mg_of X G a2
  have k_sIsSpeed := k2
  have F_sChkSpeeds := fun_mk (st := sChkSpeeds) l3 c3 k3
  have b_sChkSpeeds := F_sChkSpeeds.binds (ps := ["speeds"]) fun _ _ _ _ _ _ us hl => match us, hl with | [_], _ => rfl
  have m_sChkSpeeds := PySem.W.mg_of X G a3
  have k_sChkSpeeds := k3
  have F_sChkChanges := fun_mk (st := sChkChanges) l4 c4 k4
  have b_sChkChanges := F_sChkChanges.binds (ps := ["changes"]) fun _ _ _ _ _ _ us hl => match us, hl with | [_], _ => rfl
  have m_sChkChanges := PySem.W.mg_of X G a4
  have k_sChkChanges := k4
  have F_sWell := fun_mk (st := sWell) l5 c5 k5
  have b_sWell := F_sWell.binds (ps := ["script", "place"]) fun _ _ _ _ _ _ us hl => match us, hl with | [_, _], _ => rfl
  have m_sWell := PySem.W.mg_of X G a5
  have k_sWell := k5
  have F_sTake := fun_mk (st := sTake) l6 c6 k6
  have b_sTake := F_sTake.binds (ps := ["well", "many"]) fun _ _ _ _ _ _ us hl => match us, hl with | [_, _], _ => rfl
  have m_sTake := PySem.W.mg_of X G a6
  have k_sTake := k6
  have F_sNumber := fun_mk (st := sNumber) l7 c7 k7
  have b_sNumber := F_sNumber.binds (ps := ["well"]) fun _ _ _ _ _ _ us hl => match us, hl with | [_], _ => rfl
  have m_sNumber := PySem.W.mg_of X G a7
  have k_sNumber := k7
  have F_sPaces := fun_mk (st := sPaces) l8 c8 k8
  have b_sPaces := F_sPaces.binds (ps := ["well", "size"]) fun _ _ _ _ _ _ us hl => match us, hl with | [_, _], _ => rfl
  have m_sPaces := PySem.W.mg_of X G a8
  have k_sPaces := k8
  have F_sMarks := fun_mk (st := sMarks) l9 c9 k9
  have b_sMarks := F_sMarks.binds (ps := ["well", "size", "cap"]) fun _ _ _ _ _ _ us hl => match us, hl with | [_, _, _], _ => rfl
  have m_sMarks := PySem.W.mg_of X G a9
  have k_sMarks := k9
  have F_sPace := fun_mk (st := sPace) l10 c10 k10
  have b_sPace := F_sPace.binds (ps := ["paces", "marks", "at"]) fun _ _ _ _ _ _ us hl => match us, hl with | [_, _, _], _ => rfl
  have m_sPace := PySem.W.mg_of X G a10
  have k_sPace := k10
  have F_sOther := fun_mk (st := sOther) l11 c11 k11
  have b_sOther := F_sOther.binds (ps := ["well", "paces", "marks"]) fun _ _ _ _ _ _ us hl => match us, hl with | [_, _, _], _ => rfl
  have m_sOther := PySem.W.mg_of X G a11
  have k_sOther := k11
  have F_sSame := fun_mk (st := sSame) l12 c12 k12
  have b_sSame := F_sSame.binds (ps := ["paces", "marks", "twins", "pairs"]) fun _ _ _ _ _ _ us hl => match us, hl with | [_, _, _, _], _ => rfl
  have m_sSame := PySem.W.mg_of X G a12
  have k_sSame := k12
  have F_sFits := fun_mk (st := sFits) l13 c13 k13
  have b_sFits := F_sFits.binds (ps := ["well"]) fun _ _ _ _ _ _ us hl => match us, hl with | [_], _ => rfl
  have m_sFits := PySem.W.mg_of X G a13
  have k_sFits := k13
  have F_sLaw := fun_mk (st := sLaw) l14 c14 k14
  have b_sLaw := F_sLaw.binds (ps := ["script"]) fun _ _ _ _ _ _ us hl => match us, hl with | [_], _ => rfl
  have m_sLaw := PySem.W.mg_of X G a14
  have k_sLaw := k14
  have o_sInit : Own K C "__init__" f15 := ⟨a15, i15, j15⟩
  have F_sInit := fun_mk (st := sInit) l15 c15 k15
  have b_sInit := F_sInit.binds (ps := ["self", "speeds", "changes"]) fun _ _ _ _ _ _ us hl => match us, hl with | [_, _, _], _ => rfl
  have h_sInit : Meth K C "__init__" f15 := ⟨a15, i15, k15⟩
  have MK : Mk K C f15 := ⟨mkC, a15, i15, kcC⟩
  have o_sMoved : Own K C "moved" f16 := ⟨a16, i16, j16⟩
  have F_sMoved := fun_mk (st := sMoved) l16 c16 k16
  have b_sMoved := F_sMoved.binds (ps := ["self", "number"]) fun _ _ _ _ _ _ us hl => match us, hl with | [_, _], _ => rfl
  have h_sMoved : Meth K C "moved" f16 := ⟨a16, i16, k16⟩
  have o_sEq : Own K C "__eq__" f17 := ⟨a17, i17, j17⟩
  have F_sEq := fun_mk (st := sEq) l17 c17 k17
  have b_sEq := F_sEq.binds (ps := ["self", "other"]) fun _ _ _ _ _ _ us hl => match us, hl with | [_, _], _ => rfl
  have h_sEq : Meth K C "__eq__" f17 := ⟨a17, i17, k17⟩
  have F_sWeek := fun_mk (st := sWeek) l18 c18 k18
  have b_sWeek := F_sWeek.binds (ps := ["self"]) fun _ _ _ _ _ _ us hl => match us, hl with | [_], _ => rfl
  have P_sWeek : PropOf K C "week" p18 f18 := ⟨a18, g18, t18, _, r18⟩
  have F_sSpeeds := fun_mk (st := sSpeeds) l19 c19 k19
  have b_sSpeeds := F_sSpeeds.binds (ps := ["self"]) fun _ _ _ _ _ _ us hl => match us, hl with | [_], _ => rfl
  have P_sSpeeds : PropOf K C "speeds" p19 f19 := ⟨a19, g19, t19, _, r19⟩
  have F_sChanges := fun_mk (st := sChanges) l20 c20 k20
  have b_sChanges := F_sChanges.binds (ps := ["self"]) fun _ _ _ _ _ _ us hl => match us, hl with | [_], _ => rfl
  have P_sChanges : PropOf K C "changes" p20 f20 := ⟨a20, g20, t20, _, r20⟩
  have n_int : mg "int" = none := PySem.W.mg_none_of X G z_int
  have n_len : mg "len" = none := PySem.W.mg_none_of X G z_len
  have n_abs : mg "abs" = none := PySem.W.mg_none_of X G z_abs
  have n_max : mg "max" = none := PySem.W.mg_none_of X G z_max
  have n_min : mg "min" = none := PySem.W.mg_none_of X G z_min
  have n_range : mg "range" = none := PySem.W.mg_none_of X G z_range
  have n_repr : mg "repr" = none := PySem.W.mg_none_of X G z_repr
  have n_list : mg "list" = none := PySem.W.mg_none_of X G z_list
  have n_enumerate : mg "enumerate" = none := PySem.W.mg_none_of X G z_enumerate
  have n_sum : mg "sum" = none := PySem.W.mg_none_of X G z_sum
  have n_divmod : mg "divmod" = none := PySem.W.mg_none_of X G z_divmod
  have n_sorted : mg "sorted" = none := PySem.W.mg_none_of X G z_sorted
  have n_zip : mg "zip" = none := PySem.W.mg_none_of X G z_zip
  have n_set : mg "set" = none := PySem.W.mg_none_of X G z_set
  have n_isinstance : mg "isinstance" = none := PySem.W.mg_none_of X G z_isinstance
  have n_bool : mg "bool" = none := PySem.W.mg_none_of X G z_bool
  have n_str : mg "str" = none := PySem.W.mg_none_of X G z_str
  have v_GREATEST_WEEK := PySem.W.mg_of X G q_GREATEST_WEEK
  have v_GREATEST_SPEED := PySem.W.mg_of X G q_GREATEST_SPEED
  have mgC := PySem.W.mg_of X G aC
  have clC : Cls K C := ⟨pgC, hdC, poC, saC⟩
  refine ⟨PySem.W.fnOf "law" "law" (defArgs sLaw) (defBody sLaw) (defScope sLaw) .none kV14 dc14 pm14 an14 cd14 ct14, fun s v => .of_eq rfl, fun base _ _ => ?_⟩
  have T : Blt mg := ⟨n_int, n_len, n_abs, n_max, n_min, n_range, n_repr, n_list⟩
  have Q : Con mg := ⟨⟨_, v_GREATEST_WEEK⟩, ⟨_, v_GREATEST_SPEED⟩, n_enumerate⟩
  have Z : Cal K mg C := ⟨clC, n_speeds, n_changes, mgC⟩
  have IS : At l.prog w K mg base 1 "is_speed" ["number"] spIsSpeed _ _ := ⟨ok_isSpeed F_sIsSpeed Q, m_sIsSpeed, k_sIsSpeed, b_sIsSpeed⟩
  have S1 : At l.prog w K mg base 2 "check_speeds" ["speeds"] (spChkS K) _ _ := ⟨ok_chkS F_sChkSpeeds Q T IS ⟨ok_chkW F_sChkWeek Q, m_sChkWeek, k_sChkWeek, b_sChkWeek⟩, m_sChkSpeeds, k_sChkSpeeds, b_sChkSpeeds⟩
  have S2 : At l.prog w K mg base 2 "check_changes" ["changes"] (spChkC K) _ _ := ⟨ok_chkC F_sChkChanges Q T IS ⟨ok_behind F_sBehind, m_sBehind, k_sBehind, b_sBehind⟩, m_sChkChanges, k_sChkChanges, b_sChkChanges⟩
  have GI : FnOk l.prog w K mg base CX0 3 _ _ ["self", "speeds", "changes"] (spInit C K) := ok_init F_sInit Z T S1 S2
  have L : Tk l.prog w K mg base _ _ := ⟨ok_take F_sTake T, m_sTake, k_sTake, b_sTake⟩
  have B : Nb l.prog w K mg base _ _ := ⟨ok_number F_sNumber T L, m_sNumber, k_sNumber, b_sNumber⟩
  have W : At l.prog w K mg base 1 "_law_well" ["script", "place"] (spWell K) _ _ := ⟨ok_well F_sWell T, m_sWell, k_sWell, b_sWell⟩
  have Pa : At l.prog w K mg base 2 "_law_paces" ["well", "size"] spPaces _ _ := ⟨ok_paces F_sPaces T L, m_sPaces, k_sPaces, b_sPaces⟩
  have Ma : At l.prog w K mg base 3 "_law_marks" ["well", "size", "cap"] spMarks _ _ := ⟨ok_marks F_sMarks T L B, m_sMarks, k_sMarks, b_sMarks⟩
  have W1 : Pp l.prog w K mg base C "week" (spWeek C) _ _ _ := ⟨P_sWeek, ok_week F_sWeek Z T, b_sWeek⟩
  have W2 : Pp l.prog w K mg base C "speeds" (spSpeeds C) _ _ _ := ⟨P_sSpeeds, ok_speeds F_sSpeeds Z T, b_sSpeeds⟩
  have W3 : Pp l.prog w K mg base C "changes" (spChanges C) _ _ _ := ⟨P_sChanges, ok_changes F_sChanges Z T, b_sChanges⟩
  have GV : FnOk l.prog w K mg base CX0 5 _ _ ["self", "number"] (spMoved C) := ok_moved F_sMoved T Z MK GI b_sInit W1 W3
  have Pc : At l.prog w K mg base 1 "_law_pace" ["paces", "marks", "at"] spPace _ _ := ⟨ok_pace F_sPace T, m_sPace, k_sPace, b_sPace⟩
  have IC : C8.InsC K C := ⟨clC, icA, icN, icT, icM, if_pos (beq_self_eq_true _)⟩
  have KTC : KT K C := by
    refine ⟨fun T h => ?_, fun T h => ?_, fun T h => ?_⟩ <;> simp only [five, List.mem_cons, List.not_mem_nil, or_false] at h <;> rcases h with rfl | rfl | rfl | rfl | rfl
    · exact kit_tyo s2int hdC tyC
    · exact kit_tyo s2str hdC tyC
    · exact kit_tyo s2NoneType hdC tyC
    · exact kit_tyo s2list hdC tyC
    · exact kit_tyo s2tuple hdC tyC
    · exact s1int
    · exact s1str
    · exact s1NoneType
    · exact s1list
    · exact s1tuple
    · exact s2int
    · exact s2str
    · exact s2NoneType
    · exact s2list
    · exact s2tuple
  have GE : FnOk l.prog w K mg base CX0 1 _ _ ["self", "other"] (spEqX C) := ok_eqX F_sEq Z n_isinstance IC KTC
  have EQ : EqK K C _ := ⟨o_sEq.at_, o_sEq.fn, neC, icM, KTC⟩
  have Ot : At l.prog w K mg base 2 "_law_other" ["well", "paces", "marks"] spOther _ _ := ⟨ok_other F_sOther T L, m_sOther, k_sOther, b_sOther⟩
  have Sa : At l.prog w K mg base 2 "_law_same" ["paces", "marks", "twins", "pairs"] spSame _ _ := ⟨ok_same F_sSame Pc, m_sSame, k_sSame, b_sSame⟩
  have GF : FnG l.prog w K mg base 7 _ _ ["well"] spFits := ok_fits F_sFits T n_str Z L Pa Ma MK GI b_sInit Ot Sa h_sMoved GV b_sMoved EQ GE b_sEq
  exact ok_law (by decide) F_sLaw T W GF m_sFits k_sFits b_sFits
end
end DK
open PySem PySem.W PyProof.Rows
set_option maxRecDepth 100000 in
set_option maxHeartbeats 0 in
theorem PySem.Challenge.cw_dueclocks_k07_equal_calendars_holds : PySem.Challenge.rw_dueclocks_k07_equal_calendars.Holds := by
  w_on; o_law; k_head; (case hw => w_witness2)
  k_fill
  refine DK.walkG (l := PySem.Challenge.rw_dueclocks_k07_equal_calendars) (n := 63) (k := 8) (x := "script") (sp := DK.spLaw) rfl (by decide) rfl ⟨rfl, by decide, by decide⟩ (fun w h Y => PySem.W.kIn_of Y) ?F (fun J H a ns hl hO hS => ⟨a, ns, rfl, DK.Scr.of hO hS, hl, fun _ => rfl⟩)
  case F =>
    intro w mg fa h KX G hmg
    refine' DK.all_mk KX G hmg ?aC ?a0 ?l0 ?c0 ?k0 ?a1 ?l1 ?c1 ?k1 ?a2 ?l2 ?c2 ?k2 ?a3 ?l3 ?c3 ?k3 ?a4 ?l4 ?c4 ?k4 ?a5 ?l5 ?c5 ?k5 ?a6 ?l6 ?c6 ?k6 ?a7 ?l7 ?c7 ?k7 ?a8 ?l8 ?c8 ?k8 ?a9 ?l9 ?c9 ?k9 ?a10 ?l10 ?c10 ?k10 ?a11 ?l11 ?c11 ?k11 ?a12 ?l12 ?c12 ?k12 ?a13 ?l13 ?c13 ?k13 ?a14 ?l14 ?c14 ?k14 ?a15 ?i15 ?j15 ?l15 ?c15 ?k15 ?a16 ?i16 ?j16 ?l16 ?c16 ?k16 ?a17 ?i17 ?j17 ?l17 ?c17 ?k17 ?a18 ?g18 ?t18 ?r18 ?l18 ?c18 ?k18 ?a19 ?g19 ?t19 ?r19 ?l19 ?c19 ?k19 ?a20 ?g20 ?t20 ?r20 ?l20 ?c20 ?k20 ?z_int ?z_len ?z_abs ?z_max ?z_min ?z_range ?z_repr ?z_list ?z_enumerate ?z_sum ?z_divmod ?z_sorted ?z_zip ?z_set ?z_isinstance ?z_bool ?z_str ?q_GREATEST_WEEK ?q_GREATEST_SPEED ?pgC ?hdC ?poC ?saC ?mkC ?kcC ?n_speeds ?n_changes ?icA ?icN ?icT ?icM ?neC ?s1int ?s2int ?s1str ?s2str ?s1NoneType ?s2NoneType ?s1list ?s2list ?s1tuple ?s2tuple ?tyC
    (case aC => k_is)
    (case a0 => k_is)
    (case l0 => k_is)
    (case c0 => k_is)
    (case k0 => k_is)
    (case a1 => k_is)
    (case l1 => k_is)
    (case c1 => k_is)
    (case k1 => k_is)
    (case a2 => k_is)
    (case l2 => k_is)
    (case c2 => k_is)
    (case k2 => k_is)
    (case a3 => k_is)
    (case l3 => k_is)
    (case c3 => k_is)
    (case k3 => k_is)
    (case a4 => k_is)
    (case l4 => k_is)
    (case c4 => k_is)
    (case k4 => k_is)
    (case a5 => k_is)
    (case l5 => k_is)
    (case c5 => k_is)
    (case k5 => k_is)
    (case a6 => k_is)
    (case l6 => k_is)
    (case c6 => k_is)
    (case k6 => k_is)
    (case a7 => k_is)
    (case l7 => k_is)
    (case c7 => k_is)
    (case k7 => k_is)
    (case a8 => k_is)
    (case l8 => k_is)
    (case c8 => k_is)
    (case k8 => k_is)
    (case a9 => k_is)
    (case l9 => k_is)
    (case c9 => k_is)
    (case k9 => k_is)
    (case a10 => k_is)
    (case l10 => k_is)
    (case c10 => k_is)
    (case k10 => k_is)
    (case a11 => k_is)
    (case l11 => k_is)
    (case c11 => k_is)
    (case k11 => k_is)
    (case a12 => k_is)
    (case l12 => k_is)
    (case c12 => k_is)
    (case k12 => k_is)
    (case a13 => k_is)
    (case l13 => k_is)
    (case c13 => k_is)
    (case k13 => k_is)
    (case a14 => k_is)
    (case l14 => k_is)
    (case c14 => k_is)
    (case k14 => k_is)
    (case a15 => k_is)
    (case i15 => k_is)
    (case j15 => k_is)
    (case l15 => k_is)
    (case c15 => k_is)
    (case k15 => k_is)
    (case a16 => k_is)
    (case i16 => k_is)
    (case j16 => k_is)
    (case l16 => k_is)
    (case c16 => k_is)
    (case k16 => k_is)
    (case a17 => k_is)
    (case i17 => k_is)
    (case j17 => k_is)
    (case l17 => k_is)
    (case c17 => k_is)
    (case k17 => k_is)
    (case a18 => k_is)
    (case g18 => k_is)
    (case t18 => k_is)
    (case r18 => k_is)
    (case l18 => k_is)
    (case c18 => k_is)
    (case k18 => k_is)
    (case a19 => k_is)
    (case g19 => k_is)
    (case t19 => k_is)
    (case r19 => k_is)
    (case l19 => k_is)
    (case c19 => k_is)
    (case k19 => k_is)
    (case a20 => k_is)
    (case g20 => k_is)
    (case t20 => k_is)
    (case r20 => k_is)
    (case l20 => k_is)
    (case c20 => k_is)
    (case k20 => k_is)
    (case z_int => k_is)
    (case z_len => k_is)
    (case z_abs => k_is)
    (case z_max => k_is)
    (case z_min => k_is)
    (case z_range => k_is)
    (case z_repr => k_is)
    (case z_list => k_is)
    (case z_enumerate => k_is)
    (case z_sum => k_is)
    (case z_divmod => k_is)
    (case z_sorted => k_is)
    (case z_zip => k_is)
    (case z_set => k_is)
    (case z_isinstance => k_is)
    (case z_bool => k_is)
    (case z_str => k_is)
    (case q_GREATEST_WEEK => k_is)
    (case q_GREATEST_SPEED => k_is)
    (case pgC => k_is)
    (case hdC => k_is)
    (case poC => k_is)
    (case saC => k_is)
    (case mkC => k_is)
    (case kcC => k_is)
    (case n_speeds => k_is)
    (case n_changes => k_is)
    (case icA => k_is)
    (case icN => k_is)
    (case icT => k_is)
    (case icM => k_is)
    (case neC => k_is)
    (case s1int => k_is)
    (case s2int => k_is)
    (case s1str => k_is)
    (case s2str => k_is)
    (case s1NoneType => k_is)
    (case s2NoneType => k_is)
    (case s1list => k_is)
    (case s2list => k_is)
    (case s1tuple => k_is)
    (case s2tuple => k_is)
    (case tyC => k_is)

