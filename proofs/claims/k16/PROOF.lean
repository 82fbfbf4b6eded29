import PyProof.Rows.All
import Wide.All
import OpenK.AllK
import Wide.FinOn
import HandS.ForMost
import HandS.Codes
import HandS.Walk
import HandS.DictComp
import HandS.ListItems
import HandS.Property
import HandS.Wide
import HandS.Style
import HandS.More
import HandS.Defaults
import HandS.MakeKwOnly
import HandS.IsInst
import HandS.OwnEq
import HandS.DeepEq
import HandS.RaiseMore
import HandS.ExcInit
import HandS.ExcIs
import HandS.WordsExc
import HandS.ExcOwn
import HandS.SetBool
import HandS.Strs
import HandS.TryOnly
import HandS.MakeKw
import HandS.SetFor
import PyProof.FactsLen
import HandS.Zip
import KE.DatumOrd
import KE.KDictZip
import HandS.Star
import HandS.Conv
import KE.DataMinKey
import KE.DataCmp
import KE.SortData
import HandS.SortKw
import HandS.Codes
import HandS.OwnEq
import HandS.DeepEq
import PyProof.WalksMore
import PyProof.ListRange
import PySem.Challenge.RW_dueclocks_k16_first_unlike_speeds
set_option Elab.async false
set_option linter.all false
set_option maxRecDepth 100000
set_option maxHeartbeats 4000000
namespace DK
open PySem PySem.Spec PyProof.Rows L2

/-- a def that is only run where no repr is under way -/
structure FnG (P : Program) (w : World) (K : PySem.W.Frag) (mg : Str → Option Value) (b0 : Heap) (k : Nat) (f : Addr)
    (fd : FuncData) (ps : List Str) (sp : Sp) : Prop where
  size : ∀ vs H Q E, sp vs H Q E → vs.length = ps.length
  go : ∀ (B : Around) (stk : List Env) (s : Shared) (H : Hp) (ar : Args) (us : List Value) (vs : List V) (Q : VK) (E : XK),
    B.guards = some [] → Room k B → Env0 P w K mg b0 B stk s H → BindsTo s fd ar (ps.zip us) → Vals vs us → sp vs H Q E →
      codeAny (model P w) B (.call (.ref f) ar) (CR CX0 stk P w H s Q E) s

section
variable {P : Program} {w : World} {K : PySem.W.Frag} {mg : Str → Option Value} {b0 : Heap}

theorem okG {x qual : Str} {st : Stmt} {f : Addr} {fd : FuncData} {N ps : List Str} {k : Nat} {sp : Sp}
    (F : Fun K x qual st f fd) (S : FnScope N ps (defScope st)) (size : ∀ vs H Q E, sp vs H Q E → vs.length = ps.length)
    (body : ∀ (cdv : Value) (B : Around) (stk : List Env) (s : Shared) (H : Hp) (vs : List V) (Q : VK) (E : XK),
      B.guards = some [] → Room k (B.deeper (envOfC qual (defScope st) s.heap.objs.size f cdv)) → sp vs H Q E →
      ∃ t, PSs (cxOf CX0 P w K mg b0 N qual (defScope st) f cdv B stk s H E).nox (defBody st) t ∧
        t { nx := fun _ J => Q .non J, rt := Q } (start N vs) H) : FnG P w K mg b0 (k + 1) f fd ps sp := by
  obtain ⟨oc, od, kV, dc, pm, an, cv, ct, osl, rfl, hf, hcode⟩ := F.ex
  refine ⟨size, fun B stk s H ar us vs Q E hgd hr env hbi hv hs => ?_⟩
  have hlen := size _ _ _ _ hs
  have inK : K.In s.heap := env.mod.kin.keeps fun c u g => (env.bs c u g).1
  have noL : s.heap.NoLimit := env.mod.nolimit.keeps fun c u g => (env.bs c u g).1
  have kinds : ∀ z ∈ ps.zip us, (defScope st).names.lookup z.1 = some .local ∨
      ((defScope st).names.lookup z.1 = some .cell ∧
        ((cellsFrom (s.heap.objs.size + 1) (defScope st).names []).lookup z.1).isSome = true) := by
    rintro ⟨n, v⟩ hz
    rcases S.par n (List.of_mem_zip hz).1 with g | g
    · exact Or.inl g
    · exact Or.inr ⟨g, PySem.W.cellsFrom_some _ _ _ (Or.inl g)⟩
  refine codeAny_call_function hr.depth (inK _ _ hf) rfl S.co S.gen rfl (PySem.W.codeRec_of inK hcode) (hbi _ _ _ _ ?_)
  refine wpAny_newFunctionEnv_cells S.kind kinds fun en hen s2 inc => ?_
  subst hen
  refine ⟨noL.keeps inc.toInCall.keep, codeAny_func ?_⟩
  obtain ⟨t, ht0, hq⟩ := body cv B stk s H vs Q E hgd (hr.deeper _) hs
  have ht := ht0.nox
  have I : Inv (cxOf CX0 P w K mg b0 N qual (defScope st) f cv B stk s H E) [] (start N vs) H s2 := inv_start S hr.hd env hlen hv inc
  refine wpAny_mono (ht.run [] s2 (start N vs) H _ I hq) (fun fl s3 h3 => ?_) fun e s3 h3 => h3
  have close : ∀ {τ : L2.St} {J : Hp} {v : V} {u : Value}, Inv (cxOf CX0 P w K mg b0 N qual (defScope st) f cv B stk s H E) [] τ J s3 →
      RelV v u → Q v J → CE stk P w H s Q u s3 := fun {τ J v u} I3 rv q => ⟨v, J, I3.os, I3.bare, I3.base, I3.hok, rv, q⟩
  cases fl with
  | next =>
    obtain ⟨τ, J, I3, q⟩ := h3
    exact close (v := V.non) (u := Value.none) I3 rfl q
  | ret u =>
    obtain ⟨v, τ, J, I3, rv, q⟩ := h3
    exact close I3 rv q
  | cont =>
    obtain ⟨_, _, _, q⟩ := h3
    exact q.elim
  | brk =>
    obtain ⟨_, _, _, q⟩ := h3
    exact q.elim
end

section
variable {X : Cx}
/-- f(e, ..) of such a def -/
theorem pe_callG {k : Nat} {f : Addr} {fd : FuncData} {ps : List Str} {sp : Sp} {x : Str} {p pos : Pos} {e : Expr} {es : List Expr} {t : TA}
    (F : FnG X.prog X.w X.K X.mg X.base k f fd ps sp) (hgd : X.A.guards = some []) (hr : Room k X.A) (hg : Gl X x)
    (hm : X.mg x = some (.ref f)) (hk : PySem.W.keepIn X.K (.ref f) = true) (hb : Binds X.K fd ps []) (ha : PA X (e :: es) t)
    (hdb : (x == ("__debug__" : Str)) = false := by decide)
    (he : starEach (e :: es) X.env = (false, eval e X.env) :: starEach es X.env := by rfl)
    (hpl : (backTo pos (starEach es X.env)).any (·.1) = false := by rfl) :
    PE X (.Call (.Name x p) (e :: es) [] pos) (tCall sp [] E0 t) := by
  refine ⟨fun pins s σ H Q I h => ?_⟩
  refine wpAny_Call_Name_kw (ld_glob I hg hm ?_ hdb)
  refine PySem.W.callWith_K (h₀ := X.base) I.ok.mod.kin hk (thn (ha.run pos pins s σ H _ I h) fun us s1 hh => ?_) he hpl
  obtain ⟨vs, J, I1, r, q⟩ := hh
  refine ⟨I1.kIn, ?_⟩
  rw [List.append_nil] at q
  have hl : us.length = ps.length := r.length.symm.trans (F.size _ _ _ _ q)
  have bi := hb s1 us I1.kIn (by rw [List.append_nil]; exact hl)
  rw [List.append_nil] at bi
  refine wpAny_call (codeAny_mono (F.go X.A X.stack s1 J ⟨us, []⟩ us vs Q E0 hgd hr I1.env0 bi r q) fun res s2 hq => ?_)
  cases res with
  | error er => exact False.elim hq
  | ok fl =>
    cases fl with
    | ret u => exact I1.after hq
    | next => exact False.elim hq
    | brk => exact False.elim hq
    | cont => exact False.elim hq

/-- repr(x), x a list or a tuple of data -/
def rRepr (K : PySem.W.Frag) : List V → Hp → VK → Prop := fun xs H Q => ∃ (a : Addr) (d : PyData), xs = [.ref a] ∧ Dp K H (.ref a) d ∧
  d.showable = true ∧ d.hasDict = false ∧ d.depth ≤ 60 ∧ d.shown.length ≤ sizeLine ∧ Q (.str d.shown) H
theorem call_repr (hgd : X.A.guards = some []) (hu : X.A.units + 64 < cLine) : CallR X (.builtin "repr") (rRepr X.K) := by
  intro pins s σ H xs us Q I r h
  obtain ⟨a, d, rfl, hd, hs, hn, hdp, hz, q⟩ := h
  cases r with
  | cons r1 r2 =>
    cases r2
    rename_i u
    obtain rfl : u = Value.ref a := r1
    obtain ⟨as, rd⟩ := Dp.reads I d _ _ hd (show RelV (V.ref a) (Value.ref a) from rfl)
    refine repr_of_reads' rd hs (PyData.noDict_hsm hn) hgd (by omega) (fun _ _ e => e) (fun h' u tk hk => ?_) hz
    exact ⟨.str d.shown, H, I.kept hk, ⟨u, rfl⟩, q⟩
end

/-- what is hidden of the heap behind the top: the script alone, where it is not the module's own -/
structure Veil (P : Program) (w : World) (K : PySem.W.Frag) (h : Heap) (a : Addr) (ns : List Int) (H : Hp) : Prop where
  only : Only H
  at_ : SqL K H a (ns.map V.int)
  ok : HOk P w H h
  one : ∀ c, H c ≠ none → c = a
  out : H a ≠ none → K.lookup a = none

theorem veil_of {P : Program} {w : World} {K : PySem.W.Frag} {h : Heap} {a : Addr} {us : List Value} {ns : List Int} (inK : K.In h)
    (ha : h.get? a = some { cls := .type "list", data := .seq us.toArray }) (hi : IntsAre us ns) (hz : ns.length ≤ sizeLine) :
    ∃ H, Veil P w K h a ns H := by
  have rv := vals_ints hi
  cases hk : K.lookup a with
  | some o =>
    have e := (inK a o hk).symm.trans ha
    cases e
    refine ⟨fun _ => none, fun _ => Or.inl rfl, Or.inr ⟨_, us.toArray, _, hk, rfl, rfl, rfl, ?_, ?_⟩, fun c u z => ?_, fun c z => absurd rfl z, fun z => absurd rfl z⟩
    · rw [List.size_toArray, hi.length]
      exact hz
    · simpa using rv
    · exact nomatch (show (none : Option HO) = some u from z)
  | none =>
    let O : Obj := { cls := .type "list", data := .seq us.toArray }
    let H : Hp := fun c => if c = a then some (.frz O (.lst (ns.map V.int))) else none
    have hA : H a = some (.frz O (.lst (ns.map V.int))) := if_pos rfl
    have hN : ∀ c, c ≠ a → H c = none := fun c g => if_neg g
    refine ⟨H, fun c => ?_, Or.inl (Or.inr ⟨O, hA⟩), fun c u z => ?_, fun c z => ?_, fun _ => hk⟩
    · by_cases g : c = a
      · subst g
        exact Or.inr ⟨_, _, hA⟩
      · exact Or.inl (hN c g)
    · by_cases g : c = a
      · subst g
        have z2 := hA.symm.trans z
        cases z2
        refine ⟨ha, ?_, us, _, rv, ha⟩
        rw [List.length_map]
        exact hz
      · exact nomatch (hN c g).symm.trans z
    · by_cases g : c = a
      · exact g
      · exact absurd (hN c g) z

theorem lawG {P : Program} {w : World} {K : PySem.W.Frag} {mg mb : Str → Option Value} {k : Nat} {fa a : Addr} {fd : FuncData} {x : Str} {sp : Sp} {s : Shared} {us : List Value} {ns : List Int}
    (inK : K.In s.heap) (hmg : s.heap.Ns mainGlobals mg) (hmb : s.heap.Ns builtinsNs mb) (hbo : ∀ y : Str, y ≠ "__name__" → mb y = bootBuiltins y)
    (noL : s.heap.NoLimit) (gen : s.gens = #[]) (ha : s.heap.get? a = some { cls := .type "list", data := .seq us.toArray })
    (hi : IntsAre us ns) (hz : ns.length ≤ sizeLine) (hr : Room k callerA)
    (F : ∀ b0 : Heap, K.In b0 → b0.Ns mainGlobals mg → FnG P w K mg b0 k fa fd [x] sp)
    (bind : ∀ (t : Shared) (u : Value), BindsTo t fd ⟨[u], []⟩ [(x, u)])
    (hsp : ∀ H : Hp, Only H → SqL K H a (ns.map V.int) → sp [.ref a] H (fun v _ => v = .bl true) E0) :
    codeAny (model P w) callerA (.call (.ref fa) ⟨[.ref a], []⟩)
      (fun r t => r = .ok (.ret (.bool true)) ∧ OldK s.heap t.heap ∧ t.os = s.os ∧ AllBare t.gens) s := by
  obtain ⟨H, W⟩ := veil_of (P := P) (w := w) inK ha hi hz
  have through : ∀ {c : Addr} {o : Obj}, s.heap.get? c = some o → H c = none → (hidT s.heap H).get? c = some o := fun g n => hidT_get g n
  have dicts : ∀ {c : Addr} {o : Obj} {es : Array DictEntry} {ep : Nat}, s.heap.get? c = some o → o.data = .dict es ep → H c = none := by
    intro c o es ep g d
    by_cases n : H c = none
    · exact n
    · have := W.one c n
      subst this
      rw [ha] at g
      cases g
      exact nomatch d
  have names : ∀ {c : Addr} {m : Str → Option Value}, s.heap.Ns c m → (hidT s.heap H).Ns c m := fun {c m} ⟨o, es, ep, g, d, r⟩ => ⟨o, es, ep, through g (dicts g d), d, r⟩
  have inB : K.In (hidT s.heap H) := by
    intro c o g
    refine through (inK c o g) ?_
    by_cases n : H c = none
    · exact n
    · have e := W.one c n
      subst e
      rw [W.out n] at g
      exact nomatch g
  have md : Mod K mg (hidT s.heap H) := ⟨inB, names hmg, ⟨mb, names hmb, hbo⟩, noL.elim fun mc q => ⟨mc, names q.1, q.2⟩⟩
  have nil : ∀ c : Addr, c ∉ ([] : List Addr) := fun c q => nomatch q
  have env : Env0 P w K mg (hidT s.heap H) callerA [] s H :=
    ⟨rfl, md, fun c o g => of_hidT g, Nat.le_of_eq (hidT_size _ _), trivial, fun c q => absurd q (nil c), W.ok, .of_eq gen⟩
  refine codeAny_mono ((F _ inB (names hmg)).go callerA [] s H ⟨[.ref a], []⟩ [.ref a] [.ref a] _ _ rfl hr env (bind s (.ref a)) (.cons rfl .nil) (hsp H W.only W.at_)) fun r t q => ?_
  rcases r with er | fl
  · exact False.elim q
  · rcases fl with _ | _ | _ | u
    iterate 3 exact False.elim q
    · obtain ⟨v, H', os, bare, un, ok2, rv, rfl⟩ := q
      obtain rfl : u = Value.bool true := rv
      refine ⟨rfl, OldK.of_keep fun c o g => ?_, os, bare⟩
      by_cases n : H c = none
      · exact un.keep c o g n (fun z => absurd z (nil c)) (nil c)
      · rcases W.only c with z | ⟨O, xs, z⟩
        · exact absurd z n
        · have e1 := (W.ok c _ z).1
          have e2 := (ok2 c _ (un.frzs c O _ z)).1
          rw [g] at e1
          cases e1
          exact e2
/-- the end of a law row -/
theorem walkG {l : PySem.W.OpenLaw} {n k : Nat} {q : Program} {loose : List Str} {XP : (Str → Option Value) → Heap → Prop} {YP : World → Heap → Prop} {d : DefRec} {K : Params → PySem.W.Frag} {sp : PySem.W.Frag → Sp} {x : Str}
    (hn : l.most = some n) (hn2 : n ≤ sizeLine) (hdf : d.params.defaults = []) (hr : Room k callerA)
    (hY : ∀ (w : World) (h : Heap), YP w h → (K w.params).In h)
    (F : ∀ (w : World) (mg : Str → Option Value) (fa : Addr) (h : Heap), (K w.params).In h → h.Ns mainGlobals mg → mg d.name = some (.ref fa) →
      ∃ fd : FuncData, (∀ (t : Shared) (u : Value), BindsTo t fd ⟨[u], []⟩ [(x, u)]) ∧
        ∀ b0 : Heap, (K w.params).In b0 → b0.Ns mainGlobals mg → FnG l.prog w (K w.params) mg b0 k fa fd [x] (sp (K w.params)))
    (hsp : ∀ (J : PySem.W.Frag) (H : Hp) (a : Addr) (ns : List Int), ns.length ≤ n → Only H → SqL J H a (ns.map V.int) → sp J [.ref a] H (fun v _ => v = .bl true) E0) :
    PySem.W.WalkO q loose XP YP l.row.toRowW d [] (fun f vs => PySem.call f vs) := by
  refine Att.attach_call hn hdf fun w s₀ s₁ mg mb fa o pm cd doc a vs ns G Y ho hd hcd hmg hobj hints hlen hg => ?_
  have inK := hY w _ Y
  obtain ⟨fd, bi, hF⟩ := F w mg fa _ inK G.T.g hmg
  exact lawG inK G.T.g G.T.b G.T.builtins G.T.nolimit hg hobj hints (Nat.le_trans hlen hn2) hr hF bi fun H hO hS => hsp _ H a ns hlen hO hS
def top (i : Nat) : Stmt := PySem.Challenge.pw_dueclocks_k16_first_unlike_speeds.main.body.getD i (.Pass ⟨0, 0, 0, 0⟩)
abbrev sWell : Stmt := top 27
abbrev sTake : Stmt := top 28
abbrev sNumber : Stmt := top 29
abbrev sPaces : Stmt := top 30
abbrev sMarks : Stmt := top 31
abbrev sFits : Stmt := top 37
abbrev sLaw : Stmt := top 38
abbrev sIsSpeed : Stmt := top 19
abbrev sChkSpeeds : Stmt := top 20
abbrev sChkChanges : Stmt := top 21
abbrev sInit : Stmt := inClass (top 23) 0
abbrev sWeek : Stmt := inClass (top 23) 1
abbrev sSpeeds : Stmt := inClass (top 23) 2
abbrev sChanges : Stmt := inClass (top 23) 3
abbrev sGet : Stmt := inClass (top 23) 4
abbrev sHas : Stmt := inClass (top 23) 6
abbrev sEq : Stmt := inClass (top 23) 10
abbrev sErr : Stmt := inClass (top 2) 0
abbrev sPace : Stmt := top 32
abbrev sUnlike : Stmt := top 25
abbrev sWeeks : Stmt := top 11
abbrev sNearness : Stmt := top 15
abbrev sNearest : Stmt := top 16
abbrev sMoved : Stmt := inClass (top 23) 9
abbrev sOr : Stmt := inClass (top 23) 7
abbrev sAnd : Stmt := inClass (top 23) 8
abbrev sPairs : Stmt := top 22
abbrev sChanged : Stmt := top 14
abbrev sTwinL : Stmt := top 33
abbrev sNearL : Stmt := top 34
abbrev sHidden : Stmt := top 36
abbrev sJoined : Stmt := top 35
abbrev sChkWeek : Stmt := top 10
abbrev sBehind : Stmt := top 12
/-! ### the well -/
def Fr (p : Addr) (H H' : Hp) : Prop := ∀ b o, H b = some o → b ≠ p → H' b = some o
theorem Fr.refl (p : Addr) (H : Hp) : Fr p H H := fun _ _ h _ => h
theorem Fr.trans {p : Addr} {H H1 H2 : Hp} (a : Fr p H H1) (b : Fr p H1 H2) : Fr p H H2 := fun c o h g => b c o (a c o h g) g
theorem Fr.of {p : Addr} {H H' : Hp} (a : Same H H') : Fr p H H' := fun c o h _ => a c o h
theorem Fr.at_ {p : Addr} {o : HO} {H : Hp} : Fr p H (upd H p o) := fun b u h g => by
  rw [upd_ne g]
  exact h
theorem Fr.new {p q : Addr} {o : HO} {H : Hp} (h : H q = none) : Fr p H (upd H q o) := fun b u e _ => by
  rw [upd_ne (ne_of_none e h)]
  exact e
theorem Fr.seq {K : PySem.W.Frag} {p a : Addr} {H H' : Hp} {xs : List V} (f : Fr p H H') (g : a ≠ p) (h : SqL K H a xs) : SqL K H' a xs := by
  rcases h with (h | ⟨o, h⟩) | h
  · exact .inl (.inl (f _ _ h g))
  · exact .inl (.inr ⟨o, f _ _ h g⟩)
  · exact .inr h
theorem same_new {H : Hp} {q : Addr} {o : HO} (h : H q = none) : Same H (upd H q o) := fun b u e => by
  rw [upd_ne (ne_of_none e h)]
  exact e
/-- a well at p, from which n or fewer draws were mixed -/
def Well (H : Hp) (p : Addr) (n : Nat) : Prop := ∃ a b c : Int, H p = some (.lst [.int a, .int b, .int c]) ∧ 0 ≤ b ∧ b < 2 ^ 62 ∧ 0 ≤ c ∧ c ≤ n
theorem Well.mono {H : Hp} {p : Addr} {n m : Nat} (h : Well H p n) (g : n ≤ m) : Well H p m := by
  obtain ⟨a, b, c, h1, h2, h3, h4, h5⟩ := h
  exact ⟨a, b, c, h1, h2, h3, h4, by omega⟩
theorem Well.same {H H' : Hp} {p : Addr} {n : Nat} (h : Well H p n) (g : Same H H') : Well H' p n := by
  obtain ⟨a, b, c, h1, h2⟩ := h
  exact ⟨a, b, c, g _ _ h1, h2⟩
theorem Well.new {H : Hp} {p q : Addr} {n : Nat} {o : HO} (h : Well H p n) (g : H q = none) : Well (upd H q o) p n := h.same (same_new g)
theorem Well.upd_ne {H : Hp} {p q : Addr} {n : Nat} {o : HO} (h : Well H p n) (g : p ≠ q) : Well (upd H q o) p n := by
  obtain ⟨a, b, c, h1, h2⟩ := h
  exact ⟨a, b, c, by rw [L2.upd_ne g]; exact h1, h2⟩
theorem Well.ne {H : Hp} {p q : Addr} {n : Nat} (h : Well H p n) (g : H q = none) : p ≠ q := by
  obtain ⟨a, b, c, h1, h2⟩ := h
  exact ne_of_none h1 g
def spTake : Sp := fun vs H Q _ => ∃ (p : Addr) (n : Nat) (m : Int), vs = [.ref p, .int m] ∧ Well H p n ∧ n ≤ 10 ^ 9 ∧ 0 < m ∧ m < 2 ^ 200 ∧
  ∀ (r : Int) (H' : Hp), 0 ≤ r → r < m → Fr p H H' → Well H' p (n + 1) → Q (.int r) H'
theorem spTake_ok {p : Addr} {n : Nat} {m : Int} {H : Hp} {Q : VK} {E : XK} (h : Well H p n) (hn : n ≤ 10 ^ 9) (h0 : 0 < m) (h1 : m < 2 ^ 200)
    (q : ∀ (r : Int) (H' : Hp), 0 ≤ r → r < m → Fr p H H' → Well H' p (n + 1) → Q (.int r) H') : spTake [.ref p, .int m] H Q E := ⟨p, n, m, rfl, h, hn, h0, h1, q⟩
/-- the built-in names are still the built-in ones -/
structure Blt (mg : Str → Option Value) : Prop where
  int : mg "int" = none
  len : mg "len" = none
  abs : mg "abs" = none
  max : mg "max" = none
  min : mg "min" = none
  range : mg "range" = none
  repr : mg "repr" = none
  list : mg "list" = none
theorem set0 (a b c v : V) : ([a, b, c] : List V).set 0 v = [v, b, c] := rfl
theorem set2 (a b c v : V) : ([a, b, c] : List V).set 2 v = [a, b, v] := rfl
section
variable {P : Program} {w : World} {K : PySem.W.Frag} {mg : Str → Option Value} {base : Heap}
theorem scTake : FnScope ["well", "many", "taken", "mixed"] ["well", "many"] (defScope sTake) := ⟨rfl, rfl, rfl, by decide +kernel, rfl, by decide +kernel, by decide +kernel⟩
theorem ok_take {f : Addr} {fd : FuncData} (F : Fun K "_law_take" "_law_take" sTake f fd) (T : Blt mg) : FnOk P w K mg base CX0 1 f fd ["well", "many"] spTake := by
  refine F.ok scTake (fun vs H Q E h => ?_) (fun cdv A outer s H vs Q E hr h => ?_)
  · obtain ⟨p, n, m, rfl, _⟩ := h
    rfl
  · obtain ⟨p, n, m, rfl, ⟨a, b, c, hp, b0, b1, c0, c1⟩, hn, m0, m1, k⟩ := h
    refine ⟨_, pss_cons (ps_if (pt_cmpR op_gt (pe_ix ix_list (pv 0) pe_int (fun _ _ => rfl)) pe_int (nomark _))
      (pss_cons (ps_set (i := 2) scTake.nd rfl (.inl rfl) (pe_op op_mod (pe_callTy call_int1 (by rfl) T.int (by decide +kernel) (pa_cons (pe_ix ix_list (pv 0) pe_int (fun _ _ => rfl)) pa_nil)) (pv 1)))
      (pss_cons (ps_asg (pe_op op_fdivW (pe_ix ix_list (pv 0) pe_int (fun _ _ => rfl)) (pv 1)) (pg_sub (pv 0) pe_int set_list))
      (pss_one (ps_ret (pv 2))))) pss_nil)
      (pss_cons (ps_asg (pe_op op_add (pe_ix ix_list (pv 0) pe_int (fun _ _ => rfl)) pe_int) (pg_sub (pv 0) pe_int set_list))
      (pss_cons (ps_set (i := 3) scTake.nd rfl (.inl rfl) (pe_op op_add (pe_op op_pow (pe_op op_add (pe_ix ix_list (pv 0) pe_int (fun _ _ => rfl)) (pe_op op_mul pe_int (pe_ix ix_list (pv 0) pe_int (fun _ _ => rfl)))) pe_int) (pe_op op_mul pe_int (pe_ix ix_list (pv 0) pe_int (fun _ _ => rfl)))))
      (pss_cons (ps_set (i := 3) scTake.nd rfl (.inl rfl) (pe_op op_add (pe_op op_mod (pe_callTy call_int1 (by rfl) T.int (by decide +kernel) (pa_cons (pv 3) pa_nil)) pe_int) (pe_op op_mul pe_int (pe_ix ix_list (pv 0) pe_int (fun _ _ => rfl)))))
      (pss_cons (ps_set (i := 3) scTake.nd rfl (.inl rfl) (pe_op op_mod (pe_callTy call_int1 (by rfl) T.int (by decide +kernel) (pa_cons (pe_op op_pow (pv 3) pe_int) pa_nil)) pe_int))
      (pss_one (ps_ret (pe_op op_mod (pe_callTy call_int1 (by rfl) T.int (by decide +kernel) (pa_cons (pe_op op_fdiv (pv 3) pe_int) pa_nil)) (pv 1)))))))), ?_⟩
    refine ⟨_, rfl, p, _, 0, _, rfl, rfl, SqL.of hp, atI_nat (j := 0) rfl, _, _, rfl, rfl, _, rfl, ite2 (fun hw => ?_) (fun hw => ?_)⟩
    · refine ⟨_, rfl, p, _, 0, _, rfl, rfl, SqL.of hp, atI_nat (j := 0) rfl, .inl ⟨_, rfl, _, rfl, a, m, rfl, rfl, m0, ?_⟩⟩
      refine ⟨_, rfl, p, _, 0, _, rfl, rfl, SqL.of hp, atI_nat (j := 0) rfl, _, rfl, a, m, rfl, rfl, wide_div (b := 200) m0 (by omega) (by decide) (by decide), ?_⟩
      refine ⟨_, rfl, p, _, 0, 0, rfl, rfl, hp, rfl, ?_⟩
      refine ⟨_, rfl, k _ _ (Int.emod_nonneg _ (by omega)) (Int.emod_lt_of_pos _ m0) Fr.at_ ⟨a / m, b, c, upd_same, b0, b1, c0, by omega⟩⟩
    · refine ⟨_, rfl, p, _, 2, _, rfl, rfl, SqL.of hp, atI_nat (j := 2) rfl, _, _, rfl, rfl, ?_⟩
      refine ⟨_, rfl, p, _, 2, 2, rfl, rfl, hp, rfl, ?_⟩
      rw [set2]
      generalize hH : upd H p (.lst [.int a, .int b, .int (c + 1)]) = H1
      have h1 : H1 p = some (.lst [.int a, .int b, .int (c + 1)]) := by rw [← hH]; exact upd_same
      have e1 : (0 : Int) ≤ 6700417 * (c + 1) := by omega
      refine ⟨_, rfl, p, _, 1, _, rfl, rfl, SqL.of h1, atI_nat (j := 1) rfl, _, rfl, p, _, 2, _, rfl, rfl, SqL.of h1, atI_nat (j := 2) rfl, _, _, rfl, rfl, .inl ⟨by decide, by decide⟩, _, _, rfl, rfl, _, _, rfl, rfl, ⟨by decide, by decide, by omega⟩,
        _, rfl, p, _, 2, _, rfl, rfl, SqL.of h1, atI_nat (j := 2) rfl, _, _, rfl, rfl, .inl ⟨by decide, by decide⟩, _, _, rfl, rfl, ?_⟩
      refine ⟨_, rfl, .inl ⟨_, rfl, _, _, rfl, rfl, (by show (0 : Int) < 2305843009213693951; decide), _, rfl, p, _, 2, _, rfl, rfl, SqL.of h1, atI_nat (j := 2) rfl, _, _, rfl, rfl, .inl ⟨by decide, by decide⟩, _, _, rfl, rfl, ?_⟩⟩
      generalize hx : ((b + 6700417 * (c + 1)) ^ (3 : Int).toNat + 97 * (c + 1)) % 2305843009213693951 = x
      have x0 : 0 ≤ x := by rw [← hx]; exact Int.emod_nonneg _ (by decide)
      have x1 : x < 2305843009213693951 := by rw [← hx]; exact Int.emod_lt_of_pos _ (by decide)
      refine ⟨_, rfl, _, _, rfl, rfl, ⟨by decide, by decide, by omega⟩, .inl ⟨_, rfl, _, _, rfl, rfl, (by show (0 : Int) < 618970019642690137449562111; decide), ?_⟩⟩
      refine ⟨_, rfl, _, _, rfl, rfl, ⟨by decide, by decide⟩, .inl ⟨_, rfl, _, rfl, _, _, rfl, rfl, m0, ?_⟩⟩
      refine k _ _ (Int.emod_nonneg _ (by omega)) (Int.emod_lt_of_pos _ m0) ?_ ⟨a, b, c + 1, h1, b0, b1, by omega, by omega⟩
      rw [← hH]
      exact Fr.at_
end

/-! ### the draws of a law -/
theorem atI_ints {xs : List Int} {i : Int} (h0 : 0 ≤ i) (h1 : i < xs.length) : ∃ v, v ∈ xs ∧ xs[i.toNat]? = some v ∧ atI (xs.map V.int) i = some (.int v) := by
  obtain ⟨j, rfl⟩ : ∃ j : Nat, i = (j : Int) := ⟨i.toNat, by omega⟩
  have hj : j < xs.length := by omega
  refine ⟨xs[j], List.getElem_mem hj, by simp [hj], atI_nat (j := j) ?_⟩
  rw [List.getElem?_map, List.getElem?_eq_getElem hj]
  rfl
def spWell (K : PySem.W.Frag) : Sp := fun vs H Q _ => ∃ (a : Addr) (ns : List Int) (i : Int), vs = [.ref a, .int i] ∧ SqL K H a (ns.map V.int) ∧ ns.length ≤ 63 ∧ 0 ≤ i ∧ i ≤ 63 ∧
  ∀ (p : Addr) (H' : Hp), H p = none → Same H H' → Well H' p 0 → Q (.ref p) H'
def spNumber : Sp := fun vs H Q _ => ∃ (p : Addr) (n : Nat), vs = [.ref p] ∧ Well H p n ∧ n ≤ 10 ^ 8 ∧
  ∀ (r : Int) (H' : Hp), -10 ^ 30 < r → r < 10 ^ 30 → Fr p H H' → Well H' p (n + 4) → Q (.int r) H'
/-- a list of speeds that a calendar may have -/
structure Paces (xs : List Int) : Prop where
  lo : ∀ v ∈ xs, 0 ≤ v ∧ v ≤ 3
  pos : ∃ v ∈ xs, v ≠ 0
  len0 : 0 < xs.length
  len1 : xs.length ≤ 12
def spPaces : Sp := fun vs H Q _ => ∃ (p : Addr) (n : Nat) (z : Int), vs = [.ref p, .int z] ∧ Well H p n ∧ n ≤ 10 ^ 8 ∧ 1 ≤ z ∧ z ≤ 12 ∧
  ∀ (q : Addr) (xs : List Int) (H' : Hp), Paces xs → (xs.length : Int) = z → H q = none → q ≠ p → H' q = some (.lst (xs.map V.int)) → Fr p H H' → Well H' p (n + 20) → Q (.ref q) H'
section
variable {P : Program} {w : World} {K : PySem.W.Frag} {mg : Str → Option Value} {base : Heap}
theorem scWell : FnScope ["script", "place", "cell", "seed"] ["script", "place"] (defScope sWell) := ⟨rfl, rfl, rfl, by decide +kernel, rfl, by decide +kernel, by decide +kernel⟩
theorem ok_well {f : Addr} {fd : FuncData} (F : Fun K "_law_well" "_law_well" sWell f fd) (T : Blt mg) : FnOk P w K mg base CX0 1 f fd ["script", "place"] (spWell K) := by
  refine F.ok scWell (fun vs H Q E h => ?_) (fun cdv A outer s H vs Q E hr h => ?_)
  · obtain ⟨a, ns, i, rfl, _⟩ := h
    rfl
  · obtain ⟨a, ns, i, rfl, hS, hl, i0, i1, k⟩ := h
    refine ⟨_, pss_cons (ps_set (i := 2) scWell.nd rfl (.inl rfl) pe_int)
      (C8.pss_cut (ps_if (pt_cmpR op_lt (pv 1) (pe_callB call_len_seq (by rfl) T.len PySem.boot_len (pa_cons (pv 0) pa_nil)) (nomark _))
        (pss_one (ps_set (i := 2) scWell.nd rfl (.inl rfl) (pe_ix ix_list (pv 0) (pv 1) (fun _ _ => rfl)))) pss_nil)
      (pss_cons (ps_set (i := 3) scWell.nd rfl (.inl rfl) (pe_op op_mod (pe_callTy call_int1 (by rfl) T.int (by decide +kernel) (pa_cons (pe_op op_add (pe_op op_mul (pe_callB call_abs (by rfl) T.abs (by decide +kernel) (pa_cons (pv 2) pa_nil)) pe_int) (pe_callTy call_int1 (by rfl) T.int (by decide +kernel) (pa_cons (pe_cmpR op_lt (pv 2) pe_int (nomark _)) pa_nil))) pa_nil)) pe_int))
      (pss_one (ps_ret (pe_lst (pa_cons (pe_op op_mul (pv 2) (pe_callTy call_int1 (by rfl) T.int (by decide +kernel) (pa_cons (pe_cmpR op_ge (pv 2) (pe_op op_pow pe_int pe_int) (nomark _)) pa_nil))) (pa_cons (pe_op op_add (pv 3) (pe_op op_mul pe_int (pv 1))) (pa_cons pe_int pa_nil)))))))), ?_⟩
    refine ⟨fun σ H1 => H1 = H ∧ ∃ z : Int, σ = [some (.ref a), some (.int i), some (.int z), none], ?_, ?_⟩
    · refine ⟨_, rfl, _, rfl, a, _, rfl, .inl hS, _, _, rfl, rfl, _, rfl, ite2 (fun hc => ?_) (fun hc => ?_)⟩
      · have hi : i < ns.length := by
          have := of_decide_eq_true hc
          rw [List.length_map] at this
          exact this
        obtain ⟨v, hv, hv2, e⟩ := atI_ints i0 hi
        exact ⟨_, rfl, _, rfl, a, _, i, _, rfl, rfl, hS, e, rfl, v, rfl⟩
      · exact ⟨rfl, 0, rfl⟩
    · rintro σ H1 ⟨rfl, z, rfl⟩
      refine ⟨_, rfl, _, rfl, _, _, rfl, rfl, .inr ⟨by decide, by decide⟩, _, rfl, _, _, rfl, rfl, .inr ⟨_, rfl, _, _, rfl, rfl, .inl ⟨_, rfl, _, _, rfl, rfl, (by show (0 : Int) < 2305843009213693951; decide), ?_⟩⟩⟩
      generalize hx : ((if z < 0 then -z else z) * 2 + (if decide (z < 0) = true then (1 : Int) else 0)) % 2305843009213693951 = x
      have x0 : 0 ≤ x := by rw [← hx]; exact Int.emod_nonneg _ (by decide)
      have x1 : x < 2305843009213693951 := by rw [← hx]; exact Int.emod_lt_of_pos _ (by decide)
      refine ⟨_, rfl, _, rfl, _, _, rfl, rfl, ⟨by decide, by decide, by decide⟩, _, _, rfl, rfl, .inr ⟨_, rfl, _, _, rfl, rfl, .inr ?_, ?_⟩⟩
      · split <;> exact ⟨by decide, by decide⟩
      refine ⟨_, rfl, _, rfl, _, _, rfl, rfl, .inl ⟨by decide, by decide⟩, _, _, rfl, rfl, (by show 3 ≤ sizeLine; decide), fun p hp => ?_⟩
      exact k p _ hp (same_new hp) ⟨_, _, _, upd_same, by omega, by omega, by decide, by decide⟩
theorem scNumber : FnScope ["well", "way", "found"] ["well"] (defScope sNumber) := ⟨rfl, rfl, rfl, by decide +kernel, rfl, by decide +kernel, by decide +kernel⟩
/-- what a law calls to draw -/
structure Tk (P : Program) (w : World) (K : PySem.W.Frag) (mg : Str → Option Value) (base : Heap) (fT : Addr) (fdT : FuncData) : Prop where
  ok : FnOk P w K mg base CX0 1 fT fdT ["well", "many"] spTake
  at_ : mg "_law_take" = some (.ref fT)
  kp : PySem.W.keepIn K (.ref fT) = true
  bi : Binds K fdT ["well", "many"] []
theorem ok_number {f fT : Addr} {fd fdT : FuncData} (F : Fun K "_law_number" "_law_number" sNumber f fd) (T : Blt mg) (L : Tk P w K mg base fT fdT) : FnOk P w K mg base CX0 2 f fd ["well"] spNumber := by
  refine F.ok scNumber (fun vs H Q E h => ?_) (fun cdv A outer s H vs Q E hr h => ?_)
  · obtain ⟨p, n, rfl, _⟩ := h
    rfl
  · obtain ⟨p, n, rfl, hW, hn, k⟩ := h
    refine ⟨_, pss_cons (ps_set (i := 1) scNumber.nd rfl (.inl rfl) (pe_call L.ok hr (by rfl) L.at_ L.kp L.bi .nil pass0 (pa_cons (pv 0) (pa_cons pe_int pa_nil))))
      (pss_cons (ps_set (i := 2) scNumber.nd rfl (.inl rfl) (pe_call L.ok hr (by rfl) L.at_ L.kp L.bi .nil pass0 (pa_cons (pv 0) (pa_cons (pe_ix ix_list (pe_lst (pa_cons pe_int (pa_cons pe_int (pa_cons pe_int (pa_cons (pe_op op_pow pe_int pe_int) pa_nil))))) (pv 1) (fun _ _ => rfl)) pa_nil))))
      (C8.pss_cut (ps_if (pt_cmpR op_eq (pv 1) pe_int (nomark _))
        (pss_one (ps_set (i := 2) scNumber.nd rfl (.inl rfl) (pe_op op_add (pe_op op_mul (pv 2) (pe_op op_pow pe_int pe_int)) (pe_call L.ok hr (by rfl) L.at_ L.kp L.bi .nil pass0 (pa_cons (pv 0) (pa_cons (pe_op op_pow pe_int pe_int) pa_nil)))))) pss_nil)
      (pss_one (ps_ret (pe_op op_mul (pv 2) (pe_op op_sub pe_int (pe_op op_mul pe_int (pe_call L.ok hr (by rfl) L.at_ L.kp L.bi .nil pass0 (pa_cons (pv 0) (pa_cons pe_int pa_nil)))))))))), ?_⟩
    refine ⟨_, rfl, ⟨_, _, _, rfl, hW, (by omega), (by decide), (by decide), fun r H1 r0 r1 f1 w1 => ?_⟩⟩
    refine ⟨_, rfl, _, _, rfl, rfl, ⟨by decide, by decide, by decide⟩, (by show 4 ≤ sizeLine; decide), fun l hl => ⟨_, rfl, ?_⟩⟩
    have w1' := w1.new (o := .lst [.int 13, .int 60, .int 1000, .int (10 ^ (15 : Int).toNat)]) hl
    obtain ⟨v, hv, hv2, he⟩ := atI_ints (xs := [13, 60, 1000, 10 ^ (15 : Int).toNat]) r0 r1
    have v0 : 0 < v ∧ v ≤ 10 ^ 15 := by
      simp only [List.mem_cons, List.not_mem_nil, or_false] at hv
      rcases hv with rfl | rfl | rfl | rfl <;> decide
    refine ⟨l, _, r, _, rfl, rfl, SqL.of upd_same, he, ⟨_, _, _, rfl, w1', (by omega), v0.1, (by omega), fun x H2 x0 x1 f2 w2 => ?_⟩⟩
    have f02 : Fr p H H2 := (f1.trans (Fr.new hl)).trans f2
    refine ⟨fun σ H3 => ∃ z : Int, σ = [some (.ref p), some (.int r), some (.int z)] ∧ 0 ≤ z ∧ z < 10 ^ 30 ∧ Fr p H H3 ∧ Well H3 p (n + 3), ?_, ?_⟩
    · refine ⟨_, rfl, rfl, _, rfl, ite2 (fun hc => ?_) (fun hc => ?_)⟩
      · refine ⟨_, rfl, _, _, rfl, rfl, ⟨by decide, by decide, by decide⟩, _, _, rfl, rfl, .inl ⟨by omega, by omega⟩, _, rfl, _, _, rfl, rfl, ⟨by decide, by decide, by decide⟩, ?_⟩
        refine ⟨_, _, _, rfl, w2, (by omega), (by decide), (by decide), fun y H3 y0 y1 f3 w3 => ⟨_, _, rfl, rfl, ?_⟩⟩
        refine ⟨_, rfl, ?_, ?_, f02.trans f3, w3⟩
        · have : (0 : Int) ≤ x * 10 ^ (15 : Int).toNat := Int.mul_nonneg x0 (by decide)
          omega
        · have e : (10 : Int) ^ (15 : Int).toNat = 10 ^ 15 := by decide
          rw [e] at y1 ⊢
          omega
      · exact ⟨x, rfl, x0, by omega, f02, w2.mono (by omega)⟩
    · rintro σ H3 ⟨z, rfl, z0, z1, f3, w3⟩
      refine ⟨_, rfl, _, rfl, ⟨_, _, _, rfl, w3, (by omega), (by decide), (by decide), fun y H4 y0 y1 f4 w4 => ?_⟩⟩
      refine ⟨_, _, rfl, rfl, .inl ⟨by decide, by decide⟩, _, _, rfl, rfl, _, _, rfl, rfl, .inr ⟨by omega, by omega⟩, ?_⟩
      have hy : y = 0 ∨ y = 1 := by omega
      refine k _ H4 ?_ ?_ (f3.trans f4) w4
      · rcases hy with rfl | rfl <;> omega
      · rcases hy with rfl | rfl <;> omega
end

theorem Fr.put {p q : Addr} {o : HO} {H J : Hp} (h : H q = none) (f : Fr p H J) : Fr p H (upd J q o) := fun b u e g => by
  rw [upd_ne (fun z => by rw [z, h] at e; cases e)]
  exact f b u e g
theorem rep_ints (k : Nat) (x : Int) : (List.replicate k [V.int x]).flatten = (List.replicate k x).map V.int := by
  induction k with
  | zero => rfl
  | succ k ih =>
    rw [List.replicate_succ, List.flatten_cons, ih, List.replicate_succ, List.map_cons]
    rfl
section
variable {P : Program} {w : World} {K : PySem.W.Frag} {mg : Str → Option Value} {base : Heap}
theorem scPaces : FnScope ["well", "size", "way", "found", "spot", "turn"] ["well", "size"] (defScope sPaces) := ⟨rfl, rfl, rfl, by decide +kernel, rfl, by decide +kernel, by decide +kernel⟩
/-- what stands between the statements of _law_paces -/
structure PMid (H : Hp) (p : Addr) (z : Int) (m : Nat) (q : Addr) (xs : List Int) (H1 : Hp) : Prop where
  new : H q = none
  ne : q ≠ p
  at_ : H1 q = some (.lst (xs.map V.int))
  len : (xs.length : Int) = z
  lo : ∀ v ∈ xs, 0 ≤ v ∧ v ≤ 3
  fr : Fr p H H1
  well : Well H1 p m
theorem ok_paces {f fT : Addr} {fd fdT : FuncData} (F : Fun K "_law_paces" "_law_paces" sPaces f fd) (T : Blt mg) (L : Tk P w K mg base fT fdT) : FnOk P w K mg base CX0 2 f fd ["well", "size"] spPaces := by
  refine F.ok scPaces (fun vs H Q E h => ?_) (fun cdv A outer s H vs Q E hr h => ?_)
  · obtain ⟨p, n, z, rfl, _⟩ := h
    rfl
  · obtain ⟨p, n, z, rfl, hW, hn, z0, z1, k⟩ := h
    refine ⟨_, pss_cons (ps_set (i := 2) scPaces.nd rfl (Or.inr rfl) (pe_call L.ok hr (by rfl) L.at_ L.kp L.bi .nil pass0 (pa_cons (pv 0) (pa_cons pe_int pa_nil))))
      (pss_cons (ps_set (i := 3) scPaces.nd rfl (.inl rfl) (pe_op op_rep (pe_lst (pa_cons pe_int pa_nil)) (pv 1)))
      (C8.pss_cut (ps_if (pt_cmpR op_lt (pv 2) pe_int (nomark _))
        (pss_one (ps_setLc (i := 3) (own := [("turn", 5)]) (g := gName 5) (tt := tYes) rfl scPaces.nd rfl rfl (sw_true rfl rfl rfl (by decide +kernel)) (pi_range1 (by rfl) T.range (pa_cons (pv 1) pa_nil))
          (blkOk_by (N := ["well", "size", "way", "found", "spot", "turn"]) (sc := defScope sPaces) (by decide +kernel)) (fun _ _ _ _ _ => pg_name (i := 5) scPaces.nd rfl (Or.inl rfl)) (fun _ _ _ _ _ => pts_nil)
          (fun _ _ _ _ _ => pe_call L.ok hr (by rfl) L.at_ L.kp L.bi .nil pass0 (pa_cons (pv 0) (pa_cons (pe_op op_sub pe_int (pe_op op_mul pe_int (pv 2))) pa_nil))))) pss_nil)
      (C8.pss_cut (ps_if (pt_cmpR op_eq (pv 2) pe_int (nomark _))
        (pss_one (ps_set (i := 3) scPaces.nd rfl (.inl rfl) (pe_op op_rep (pe_lst (pa_cons (pe_op op_add pe_int (pe_call L.ok hr (by rfl) L.at_ L.kp L.bi .nil pass0 (pa_cons (pv 0) (pa_cons pe_int pa_nil)))) pa_nil)) (pv 1)))) pss_nil)
      (C8.pss_cut (ps_if (pt_cmpR op_eq (pe_callB (cr_max rfl) (by rfl) T.max (by decide +kernel) (pa_cons (pv 3) pa_nil)) pe_int (nomark _))
        (pss_cons (ps_set (i := 4) scPaces.nd rfl (.inl rfl) (pe_call L.ok hr (by rfl) L.at_ L.kp L.bi .nil pass0 (pa_cons (pv 0) (pa_cons (pv 1) pa_nil))))
        (pss_one (ps_asg (pe_op op_add pe_int (pe_call L.ok hr (by rfl) L.at_ L.kp L.bi .nil pass0 (pa_cons (pv 0) (pa_cons pe_int pa_nil)))) (pg_sub (pv 3) (pv 4) set_list)))) pss_nil)
      (pss_one (ps_ret (pv 3))))))), ?_⟩
    refine ⟨_, rfl, ⟨_, _, _, rfl, hW, (by omega), (by decide), (by decide), fun r H1 r0 r1 f1 w1 => ?_⟩⟩
    refine ⟨(by show 1 ≤ sizeLine; decide), fun l hl => ⟨_, rfl, l, z, _, rfl, rfl, upd_same, by omega, by omega, by show 1 * z.toNat ≤ sizeLine; rw [sizeLine_eq]; omega, fun q hq => ?_⟩⟩
    rw [rep_ints]
    have hq1 : H1 q = none := by
      have ne : q ≠ l := fun e => by rw [e, upd_same] at hq; cases hq
      rw [upd_ne ne] at hq
      exact hq
    have free : ∀ {c : Addr} {J : Hp}, Fr p H J → Well J p (n + 1) → J c = none → H c = none ∧ c ≠ p := fun {c J} g g2 e => by
      refine ⟨?_, (g2.ne e).symm⟩
      cases e2 : H c with
      | none => rfl
      | some o =>
        rw [g c o e2 (g2.ne e).symm] at e
        cases e
    have hqH := free f1 w1 hq1
    have wL := (w1.new (o := .lst [V.int 0]) hl).new (o := .lst ((List.replicate z.toNat 0).map V.int)) hq
    have fL : Fr p H _ := (f1.trans (Fr.new (o := .lst [V.int 0]) hl)).trans (Fr.new (o := .lst ((List.replicate z.toNat 0).map V.int)) hq)
    have base0 : PMid H p z (n + 1) q (List.replicate z.toNat 0) (upd (upd H1 l (.lst [V.int 0])) q (.lst ((List.replicate z.toNat 0).map V.int))) :=
      ⟨hqH.1, hqH.2, upd_same, by rw [List.length_replicate]; omega, fun v hv => by rw [List.eq_of_mem_replicate hv]; exact ⟨by decide, by decide⟩, fL, wL⟩
    generalize upd (upd H1 l (.lst [V.int 0])) q (.lst ((List.replicate z.toNat 0).map V.int)) = HL at base0
    refine ⟨fun σ J => ∃ (q : Addr) (xs : List Int), σ = [some (.ref p), some (.int z), some (.int r), some (.ref q), none, none] ∧ PMid H p z (n + 13) q xs J, ?_, ?_⟩
    · refine ⟨_, rfl, _, _, rfl, rfl, _, rfl, ite2 (fun hc => ?_) (fun hc => ?_)⟩
      · have hr2 : r < 2 := of_decide_eq_true hc
        refine ⟨_, rfl, z, rfl, by omega, by omega, fun D hD => ?_⟩
        have hDn : D ≠ p := (base0.well.ne hD).symm
        have hDH := free base0.fr base0.well hD
        refine lc_range (lo := 0) (n := z.toNat) (fun i J => ∃ xs : List Int, J D = some (.lst (xs.map V.int)) ∧ xs.length = i ∧ (∀ v ∈ xs, 0 ≤ v ∧ v ≤ 3) ∧ Fr p H J ∧ Well J p (n + 1 + i))
          ⟨[], upd_same, rfl, fun v hv => absurd hv List.not_mem_nil, base0.fr.trans (Fr.new hD), base0.well.new hD⟩ ?_ ?_
        · rintro i J hi ⟨xs, hx, xl, xr, xf, xw⟩
          refine ⟨rfl, _, rfl, _, rfl, _, _, rfl, rfl, .inl ⟨by decide, by decide⟩, _, _, rfl, rfl, ⟨_, _, _, rfl, xw, (by omega), (by omega), (by omega), fun y J2 y0 y1 f2 w2 => ?_⟩⟩
          have hx2 := f2 _ _ hx hDn
          refine ⟨_, hx2, by rw [List.length_map]; exact small1000 (by omega), xs ++ [y], ?_, by simp [xl], ?_, Fr.put hDH.1 (xf.trans f2), (w2.upd_ne hDn.symm).mono (by omega)⟩
          · rw [upd_same, List.map_append]
            rfl
          · intro v hv
            rcases List.mem_append.mp hv with g | g
            · exact xr v g
            · rw [List.mem_singleton.mp g]
              exact ⟨y0, by omega⟩
        · rintro J ⟨xs, hx, xl, xr, xf, xw⟩
          exact ⟨D, xs, rfl, hDH.1, hDH.2, hx, by omega, xr, xf, xw.mono (by omega)⟩
      · exact ⟨q, _, rfl, base0.new, base0.ne, base0.at_, base0.len, base0.lo, base0.fr, base0.well.mono (by omega)⟩
    · rintro σ J ⟨q, xs, rfl, M⟩
      refine ⟨fun σ J => ∃ (q : Addr) (xs : List Int), σ = [some (.ref p), some (.int z), some (.int r), some (.ref q), none, none] ∧ PMid H p z (n + 14) q xs J, ?_, ?_⟩
      · refine ⟨_, rfl, rfl, _, rfl, ite2 (fun hc => ?_) (fun hc => ?_)⟩
        · refine ⟨_, rfl, ⟨_, _, _, rfl, M.well, (by omega), (by decide), (by decide), fun y J2 y0 y1 f2 w2 => ⟨_, _, rfl, rfl, (by show 1 ≤ sizeLine; decide), fun l hl => ?_⟩⟩⟩
          refine ⟨_, rfl, l, z, _, rfl, rfl, upd_same, by omega, by omega, by show 1 * z.toNat ≤ sizeLine; rw [sizeLine_eq]; omega, fun D hD => ?_⟩
          rw [rep_ints]
          have hD2 : J2 D = none := by
            have ne : D ≠ l := fun e => by rw [e, upd_same] at hD; cases hD
            rw [upd_ne ne] at hD
            exact hD
          have g2 := M.fr.trans f2
          refine ⟨D, _, rfl, ?_, (w2.ne hD2).symm, upd_same, by rw [List.length_replicate]; omega, fun v hv => by rw [List.eq_of_mem_replicate hv]; omega, (g2.trans (Fr.new hl)).trans (Fr.new hD), (w2.new hl).new hD⟩
          cases e2 : H D with
          | none => rfl
          | some o =>
            rw [g2 D o e2 (w2.ne hD2).symm] at hD2
            cases hD2
        · exact ⟨q, xs, rfl, M.new, M.ne, M.at_, M.len, M.lo, M.fr, M.well.mono (by omega)⟩
      · rintro σ J ⟨q, xs, rfl, M⟩
        have xl := M.len
        refine ⟨fun σ J => ∃ (q : Addr) (xs : List Int) (y4 : Option V), σ = [some (.ref p), some (.int z), some (.int r), some (.ref q), y4, none] ∧ PMid H p z (n + 20) q xs J ∧ ∃ v ∈ xs, v ≠ 0, ?_, ?_⟩
        · refine ⟨_, rfl, q, xs, rfl, SqL.of M.at_, by omega, fun m hm hmax => ⟨rfl, _, rfl, ite2 (fun hc => ?_) (fun hc => ?_)⟩⟩
          · refine ⟨_, rfl, _, rfl, ⟨_, _, _, rfl, M.well, (by omega), (by omega), (by omega), fun y J2 y0 y1 f2 w2 => ?_⟩⟩
            refine ⟨_, rfl, ⟨_, _, _, rfl, w2, (by omega), (by decide), (by decide), fun x J3 x0 x1 f3 w3 => ⟨_, _, rfl, rfl, ?_⟩⟩⟩
            have h3 := f3 _ _ (f2 _ _ M.at_ M.ne) M.ne
            have hj : ixN (xs.map V.int).length y = some y.toNat := by
              unfold ixN
              rw [if_pos y0, if_pos (by rw [List.length_map]; omega)]
            refine ⟨_, rfl, _, rfl, q, _, y, y.toNat, rfl, rfl, h3, hj, ?_⟩
            refine ⟨q, xs.set y.toNat (1 + x), _, rfl, ⟨M.new, M.ne, ?_, by rw [List.length_set]; exact xl, fun v hv => ?_, Fr.put M.new ((M.fr.trans f2).trans f3), (w3.upd_ne M.ne.symm).mono (by omega)⟩, 1 + x, ?_, by omega⟩
            · rw [upd_same, List.map_set]
            · rcases List.mem_or_eq_of_mem_set hv with g | g
              · exact M.lo v g
              · rw [g]
                omega
            · exact List.mem_set (by omega) _
          · refine ⟨q, xs, _, rfl, ⟨M.new, M.ne, M.at_, M.len, M.lo, M.fr, M.well.mono (by omega)⟩, m, hm, fun e => hc ?_⟩
            rw [e]
            exact decide_eq_true rfl
        · rintro σ J ⟨q, xs, y4, rfl, M, hp⟩
          have xl := M.len
          exact ⟨_, rfl, k q xs J ⟨M.lo, hp, by omega, by omega⟩ M.len M.new M.ne M.at_ M.fr M.well⟩
end

/-! ### the changes that a law draws: tuples of a moment and a speed -/
def Tups (H : Hp) : List Addr → List (Int × Int) → Prop
  | [], [] => True
  | t :: ts, m :: ms => H t = some (.tup [.int m.1, .int m.2]) ∧ Tups H ts ms
  | _, _ => False
theorem Tups.len {H : Hp} : ∀ {ts : List Addr} {ms : List (Int × Int)}, Tups H ts ms → ts.length = ms.length
  | [], [], _ => rfl
  | _ :: _, _ :: _, h => by
    rw [List.length_cons, List.length_cons, Tups.len h.2]
theorem Tups.imp {H H' : Hp} : ∀ {ts : List Addr} {ms : List (Int × Int)}, (∀ t xs, H t = some (.tup xs) → H' t = some (.tup xs)) → Tups H ts ms → Tups H' ts ms
  | [], [], _, _ => trivial
  | _ :: _, _ :: _, f, h => ⟨f _ _ h.1, Tups.imp f h.2⟩
theorem Tups.same {H H' : Hp} {ts : List Addr} {ms : List (Int × Int)} (h : Tups H ts ms) (f : Same H H') : Tups H' ts ms := h.imp fun _ _ e => f _ _ e
theorem Tups.fr {H H' : Hp} {p : Addr} {n : Nat} {ts : List Addr} {ms : List (Int × Int)} (h : Tups H ts ms) (w : Well H p n) (f : Fr p H H') : Tups H' ts ms := h.imp fun t xs e => f _ _ e fun z => by
  obtain ⟨a, b, c, g, _⟩ := w
  rw [z, g] at e
  cases e
theorem Tups.put {H : Hp} {q : Addr} {ys : List V} {o : HO} {ts : List Addr} {ms : List (Int × Int)} (h : Tups H ts ms) (g : H q = some (.lst ys)) : Tups (upd H q o) ts ms := h.imp fun t xs e => by
  rw [upd_ne (fun z => by rw [z, g] at e; cases e)]
  exact e
theorem Tups.snoc {H : Hp} {t : Addr} {m : Int × Int} : ∀ {ts : List Addr} {ms : List (Int × Int)}, Tups H ts ms → H t = some (.tup [.int m.1, .int m.2]) → Tups H (ts ++ [t]) (ms ++ [m])
  | [], [], _, g => ⟨g, trivial⟩
  | _ :: _, _ :: _, h, g => ⟨h.1, Tups.snoc h.2 g⟩
theorem Tups.get {H : Hp} : ∀ {ts : List Addr} {ms : List (Int × Int)} {i : Nat} {t : Addr}, Tups H ts ms → ts[i]? = some t → ∃ m, ms[i]? = some m ∧ H t = some (.tup [.int m.1, .int m.2])
  | _ :: _, m :: _, 0, t, h, e => by
    obtain rfl := Option.some.inj e
    exact ⟨m, rfl, h.1⟩
  | _ :: _, _ :: _, i + 1, t, h, e => Tups.get (i := i) h.2 e
/-- what a calendar takes as changes -/
structure Marks (cap : Int) (ms : List (Int × Int)) : Prop where
  asc : ms.Pairwise fun a b => a.1 < b.1
  val : ∀ m ∈ ms, 0 ≤ m.2 ∧ m.2 ≤ 3
  big : ∀ m ∈ ms, -(2 * 10 ^ 30) < m.1 ∧ m.1 < 2 * 10 ^ 30
  len : (ms.length : Int) ≤ cap
def spMarks : Sp := fun vs H Q _ => ∃ (p : Addr) (n : Nat) (z cap : Int), vs = [.ref p, .int z, .int cap] ∧ Well H p n ∧ n ≤ 10 ^ 7 ∧ 1 ≤ z ∧ z ≤ 1000 ∧ 0 ≤ cap ∧ cap ≤ 3 ∧
  ∀ (q : Addr) (ts : List Addr) (ms : List (Int × Int)) (H' : Hp), Marks cap ms → H q = none → q ≠ p → H' q = some (.lst (ts.map V.ref)) → Tups H' ts ms → (∀ t ∈ ts, H t = none) → Fr p H H' → Well H' p (n + 20) → Q (.ref q) H'
/-- _law_number stands at fN -/
structure Nb (P : Program) (w : World) (K : PySem.W.Frag) (mg : Str → Option Value) (base : Heap) (fN : Addr) (fdN : FuncData) : Prop where
  ok : FnOk P w K mg base CX0 2 fN fdN ["well"] spNumber
  at_ : mg "_law_number" = some (.ref fN)
  kp : PySem.W.keepIn K (.ref fN) = true
  bi : Binds K fdN ["well"] []
section
variable {P : Program} {w : World} {K : PySem.W.Frag} {mg : Str → Option Value} {base : Heap}
theorem scMarks : FnScope ["well", "size", "cap", "found", "many", "at", "turn"] ["well", "size", "cap"] (defScope sMarks) := ⟨rfl, rfl, rfl, by decide +kernel, rfl, by decide +kernel, by decide +kernel⟩
theorem free_of {p c : Addr} {n : Nat} {H J : Hp} (f : Fr p H J) (wl : Well J p n) (e : J c = none) : H c = none ∧ c ≠ p := by
  have g := (wl.ne e).symm
  refine ⟨?_, g⟩
  cases e2 : H c with
  | none => rfl
  | some o =>
    rw [f c o e2 g] at e
    cases e
theorem ok_marks {f fT fN : Addr} {fd fdT fdN : FuncData} (F : Fun K "_law_marks" "_law_marks" sMarks f fd) (T : Blt mg) (L : Tk P w K mg base fT fdT) (B : Nb P w K mg base fN fdN) : FnOk P w K mg base CX0 3 f fd ["well", "size", "cap"] spMarks := by
  refine F.ok scMarks (fun vs H Q E h => ?_) (fun cdv A outer s H vs Q E hr h => ?_)
  · obtain ⟨p, n, z, cap, rfl, _⟩ := h
    rfl
  · obtain ⟨p, n, z, cap, rfl, hW, hn, z0, z1, c0, c1, k⟩ := h
    have hr1 : Room 1 _ := hr.mono (by decide)
    refine ⟨_, pss_cons (ps_set (i := 3) scMarks.nd rfl (.inl rfl) (pe_lst pa_nil))
      (pss_cons (ps_set (i := 4) scMarks.nd rfl (.inl rfl) (pe_call L.ok hr1 (by rfl) L.at_ L.kp L.bi .nil pass0 (pa_cons (pv 0) (pa_cons (pe_op op_add (pv 2) pe_int) pa_nil))))
      (pss_cons (ps_set (i := 5) scMarks.nd rfl (.inl rfl) (pe_call B.ok hr (by rfl) B.at_ B.kp B.bi .nil pass0 (pa_cons (pv 0) pa_nil)))
      (pss_cons (ps_for PassesOwn.never rfl (pi_range1 (by rfl) T.range (pa_cons (pv 4) pa_nil)) (pg_name (i := 6) scMarks.nd rfl (.inl rfl))
        (pss_cons (ps_expr (pe_bm PySem.F.plainAttrs_list PySem.F.slot_list_append PySem.F.type_list_append mt_append (pv 3) (pa_cons (pe_tup (pa_cons (pv 5) (pa_cons (pe_call L.ok hr1 (by rfl) L.at_ L.kp L.bi .nil pass0 (pa_cons (pv 0) (pa_cons pe_int pa_nil))) pa_nil))) pa_nil)))
        (pss_one (ps_set (i := 5) scMarks.nd rfl (.inl rfl) (pe_op op_add (pe_op op_add (pv 5) pe_int) (pe_call L.ok hr1 (by rfl) L.at_ L.kp L.bi .nil pass0 (pa_cons (pv 0) (pa_cons (pe_ix ix_list (pe_lst (pa_cons pe_int (pa_cons pe_int (pa_cons (pe_op op_mul pe_int (pv 1)) (pa_cons (pe_op op_pow pe_int pe_int) pa_nil)))))
          (pe_call L.ok hr1 (by rfl) L.at_ L.kp L.bi .nil pass0 (pa_cons (pv 0) (pa_cons pe_int pa_nil))) (fun _ _ => rfl)) pa_nil))))))))
      (pss_one (ps_ret (pv 3)))))), ?_⟩
    refine ⟨Nat.zero_le _, fun q hq => ?_⟩
    have qp : q ≠ p := (hW.ne hq).symm
    refine ⟨_, rfl, _, rfl, _, _, rfl, rfl, ⟨_, _, _, rfl, hW.new hq, (by omega), (by omega), (by omega), fun m H1 m0 m1 f1 w1 => ?_⟩⟩
    refine ⟨_, rfl, ⟨_, _, rfl, w1, by omega, fun a0 H2 a1 a2 f2 w2 => ?_⟩⟩
    have f02 : Fr p H H2 := ((Fr.new hq).trans f1).trans f2
    have q2 : H2 q = some (.lst []) := f2 _ _ (f1 _ _ upd_same qp) qp
    refine ⟨_, rfl, m, rfl, by omega, by omega, for_range (lo := 0) (n := m.toNat) (fun i σ J => ∃ (ts : List Addr) (ms : List (Int × Int)) (a : Int) (y : Option V), σ = [some (.ref p), some (.int z), some (.int cap), some (.ref q), some (.int m), some (.int a), y] ∧
        J q = some (.lst (ts.map V.ref)) ∧ Tups J ts ms ∧ (∀ t ∈ ts, H t = none) ∧ ms.length = i ∧ (ms.Pairwise fun a b => a.1 < b.1) ∧ (∀ v ∈ ms, 0 ≤ v.2 ∧ v.2 ≤ 3) ∧ (∀ v ∈ ms, -10 ^ 30 < v.1 ∧ v.1 < a) ∧ -10 ^ 30 < a ∧ a < 10 ^ 30 + i * (10 ^ 29 + 1) ∧ Fr p H J ∧ Well J p (n + 5 + i * 3))
      ⟨[], [], a0, none, rfl, q2, trivial, fun t ht => absurd ht List.not_mem_nil, rfl, List.Pairwise.nil, fun v hv => absurd hv List.not_mem_nil, fun v hv => absurd hv List.not_mem_nil, a1, by omega, f02, w2.mono (by omega)⟩ ?_ ?_⟩
    · rintro i σ J hi ⟨ts, ms, a, y, rfl, hq3, tp, tn, ml, asc, val, big, b0, b1, fJ, wJ⟩
      have him : (i : Int) < m := by omega
      have ml3 : i ≤ 3 := by omega
      refine ⟨_, rfl, .inl ⟨rfl, _, SqL.of hq3⟩, _, rfl, _, rfl, ⟨_, _, _, rfl, wJ, (by omega), (by decide), (by decide), fun v J2 v0 v1 f2 w2 => ?_⟩⟩
      have hq4 := f2 _ _ hq3 qp
      have tp2 := tp.fr wJ f2
      refine ⟨(by show 2 ≤ sizeLine; decide), fun t ht => ?_⟩
      have tq : q ≠ t := ne_of_none hq4 ht
      have ft := free_of (fJ.trans f2) w2 ht
      have w3 := w2.new (o := .tup [.int a, .int v]) ht
      have hq5 : (upd J2 t (.tup [.int a, .int v])) q = some (.lst (ts.map V.ref)) := by rw [upd_ne tq]; exact hq4
      have tl := tp.len
      refine ⟨q, _, .ref t, rfl, rfl, hq5, by rw [List.length_map]; exact small1000 (by omega), ?_⟩
      have tp3 : Tups (upd (upd J2 t (.tup [.int a, .int v])) q (.lst (ts.map V.ref ++ [.ref t]))) (ts ++ [t]) (ms ++ [(a, v)]) :=
        ((tp2.same (same_new ht)).snoc (m := (a, v)) upd_same).put hq5
      have w4 := w3.upd_ne (o := .lst (ts.map V.ref ++ [.ref t])) qp.symm
      have f4 : Fr p H (upd (upd J2 t (.tup [.int a, .int v])) q (.lst (ts.map V.ref ++ [.ref t]))) := Fr.put (by exact (free_of (Fr.refl p H) hW hq).1) (Fr.put ft.1 (fJ.trans f2))
      have hq6 : (upd (upd J2 t (.tup [.int a, .int v])) q (.lst (ts.map V.ref ++ [.ref t]))) q = some (.lst ((ts ++ [t]).map V.ref)) := by rw [upd_same, List.map_append]; rfl
      generalize upd (upd J2 t (.tup [.int a, .int v])) q (.lst (ts.map V.ref ++ [.ref t])) = J4 at tp3 w4 f4 hq6
      refine ⟨_, rfl, _, _, rfl, rfl, _, rfl, _, rfl, _, _, rfl, rfl, .inl ⟨by decide, by decide⟩, _, _, rfl, rfl, ⟨by decide, by decide, by decide⟩, (by show 4 ≤ sizeLine; decide), fun l hl => ?_⟩
      have w5 := w4.new (o := .lst [.int 1, .int 4, .int (3 * z), .int (10 ^ (29 : Int).toNat)]) hl
      have lp := (w4.ne hl).symm
      refine ⟨_, rfl, ⟨_, _, _, rfl, w5, (by omega), (by decide), (by decide), fun x J6 x0 x1 f6 w6 => ?_⟩⟩
      obtain ⟨d, hd, hd2, he⟩ := atI_ints (xs := [1, 4, 3 * z, 10 ^ (29 : Int).toNat]) x0 x1
      have d0 : 0 < d ∧ d ≤ 10 ^ 29 := by
        have e : (10 : Int) ^ (29 : Int).toNat = 10 ^ 29 := by decide
        rw [e] at hd
        simp only [List.mem_cons, List.not_mem_nil, or_false] at hd
        rcases hd with rfl | rfl | rfl | rfl <;> omega
      refine ⟨l, _, x, _, rfl, rfl, SqL.of (f6 _ _ upd_same lp), he, ⟨_, _, _, rfl, w6, (by omega), d0.1, (by omega), fun u J7 u0 u1 f7 w7 => ?_⟩⟩
      have f47 : Fr p J4 J7 := ((Fr.new hl).trans f6).trans f7
      refine ⟨_, _, rfl, rfl, ts ++ [t], ms ++ [(a, v)], a + 1 + u, _, rfl, f47 _ _ hq6 qp, tp3.fr w4 f47, ?_, by simp [ml], ?_, ?_, ?_, by omega, by omega, f4.trans f47, w7.mono (by omega)⟩
      · intro t' ht'
        rcases List.mem_append.mp ht' with g | g
        · exact tn t' g
        · rw [List.mem_singleton.mp g]
          exact ft.1
      · rw [List.pairwise_append]
        refine ⟨asc, List.pairwise_singleton _ _, fun a1 h1 b1 h2 => ?_⟩
        rw [List.mem_singleton.mp h2]
        exact (big a1 h1).2
      · intro v' hv'
        rcases List.mem_append.mp hv' with g | g
        · exact val v' g
        · rw [List.mem_singleton.mp g]
          exact ⟨v0, by omega⟩
      · intro v' hv'
        rcases List.mem_append.mp hv' with g | g
        · have := big v' g
          omega
        · rw [List.mem_singleton.mp g]
          omega
    · rintro σ J ⟨ts, ms, a, y, rfl, hq3, tp, tn, ml, asc, val, big, b0, b1, fJ, wJ⟩
      have hm : m ≤ cap := by omega
      have ml3 : m.toNat ≤ 3 := by omega
      exact ⟨_, rfl, k q ts ms J ⟨asc, val, fun v hv => by have := big v hv; omega, by omega⟩ (free_of (Fr.refl p H) hW hq).1 qp hq3 tp tn fJ (wJ.mono (by omega))⟩
end

/-! ### the calendar: what its constructor asks, and what it leaves -/
structure Con (mg : Str → Option Value) : Prop where
  gw : ∃ t, mg "GREATEST_WEEK" = some (.int 12 t)
  gs : ∃ t, mg "GREATEST_SPEED" = some (.int 3 t)
  enum : mg "enumerate" = none
def spIsSpeed : Sp := fun vs H Q _ => ∃ v : Int, vs = [.int v] ∧ Q (.bl (decide (0 ≤ v ∧ v ≤ 3))) H
def spChkS (K : PySem.W.Frag) : Sp := fun vs H Q _ => ∃ (a : Addr) (ps : List Int), vs = [.ref a] ∧ SqL K H a (ps.map V.int) ∧ Paces ps ∧ ∀ H', Same H H' → Q .non H'
/-- changes that are right -/
structure Fit (ms : List (Int × Int)) : Prop where
  asc : ms.Pairwise fun a b => a.1 < b.1
  val : ∀ m ∈ ms, 0 ≤ m.2 ∧ m.2 ≤ 3
  len : ms.length ≤ 1000
def spChkC (K : PySem.W.Frag) : Sp := fun vs H Q _ => ∃ (a : Addr) (ts : List Addr) (ms : List (Int × Int)), vs = [.ref a] ∧ SqL K H a (ts.map V.ref) ∧ Tups H ts ms ∧ Fit ms ∧ ∀ H', Same H H' → Q .non H'
/-- whether a change stands behind the one ahead of it -/
def behind (ms : List (Int × Int)) (i : Nat) : Bool := decide (i = 0) || decide ((ms.getD (i - 1) (0, 0)).1 < (ms.getD i (0, 0)).1)
def spChkW : Sp := fun vs H Q _ => ∃ n : Int, vs = [.int n] ∧ 1 ≤ n ∧ n ≤ 12 ∧ Q .non H
def spBehind (K : PySem.W.Frag) : Sp := fun vs H Q _ => ∃ (a : Addr) (ts : List Addr) (ms : List (Int × Int)) (i : Nat), vs = [.ref a, .int (i : Int)] ∧ SqL K H a (ts.map V.ref) ∧ Tups H ts ms ∧ i < ms.length ∧ Q (.bl (behind ms i)) H
/-- a def of the program stands under a name of its module -/
structure At (P : Program) (w : World) (K : PySem.W.Frag) (mg : Str → Option Value) (base : Heap) (k : Nat) (x : Str) (ps : List Str) (sp : Sp) (f : Addr) (fd : FuncData) : Prop where
  ok : FnOk P w K mg base CX0 k f fd ps sp
  at_ : mg x = some (.ref f)
  kp : PySem.W.keepIn K (.ref f) = true
  bi : Binds K fd ps []
section
variable {P : Program} {w : World} {K : PySem.W.Frag} {mg : Str → Option Value} {base : Heap}
theorem scIsSpeed : FnScope ["number"] ["number"] (defScope sIsSpeed) := ⟨rfl, rfl, rfl, by decide +kernel, rfl, by decide +kernel, by decide +kernel⟩
theorem ok_isSpeed {f : Addr} {fd : FuncData} (F : Fun K "is_speed" "is_speed" sIsSpeed f fd) (C : Con mg) : FnOk P w K mg base CX0 1 f fd ["number"] spIsSpeed := by
  refine F.ok scIsSpeed (fun vs H Q E h => ?_) (fun cdv A outer s H vs Q E hr h => ?_)
  · obtain ⟨v, rfl, _⟩ := h
    rfl
  · obtain ⟨v, rfl, q⟩ := h
    obtain ⟨t, ht⟩ := C.gs
    refine ⟨_, pss_one (ps_ret (pe_chain op_le op_le pe_int (pv 0) (pe_glob (v := .int 3) (by rfl) ht ⟨t, rfl⟩))), ?_⟩
    refine ⟨_, rfl, _, _, rfl, rfl, _, rfl, ite2 (fun h => ?_) (fun h => ?_)⟩
    · refine ⟨_, _, rfl, rfl, ?_⟩
      have h0 : 0 ≤ v := of_decide_eq_true h
      have e : decide (0 ≤ v ∧ v ≤ 3) = decide (v ≤ 3) := by
        rw [decide_eq_decide]
        omega
      rw [e] at q
      exact q
    · have h0 : ¬ 0 ≤ v := fun g => h (decide_eq_true g)
      have e : decide (0 ≤ v ∧ v ≤ 3) = false := decide_eq_false fun g => h0 g.1
      rw [e] at q
      exact q
theorem scChkW : FnScope ["number"] ["number"] (defScope sChkWeek) := ⟨rfl, rfl, rfl, by decide +kernel, rfl, by decide +kernel, by decide +kernel⟩
theorem ok_chkW {f : Addr} {fd : FuncData} (F : Fun K "check_week" "check_week" sChkWeek f fd) (C : Con mg) : FnOk P w K mg base CX0 1 f fd ["number"] spChkW := by
  refine F.ok scChkW (fun vs H Q E h => ?_) (fun cdv A outer s H vs Q E hr h => ?_)
  · obtain ⟨n, rfl, _⟩ := h
    rfl
  · obtain ⟨n, rfl, n1, n2, q⟩ := h
    obtain ⟨t, ht⟩ := C.gw
    refine ⟨_, pss_one (ps_if (pt_not (pt_chain op_le op_le pe_int (pv 0) (pe_glob (v := .int 12) (by rfl) ht ⟨t, rfl⟩))) (pss_one ps_never) pss_nil), ?_⟩
    refine ⟨_, rfl, _, _, rfl, rfl, _, rfl, ite2 (fun g => ?_) (fun g => absurd (decide_eq_true (by omega)) g)⟩
    refine ⟨_, _, rfl, rfl, _, rfl, ite2 (fun g2 => absurd g2 ?_) (fun _ => q)⟩
    rw [decide_eq_true (by omega)]
    decide
theorem scBehind : FnScope ["changes", "index"] ["changes", "index"] (defScope sBehind) := ⟨rfl, rfl, rfl, by decide +kernel, rfl, by decide +kernel, by decide +kernel⟩
theorem behind_fit {ms : List (Int × Int)} {i : Nat} (h : ms.Pairwise fun a b => a.1 < b.1) (hi : i < ms.length) : behind ms i = true := by
  unfold behind
  cases i with
  | zero => rfl
  | succ j =>
    have lt := List.pairwise_iff_getElem.mp h j (j + 1) (by omega) hi (by omega)
    simp only [Nat.add_sub_cancel]
    rw [List.getD_eq_getElem?_getD, List.getD_eq_getElem?_getD, List.getElem?_eq_getElem hi, List.getElem?_eq_getElem (by omega : j < ms.length)]
    simp [lt]
theorem ok_behind {f : Addr} {fd : FuncData} (F : Fun K "is_behind" "is_behind" sBehind f fd) : FnOk P w K mg base CX0 1 f fd ["changes", "index"] (spBehind K) := by
  refine F.ok scBehind (fun vs H Q E h => ?_) (fun cdv A outer s H vs Q E hr h => ?_)
  · obtain ⟨a, ts, ms, i, rfl, _⟩ := h
    rfl
  · obtain ⟨a, ts, ms, i, rfl, hS, tp, hi, q⟩ := h
    refine ⟨_, pss_one (ps_ret (pe_or (pe_cmpR op_eq (pv 1) pe_int (nomark _)) (pe_one (pe_cmpR op_lt
      (pe_ix ix_tup (pe_ix ix_list (pv 0) (pe_op op_sub (pv 1) pe_int) (fun _ _ => rfl)) pe_int (fun _ _ => rfl))
      (pe_ix ix_tup (pe_ix ix_list (pv 0) (pv 1) (fun _ _ => rfl)) pe_int (fun _ _ => rfl)) (nomark _))))), ?_⟩
    have tl := tp.len
    have ez : decide (V.int (i : Int) = V.int 0) = decide (i = 0) := by
      rw [decide_eq_decide]
      exact ⟨fun e => by injection e with e; omega, fun e => by rw [e]; rfl⟩
    refine ⟨_, rfl, rfl, _, rfl, ?_⟩
    rw [ez]
    cases i with
    | zero => exact q
    | succ j =>
      have hj : j < ts.length := by omega
      have hj1 : j + 1 < ts.length := by omega
      obtain ⟨m', hm', hm2'⟩ := tp.get (List.getElem?_eq_getElem hj)
      obtain ⟨m, hm, hm2⟩ := tp.get (List.getElem?_eq_getElem hj1)
      have ej : (((j + 1 : Nat) : Int) - 1) = (j : Nat) := by omega
      refine ⟨_, rfl, _, rfl, _, _, rfl, rfl, a, _, _, _, rfl, rfl, hS, at_of (j := j) (v := V.ref ts[j]) ej (by rw [List.getElem?_map, List.getElem?_eq_getElem hj]; rfl), ts[j], _, 0, _, rfl, rfl, SqT.of hm2', atI_nat (j := 0) rfl,
        _, rfl, _, rfl, a, _, _, _, rfl, rfl, hS, atI_nat (j := j + 1) (v := V.ref ts[j + 1]) (by rw [List.getElem?_map, List.getElem?_eq_getElem hj1]; rfl), ts[j + 1], _, 0, _, rfl, rfl, SqT.of hm2, atI_nat (j := 0) rfl, _, _, rfl, rfl, ?_⟩
      have e : behind ms (j + 1) = decide (m'.1 < m.1) := by
        unfold behind
        simp only [Nat.add_sub_cancel]
        rw [List.getD_eq_getElem?_getD, List.getD_eq_getElem?_getD, hm, hm']
        simp
      rw [e] at q
      exact q
theorem scChkS : FnScope ["speeds", "index", "speed"] ["speeds"] (defScope sChkSpeeds) := ⟨rfl, rfl, rfl, by decide +kernel, rfl, by decide +kernel, by decide +kernel⟩
theorem ok_chkS {f fI fW : Addr} {fd fdI fdW : FuncData} (F : Fun K "check_speeds" "check_speeds" sChkSpeeds f fd) (C : Con mg) (T : Blt mg) (I : At P w K mg base 1 "is_speed" ["number"] spIsSpeed fI fdI) (W : At P w K mg base 1 "check_week" ["number"] spChkW fW fdW) :
    FnOk P w K mg base CX0 2 f fd ["speeds"] (spChkS K) := by
  refine F.ok scChkS (fun vs H Q E h => ?_) (fun cdv A outer s H vs Q E hr h => ?_)
  · obtain ⟨a, ps, rfl, _⟩ := h
    rfl
  · obtain ⟨a, ps, rfl, hS, hp, k⟩ := h
    refine ⟨_, pss_cons (ps_expr (pe_call W.ok hr (by rfl) W.at_ W.kp W.bi .nil pass0 (pa_cons (pe_callB call_len_seq (by rfl) T.len PySem.boot_len (pa_cons (pv 0) pa_nil)) pa_nil)))
      (pss_cons (ps_for PassesOwn.never rfl (pi_enum (by rfl) C.enum (pa_cons (pv 0) pa_nil)) (pg_tup rfl (pgs_cons (pg_name (i := 1) scChkS.nd rfl (.inl rfl)) (pgs_cons (pg_name (i := 2) scChkS.nd rfl (.inl rfl)) pgs_nil)))
        (pss_one (ps_if (pt_not (pt_val (pe_call I.ok hr (by rfl) I.at_ I.kp I.bi .nil pass0 (pa_cons (pv 2) pa_nil)))) (pss_one ps_never) pss_nil)))
      (pss_one (ps_if (pt_cmpR op_eq (pe_callB (cr_max rfl) (by rfl) T.max (by decide +kernel) (pa_cons (pv 0) pa_nil)) pe_int (nomark _)) (pss_one ps_never) pss_nil))), ?_⟩
    have l0 := hp.len0
    have l1 := hp.len1
    have hlen : (((ps.map V.int).length : Nat) : Int) = ps.length := by rw [List.length_map]
    refine ⟨_, rfl, a, _, rfl, .inl hS, ⟨_, rfl, by rw [hlen]; omega, by rw [hlen]; omega, ?_⟩⟩
    refine ⟨_, rfl, a, _, rfl, hS, for_it (walk_enum (K := K) (a := a) (xs := ps.map V.int)) (fun i σ J => ∃ y1 y2 : Option V, σ = [some (.ref a), y1, y2] ∧ Same H J) ⟨none, none, rfl, Same.refl H⟩ (fun i σ J _ ⟨_, _, _, g⟩ => g.seq hS) ?_ ?_⟩
    · rintro i x σ J J' hi ⟨y1, y2, rfl, hs⟩ ⟨T', x1, x2, rfl, nT, rfl, e1, e2⟩
      obtain rfl := Option.some.inj e1
      have hi' : i < ps.length := by simpa using hi
      replace e2 : (List.map _ _)[i]? = some x2 := e2
      rw [List.getElem?_map, List.getElem?_eq_getElem hi'] at e2
      obtain rfl := Option.some.inj e2
      refine ⟨T', _, rfl, .inl (.inl upd_same), rfl, _, _, rfl, _, [], rfl, rfl, ?_⟩
      have hv := hp.lo _ (List.getElem_mem hi')
      refine ⟨_, rfl, _, rfl, _, rfl, ?_⟩
      rw [decide_eq_true hv]
      exact ⟨_, _, rfl, hs.trans (same_new nT)⟩
    · rintro σ J ⟨y1, y2, rfl, hs⟩
      refine ⟨_, rfl, a, ps, rfl, hs.seq hS, l0, fun m hm hmax => ⟨rfl, _, rfl, ite2 (fun g => ?_) (fun _ => k J hs)⟩⟩
      have g2 : m = 0 := by
        have := of_decide_eq_true g
        injection this
      obtain ⟨v, hv, v0⟩ := hp.pos
      have := hmax v hv
      have := hp.lo v hv
      omega
theorem scChkC : FnScope ["changes", "index", "_", "speed"] ["changes"] (defScope sChkChanges) := ⟨rfl, rfl, rfl, by decide +kernel, rfl, by decide +kernel, by decide +kernel⟩
theorem ok_chkC {f fI fB : Addr} {fd fdI fdB : FuncData} (F : Fun K "check_changes" "check_changes" sChkChanges f fd) (C : Con mg) (T : Blt mg) (I : At P w K mg base 1 "is_speed" ["number"] spIsSpeed fI fdI) (B : At P w K mg base 1 "is_behind" ["changes", "index"] (spBehind K) fB fdB) :
    FnOk P w K mg base CX0 2 f fd ["changes"] (spChkC K) := by
  refine F.ok scChkC (fun vs H Q E h => ?_) (fun cdv A outer s H vs Q E hr h => ?_)
  · obtain ⟨a, ts, ms, rfl, _⟩ := h
    rfl
  · obtain ⟨a, ts, ms, rfl, hS, tp, fit, k⟩ := h
    refine ⟨_, pss_one (ps_for PassesOwn.never rfl (pi_enum (by rfl) C.enum (pa_cons (pv 0) pa_nil))
        (pg_tup rfl (pgs_cons (pg_name (i := 1) scChkC.nd rfl (.inl rfl)) (pgs_cons (pg_tup rfl (pgs_cons (pg_name (i := 2) scChkC.nd rfl (.inl rfl)) (pgs_cons (pg_name (i := 3) scChkC.nd rfl (.inl rfl)) pgs_nil))) pgs_nil)))
        (pss_one (ps_if (PW.pt (pw_or (pt_not (pt_val (pe_call I.ok hr (by rfl) I.at_ I.kp I.bi .nil pass0 (pa_cons (pv 3) pa_nil))))
          (pw_or1 (pt_not (pt_val (pe_call B.ok hr (by rfl) B.at_ B.kp B.bi .nil pass0 (pa_cons (pv 0) (pa_cons (pv 1) pa_nil)))))))) (pss_one ps_never) pss_nil))), ?_⟩
    have tl := tp.len
    refine ⟨_, rfl, a, _, rfl, hS, for_it (walk_enum (K := K) (a := a) (xs := ts.map V.ref)) (fun i σ J => ∃ y1 y2 y3 : Option V, σ = [some (.ref a), y1, y2, y3] ∧ Same H J) ⟨none, none, none, rfl, Same.refl H⟩ (fun i σ J _ ⟨_, _, _, _, g⟩ => g.seq hS) ?_ ?_⟩
    · rintro i x σ J J' hi ⟨y1, y2, y3, rfl, hs⟩ ⟨T', x1, x2, rfl, nT, rfl, e1, e2⟩
      obtain rfl := Option.some.inj e1
      have hi' : i < ts.length := by simpa using hi
      replace e2 : (List.map _ _)[i]? = some x2 := e2
      rw [List.getElem?_map, List.getElem?_eq_getElem hi'] at e2
      obtain rfl := Option.some.inj e2
      have s2 := hs.trans (same_new (o := .tup [.int (i : Nat), .ref ts[i]]) nT)
      obtain ⟨m, hm, hm2⟩ := (tp.same s2).get (List.getElem?_eq_getElem hi')
      refine ⟨T', _, rfl, .inl (.inl upd_same), rfl, _, _, rfl, _, [], rfl, ⟨_, _, rfl, .inl (.inl hm2), rfl, _, _, rfl, _, [], rfl, rfl, rfl, ?_⟩⟩
      have hv := fit.val _ (List.mem_of_getElem? hm)
      refine ⟨_, rfl, _, rfl, _, rfl, ?_⟩
      rw [decide_eq_true hv]
      refine ⟨_, rfl, _, rfl, ⟨a, ts, ms, i, rfl, s2.seq hS, tp.same s2, by omega, ?_⟩⟩
      rw [behind_fit fit.asc (by omega)]
      exact ⟨_, rfl, _, _, _, rfl, s2⟩
    · rintro σ J ⟨y1, y2, y3, rfl, hs⟩
      exact k J hs
end

/-- a dict comprehension over anything that is walked -/
theorem dc_it {J : It} {n : Nat} {G : Hp → Prop} {Y : Nat → Hp → V → Hp → Prop} (wk : Walk J n G Y) {g : TG} {tt : TT} {tk tv : TE} {vs : List Nat} {σ : L2.St} {H1 : Hp} {D : Addr} {Qd : Hp → Prop}
    (Pv : Nat → Hp → Prop) (h0 : Pv 0 (upd H1 D (.dK []))) (hG : ∀ i H, i ≤ n → Pv i H → G H)
    (hs : ∀ i x H H', i < n → Pv i H → Y i H x H' → g x (wipe σ vs) H' fun σ2 H2 => wipe σ2 vs = wipe σ vs ∧ tt σ2 H2 fun b H3 =>
      if b = true then tk σ2 H3 fun y H4 => tv σ2 H4 fun z H5 => ∃ kvs k, y = kV k ∧ H5 D = some (.dK kvs) ∧ kvs.length < sizeLine ∧
        Pv (i + 1) (upd H5 D (.dK (putK kvs k z))) else Pv (i + 1) H3) (hd : ∀ H, Pv n H → Qd H) :
    ∃ W : Nat → Nat → Hp → Prop, (∃ m, W 0 m (upd H1 D (.dK []))) ∧ ∀ i m H, W i m H →
      (J.stop i H ∧ Qd H) ∨ (J.go i H ∧ ∃ Nx : Hp → Prop, (∀ H', Nx H' → ∃ m', m' < m ∧ W (i + 1) m' H') ∧
        ∀ x H', J.yld i H x H' → g x (wipe σ vs) H' fun σ2 H2 => wipe σ2 vs = wipe σ vs ∧ tt σ2 H2 fun b H3 =>
          if b = true then tk σ2 H3 fun y H4 => tv σ2 H4 fun z H5 => ∃ kvs k, y = kV k ∧ H5 D = some (.dK kvs) ∧
            kvs.length < sizeLine ∧ Nx (upd H5 D (.dK (putK kvs k z))) else Nx H3) := by
  refine ⟨fun i m H => m = n - i ∧ i ≤ n ∧ Pv i H, ⟨n - 0, rfl, Nat.zero_le _, h0⟩, fun i m H hw => ?_⟩
  obtain ⟨rfl, hle, hp⟩ := hw
  rcases Nat.lt_or_ge i n with hlt | hge
  · refine Or.inr ⟨wk.goes i H hlt (hG i H hle hp), Pv (i + 1), fun H' q => ⟨n - (i + 1), by omega, rfl, hlt, q⟩, fun x H' hy => ?_⟩
    exact hs i x H H' hlt hp (wk.yields i H x H' hlt (hG i H hle hp) hy)
  · obtain rfl : i = n := by omega
    exact Or.inl ⟨wk.stops H (hG i H hle hp), hd H hp⟩
/-- the speed of the bare week -/
def paceOf (ps : List Int) (t : Int) : Int := ps.getD (t % ps.length).toNat 0
/-- the changes that change something -/
def realOf (ps : List Int) (ms : List (Int × Int)) : List (Int × Int) := ms.filter fun m => decide (m.2 ≠ paceOf ps m.1)
def kvP (m : Int × Int) : Key × V := (Sum.inl m.1, V.int m.2)
theorem valV_kvP : ∀ (ms : List (Int × Int)) (t : Int), valV (ms.map kvP) (Sum.inl t : Key) = (ms.find? fun m => decide (m.1 = t)).map fun m => V.int m.2
  | [], _ => rfl
  | m :: ms, t => by
    have ih := valV_kvP ms t
    unfold valV at ih ⊢
    rw [List.map_cons, List.find?_cons, List.find?_cons]
    have e : decide ((kvP m).1 = (Sum.inl t : Key)) = decide (m.1 = t) := by
      rw [decide_eq_decide]
      unfold kvP
      constructor
      · intro h
        injection h
      · intro h
        rw [h]
    rw [e]
    cases decide (m.1 = t) with
    | true => rfl
    | false => exact ih
theorem atI_pace {ps : List Int} {t : Int} (h : 0 < ps.length) : atI (ps.map V.int) (t % ps.length) = some (.int (paceOf ps t)) := by
  have h0 := Int.emod_nonneg t (show (ps.length : Int) ≠ 0 by omega)
  have h1 := Int.emod_lt_of_pos t (show (0 : Int) < ps.length by omega)
  obtain ⟨v, _, e, e2⟩ := atI_ints h0 h1
  rw [e2]
  unfold paceOf
  rw [List.getD_eq_getElem?_getD, e]
  rfl
def calF (l d : Addr) : List (Str × V) := putF "_changes" (.ref d) (putF "_speeds" (.ref l) [])
theorem calNe : ¬ (("_speeds" : Str) = "_changes") := by decide +kernel
theorem calF_s (l d : Addr) : (calF l d).lookup ("_speeds" : Str) = some (.ref l) := by
  unfold calF
  rw [lookup_putF, if_neg calNe, lookup_putF, if_pos rfl]
theorem calF_c (l d : Addr) : (calF l d).lookup ("_changes" : Str) = some (.ref d) := by
  unfold calF
  rw [lookup_putF, if_pos rfl]
theorem calF_no (l d : Addr) {m : Str} (h1 : ¬ m = "_changes") (h2 : ¬ m = "_speeds") : (calF l d).lookup m = none := by
  unfold calF
  rw [lookup_putF, if_neg h1, lookup_putF, if_neg h2]
  rfl
/-- a calendar with these speeds and these changes stands at x; its list at l, its dict at d -/
structure CalAt (C : Addr) (H : Hp) (x l d : Addr) (ps : List Int) (ms : List (Int × Int)) : Prop where
  ob : ∃ dx, H x = some (.ins C dx (calF l d))
  ls : H l = some (.lst (ps.map V.int))
  dc : H d = some (.dK (ms.map kvP))
theorem CalAt.same {C : Addr} {H H' : Hp} {x l d : Addr} {ps : List Int} {ms : List (Int × Int)} (h : CalAt C H x l d ps ms) (f : Same H H') : CalAt C H' x l d ps ms := by
  obtain ⟨⟨dx, h1⟩, h2, h3⟩ := h
  exact ⟨⟨dx, f _ _ h1⟩, f _ _ h2, f _ _ h3⟩
theorem CalAt.put {C : Addr} {H : Hp} {x l d c : Addr} {o : HO} {ps : List Int} {ms : List (Int × Int)} (h : CalAt C H x l d ps ms) (n1 : x ≠ c) (n2 : l ≠ c) (n3 : d ≠ c) : CalAt C (upd H c o) x l d ps ms := by
  obtain ⟨⟨dx, h1⟩, h2, h3⟩ := h
  exact ⟨⟨dx, by rw [upd_ne n1]; exact h1⟩, by rw [upd_ne n2]; exact h2, by rw [upd_ne n3]; exact h3⟩
theorem CalAt.fr {C : Addr} {H H' : Hp} {x l d p : Addr} {ps : List Int} {ms : List (Int × Int)} (h : CalAt C H x l d ps ms) (f : Fr p H H') (n1 : x ≠ p) (n2 : l ≠ p) (n3 : d ≠ p) : CalAt C H' x l d ps ms := by
  obtain ⟨⟨dx, h1⟩, h2, h3⟩ := h
  exact ⟨⟨dx, f _ _ h1 n1⟩, f _ _ h2 n2, f _ _ h3 n3⟩
def spInit (C : Addr) (K : PySem.W.Frag) : Sp := fun vs H Q _ => ∃ (x dx a b : Addr) (ps : List Int) (ts : List Addr) (ms : List (Int × Int)), vs = [.ref x, .ref a, .ref b] ∧ H x = some (.ins C dx []) ∧
  SqL K H a (ps.map V.int) ∧ SqL K H b (ts.map V.ref) ∧ Tups H ts ms ∧ Paces ps ∧ Fit ms ∧ a ≠ x ∧ b ≠ x ∧
  ∀ H' l d, CalAt C H' x l d ps (realOf ps ms) → H l = none → H d = none → (∀ c o, H c = some o → c ≠ x → H' c = some o) → Q .non H'
/-- len of a list or a tuple, told by the written part -/
def rLen (K : PySem.W.Frag) : List V → Hp → VK → Prop := fun vs H Q => ∃ (p : Addr) (ys : List V), vs = [.ref p] ∧
  (SqL K H p ys ∨ SqT K H p ys) ∧ Q (.int (ys.length : Nat)) H
/-- the class of calendars as the top has made it -/
structure Cal (K : PySem.W.Frag) (mg : Str → Option Value) (C : Addr) : Prop where
  cl : Cls K C
  nS : NoAttr K C "_speeds"
  nC : NoAttr K C "_changes"
  at_ : mg "Calendar" = some (.ref C)
section
variable {P : Program} {w : World} {K : PySem.W.Frag} {mg : Str → Option Value} {base : Heap}
theorem scInit : FnScope ["self", "speeds", "changes", "moment", "speed"] ["self", "speeds", "changes"] (defScope sInit) := ⟨rfl, rfl, rfl, by decide +kernel, rfl, by decide +kernel, by decide +kernel⟩
theorem ok_init {f fS fC C : Addr} {fd fdS fdC : FuncData} (F : Fun K "__init__" "Calendar.__init__" sInit f fd) (Z : Cal K mg C) (T : Blt mg)
    (S : At P w K mg base 2 "check_speeds" ["speeds"] (spChkS K) fS fdS) (B : At P w K mg base 2 "check_changes" ["changes"] (spChkC K) fC fdC) :
    FnOk P w K mg base CX0 3 f fd ["self", "speeds", "changes"] (spInit C K) := by
  refine F.ok scInit (fun vs H Q E h => ?_) (fun cdv A outer s H vs Q E hr h => ?_)
  · obtain ⟨x, dx, a, b, ps, ts, ms, rfl, _⟩ := h
    rfl
  · obtain ⟨x, dx, a, b, ps, ts, ms, rfl, hx, ha, hb, tp, hp, fit, ax, bx, k⟩ := h
    refine ⟨_, pss_cons (ps_expr (pe_call S.ok hr (by rfl) S.at_ S.kp S.bi .nil pass0 (pa_cons (pv 1) pa_nil)))
      (pss_cons (ps_expr (pe_call B.ok hr (by rfl) B.at_ B.kp B.bi .nil pass0 (pa_cons (pv 2) pa_nil)))
      (pss_cons (ps_fld (pv 0) (pe_callTy call_list_of (by rfl) T.list (by decide +kernel) (pa_cons (pv 1) pa_nil)) rfl)
      (pss_one (ps_fld (pv 0) (pe_dc (own := [("moment", 3), ("speed", 4)]) (g := gTup K 2 (gCons (gName 3) (gCons (gName 4) gNil))) rfl scInit.nd (pi_list (pv 2)) (blkOk_by (N := ["self", "speeds", "changes", "moment", "speed"]) (sc := defScope sInit) (by decide +kernel))
        (fun _ _ _ _ _ => pg_tup rfl (pgs_cons (pg_name (i := 3) scInit.nd rfl (.inl rfl)) (pgs_cons (pg_name (i := 4) scInit.nd rfl (.inl rfl)) pgs_nil)))
        (fun _ _ _ _ _ => pts_one (pt_cmpR op_ne (pv 4) (pe_ix (r := rIxL K) ix_list (pv 1) (pe_op op_mod (pv 3) (pe_callB (r := rLen K) call_len_seq (by rfl) T.len PySem.boot_len (pa_cons (pv 1) pa_nil))) (fun _ _ => rfl)) (nomark _)))
        (fun _ _ _ _ _ => pv 3) (fun _ _ _ _ _ => pv 4)) rfl)))), ?_⟩
    have l0 := hp.len0
    have l1 := hp.len1
    refine ⟨_, rfl, a, ps, rfl, ha, hp, fun H1 s1 => ?_⟩
    refine ⟨_, rfl, b, ts, ms, rfl, s1.seq hb, tp.same s1, fit, fun H2 s2 => ?_⟩
    have s12 := s1.trans s2
    refine ⟨_, rfl, a, _, rfl, .inl (s12.seq ha), fun l hl => ?_⟩
    have hx2 := s12 _ _ hx
    have xl : x ≠ l := ne_of_none hx2 hl
    refine ⟨_, rfl, x, C, dx, _, rfl, (by rw [upd_ne xl]; exact hx2), Z.cl, Z.nS, (by show 0 < 1000; decide), ?_⟩
    generalize hH3 : upd (upd H2 l (.lst (ps.map V.int))) x (.ins C dx (putF "_speeds" (.ref l) [])) = H3
    have f3 : ∀ c o, H c = some o → c ≠ x → H3 c = some o := fun c o e g => by
      have e2 := s12 _ _ e
      rw [← hH3, upd_ne g, upd_ne (ne_of_none e2 hl)]
      exact e2
    have sq : ∀ {c : Addr} {xs : List V}, c ≠ x → SqL K H c xs → SqL K H3 c xs := fun {c xs} g h => by
      rcases h with (h | ⟨o, h⟩) | h
      · exact .inl (.inl (f3 _ _ h g))
      · exact .inl (.inr ⟨o, f3 _ _ h g⟩)
      · exact .inr h
    have hx3 : H3 x = some (.ins C dx (putF "_speeds" (.ref l) [])) := by rw [← hH3]; exact upd_same
    have hl3 : H3 l = some (.lst (ps.map V.int)) := by rw [← hH3, upd_ne xl.symm]; exact upd_same
    have tp3 : Tups H3 ts ms := tp.imp fun t xs e => f3 _ _ e fun z => by
      rw [z, hx] at e
      cases e
    have tl := tp.len
    refine ⟨_, rfl, b, rfl, ⟨_, sq bx hb⟩, fun D hD => dc_it (walk_list (K := K) (a := b) (xs := ts.map V.ref)) (fun i J => J D = some (.dK ((realOf ps (ms.take i)).map kvP)) ∧ ∀ c o, H3 c = some o → J c = some o) ⟨upd_same, same_new hD⟩
      (fun i J _ h => (show Same H3 J from h.2).seq (sq bx hb)) ?_ ?_⟩
    · rintro i y J J' hi ⟨hJ, sJ⟩ ⟨rfl, hy⟩
      have hi' : i < ts.length := by simpa using hi
      rw [List.getElem?_map, List.getElem?_eq_getElem hi'] at hy
      obtain rfl := Option.some.inj hy
      obtain ⟨m, hm, hm2⟩ := (tp3.same (show Same H3 J' from sJ)).get (List.getElem?_eq_getElem hi')
      have et : ms.take (i + 1) = ms.take i ++ [m] := by rw [List.take_add_one, hm]; rfl
      refine ⟨_, _, rfl, .inl (.inl hm2), rfl, _, _, rfl, _, [], rfl, rfl, rfl, ?_⟩
      have hb' := sq ax ha
      have ha' : SqL K J' a (ps.map V.int) := (show Same H3 J' from sJ).seq hb'
      refine ⟨_, rfl, _, rfl, _, rfl, _, rfl, a, _, rfl, .inl ha', _, _, rfl, rfl, (by rw [List.length_map]; omega), a, _, _, _, rfl, rfl, ha', (by rw [List.length_map]; exact atI_pace l0), rfl, ?_⟩
      have ei : decide (V.int m.2 = V.int (paceOf ps m.1)) = decide (m.2 = paceOf ps m.1) := by
        rw [decide_eq_decide]
        exact ⟨fun e => by injection e, fun e => by rw [e]⟩
      rw [ei]
      by_cases hc : m.2 = paceOf ps m.1
      · rw [decide_eq_true hc]
        refine ⟨false, rfl, ?_, sJ⟩
        rw [et]
        unfold realOf
        rw [List.filter_append]
        have : List.filter (fun m => decide (m.2 ≠ paceOf ps m.1)) [m] = [] := by simp [hc]
        rw [this, List.append_nil]
        exact hJ
      · rw [decide_eq_false hc]
        have hr' : ((realOf ps (ms.take i)).map kvP).length < sizeLine := by
          rw [List.length_map]
          refine small1000 (Nat.le_trans (List.length_filter_le _ _) ?_)
          rw [List.length_take]
          have := fit.len
          omega
        have hv : valV ((realOf ps (ms.take i)).map kvP) (Sum.inl m.1 : Key) = none := by
          rw [valV_kvP, List.find?_eq_none.mpr]
          · rfl
          · intro m' hm' e'
            have h1 := (List.mem_filter.mp hm').1
            obtain ⟨j, hj, e⟩ := List.getElem_of_mem h1
            rw [List.length_take] at hj
            rw [List.getElem_take] at e
            have hi2 : i < ms.length := by omega
            have hlt := List.pairwise_iff_getElem.mp fit.asc j i (by omega) hi2 (by omega)
            rw [List.getElem?_eq_getElem hi2] at hm
            have := Option.some.inj hm
            have e3 : m'.1 = m.1 := by simpa using e'
            rw [e, this, e3] at hlt
            omega
        refine ⟨true, rfl, _, rfl, _, rfl, _, Sum.inl m.1, rfl, hJ, hr', ?_, fun c o e => ?_⟩
        · rw [upd_same, putK_new _ hv, et]
          unfold realOf
          rw [List.filter_append]
          have : List.filter (fun m => decide (m.2 ≠ paceOf ps m.1)) [m] = [m] := by simp [hc]
          rw [this, List.map_append]
          rfl
        · rw [upd_ne (ne_of_none e hD)]
          exact sJ c o e
    · rintro J ⟨hJ, sJ⟩
      rw [List.length_map, tl, List.take_length] at hJ
      refine ⟨_, rfl, x, C, dx, _, rfl, sJ _ _ hx3, Z.cl, Z.nC, (by show 1 < 1000; decide), ?_⟩
      have xD : x ≠ D := ne_of_none hx3 hD
      refine k _ l D ⟨⟨dx, upd_same⟩, ?_, ?_⟩ (s12.free hl) ?_ fun c o e g => ?_
      · rw [upd_ne xl.symm]
        exact sJ _ _ hl3
      · rw [upd_ne xD.symm]
        exact hJ
      · cases e : H D with
        | none => rfl
        | some o =>
          rw [f3 D o e (fun z => xD z.symm)] at hD
          cases hD
      · rw [upd_ne g]
        exact sJ _ _ (f3 c o e g)
end

/-! ### what a calendar tells: week, speeds, changes -/
def spWeek (C : Addr) : Sp := fun vs H Q _ => ∃ (x l d : Addr) (ps : List Int) (ms : List (Int × Int)), vs = [.ref x] ∧ CalAt C H x l d ps ms ∧ Q (.int (ps.length : Nat)) H
def spSpeeds (C : Addr) : Sp := fun vs H Q _ => ∃ (x l d : Addr) (ps : List Int) (ms : List (Int × Int)), vs = [.ref x] ∧ CalAt C H x l d ps ms ∧
  ∀ q, H q = none → Q (.ref q) (upd H q (.lst (ps.map V.int)))
def spChanges (C : Addr) : Sp := fun vs H Q _ => ∃ (x l d : Addr) (ps : List Int) (ms : List (Int × Int)), vs = [.ref x] ∧ CalAt C H x l d ps ms ∧
  ∀ (H' : Hp) (q : Addr) (ts : List Addr), Same H H' → H q = none → (∀ t ∈ ts, H t = none) → q ∉ ts → H' q = some (.lst (ts.map V.ref)) → Tups H' ts ms → Q (.ref q) H'
theorem tups_paired {H : Hp} : ∀ {ts : List Addr} {ms : List (Int × Int)}, Paired (fun (t : Addr) (q : Key × V) => H t = some (.tup [kV q.1, q.2])) ts (ms.map kvP) → Tups H ts ms
  | [], [], _ => trivial
  | [], m :: ms, h => nomatch h
  | t :: ts, [], h => nomatch h
  | t :: ts, m :: ms, h => by
    have h' : Paired (fun (t : Addr) (q : Key × V) => H t = some (.tup [kV q.1, q.2])) (t :: ts) (kvP m :: ms.map kvP) := h
    cases h' with
    | cons a b => exact ⟨a, tups_paired b⟩
section
variable {P : Program} {w : World} {K : PySem.W.Frag} {mg : Str → Option Value} {base : Heap}
theorem scGet1 : FnScope ["self"] ["self"] (defScope sWeek) := ⟨rfl, rfl, rfl, by decide +kernel, rfl, by decide +kernel, by decide +kernel⟩
theorem scGet2 : FnScope ["self"] ["self"] (defScope sSpeeds) := ⟨rfl, rfl, rfl, by decide +kernel, rfl, by decide +kernel, by decide +kernel⟩
theorem scGet3 : FnScope ["self"] ["self"] (defScope sChanges) := ⟨rfl, rfl, rfl, by decide +kernel, rfl, by decide +kernel, by decide +kernel⟩
theorem ok_week {f C : Addr} {fd : FuncData} (F : Fun K "week" "Calendar.week" sWeek f fd) (Z : Cal K mg C) (T : Blt mg) : FnOk P w K mg base CX0 1 f fd ["self"] (spWeek C) := by
  refine F.ok scGet1 (fun vs H Q E h => ?_) (fun cdv A outer s H vs Q E hr h => ?_)
  · obtain ⟨x, l, d, ps, ms, rfl, _⟩ := h
    rfl
  · obtain ⟨x, l, d, ps, ms, rfl, ⟨⟨dx, hx⟩, hl, hd⟩, k⟩ := h
    refine ⟨_, pss_one (ps_ret (pe_callB call_len_seq (by rfl) T.len PySem.boot_len (pa_cons (pe_fld (pv 0) rfl) pa_nil))), ?_⟩
    refine ⟨_, rfl, x, C, dx, _, _, rfl, hx, Z.cl, Z.nS, calF_s l d, l, _, rfl, .inl (SqL.of hl), ?_⟩
    rw [List.length_map]
    exact k
theorem ok_speeds {f C : Addr} {fd : FuncData} (F : Fun K "speeds" "Calendar.speeds" sSpeeds f fd) (Z : Cal K mg C) (T : Blt mg) : FnOk P w K mg base CX0 1 f fd ["self"] (spSpeeds C) := by
  refine F.ok scGet2 (fun vs H Q E h => ?_) (fun cdv A outer s H vs Q E hr h => ?_)
  · obtain ⟨x, l, d, ps, ms, rfl, _⟩ := h
    rfl
  · obtain ⟨x, l, d, ps, ms, rfl, ⟨⟨dx, hx⟩, hl, hd⟩, k⟩ := h
    refine ⟨_, pss_one (ps_ret (pe_callTy call_list_of (by rfl) T.list (by decide +kernel) (pa_cons (pe_fld (pv 0) rfl) pa_nil))), ?_⟩
    exact ⟨_, rfl, x, C, dx, _, _, rfl, hx, Z.cl, Z.nS, calF_s l d, l, _, rfl, .inl (SqL.of hl), k⟩
theorem ok_changes {f C : Addr} {fd : FuncData} (F : Fun K "changes" "Calendar.changes" sChanges f fd) (Z : Cal K mg C) (T : Blt mg) : FnOk P w K mg base CX0 1 f fd ["self"] (spChanges C) := by
  refine F.ok scGet3 (fun vs H Q E h => ?_) (fun cdv A outer s H vs Q E hr h => ?_)
  · obtain ⟨x, l, d, ps, ms, rfl, _⟩ := h
    rfl
  · obtain ⟨x, l, d, ps, ms, rfl, ⟨⟨dx, hx⟩, hl, hd⟩, k⟩ := h
    refine ⟨_, pss_one (ps_ret (LiI.pe_listItems rfl (pe_fld (pv 0) rfl) (by rfl) T.list (by decide +kernel))), ?_⟩
    exact ⟨_, rfl, x, C, dx, _, _, rfl, hx, Z.cl, Z.nC, calF_c l d, d, _, rfl, hd, fun H' q ts s1 nq nt qt hq hp => k H' q ts s1 nq nt qt hq (tups_paired hp)⟩
end
/-- a property of the calendars, by its getter -/
structure Pp (P : Program) (w : World) (K : PySem.W.Frag) (mg : Str → Option Value) (base : Heap) (C : Addr) (x : Str) (sp : Sp) (p g : Addr) (fd : FuncData) : Prop where
  of : PropOf K C x p g
  ok : FnOk P w K mg base CX0 1 g fd ["self"] sp
  bi : Binds K fd ["self"] []

/-! ### data whose repr is short -/
structure Rp (d : PyData) (n k : Nat) : Prop where
  lv : d.leavesShort 42 = true
  sh : d.showable = true
  nd : d.hasDict = false
  dp : d.depth ≤ k
  bk : d.bulk ≤ n
structure RpA (xs : List PyData) (n k : Nat) : Prop where
  lv : PyData.leavesShortAll 42 xs = true
  sh : PyData.showableAll xs = true
  nd : PyData.hasDictAll xs = false
  dp : PyData.depthAll xs ≤ k
  bk : PyData.bulkAll xs ≤ n
theorem Rp.int {i : Int} (h0 : -10 ^ 40 < i) (h1 : i < 10 ^ 40) : Rp (.int i) 0 0 := by
  have h : i.natAbs < 10 ^ 40 := by omega
  refine ⟨?_, ?_, rfl, Nat.le_refl _, Nat.le_refl _⟩
  · refine decide_eq_true ?_
    have e := int_text_length_le10 (k := 40) (by decide) h
    show (Str.ofString (toString i)).length ≤ 42
    rw [PySem.ofString_length]
    omega
  · refine decide_eq_true ?_
    by_cases z : i.natAbs = 0
    · rw [z]
      decide
    · have : i.natAbs < 2 ^ 1920 := Nat.lt_trans h (by decide)
      exact (Nat.log2_lt z).mpr this
theorem Rp.bool (b : Bool) : Rp (.bool b) 0 0 := ⟨rfl, rfl, rfl, Nat.le_refl _, Nat.le_refl _⟩
theorem Rp.none : Rp .none 0 0 := ⟨rfl, rfl, rfl, Nat.le_refl _, Nat.le_refl _⟩
theorem Rp.mono {d : PyData} {n k n' k' : Nat} (h : Rp d n k) (g1 : n ≤ n') (g2 : k ≤ k') : Rp d n' k' := ⟨h.lv, h.sh, h.nd, Nat.le_trans h.dp g2, Nat.le_trans h.bk g1⟩
theorem RpA.mono {d : List PyData} {n k n' k' : Nat} (h : RpA d n k) (g1 : n ≤ n') (g2 : k ≤ k') : RpA d n' k' := ⟨h.lv, h.sh, h.nd, Nat.le_trans h.dp g2, Nat.le_trans h.bk g1⟩
theorem Rp.list {xs : List PyData} {n k : Nat} (h : RpA xs n k) : Rp (.list xs) n (k + 1) :=
  ⟨by simp only [PyData.leavesShort, h.lv], by simp only [PyData.showable, h.sh], by simp only [PyData.hasDict, h.nd], by simp only [PyData.depth]; have := h.dp; omega, by simp only [PyData.bulk]; exact h.bk⟩
theorem Rp.tup {xs : List PyData} {n k : Nat} (h : RpA xs n k) : Rp (.tuple xs) n (k + 1) :=
  ⟨by simp only [PyData.leavesShort, h.lv], by simp only [PyData.showable, h.sh], by simp only [PyData.hasDict, h.nd], by simp only [PyData.depth]; have := h.dp; omega, by simp only [PyData.bulk]; exact h.bk⟩
theorem RpA.nil : RpA [] 0 0 := ⟨rfl, rfl, rfl, Nat.le_refl _, Nat.le_refl _⟩
theorem RpA.cons {d : PyData} {xs : List PyData} {n k m j : Nat} (h : Rp d n k) (g : RpA xs m j) : RpA (d :: xs) (n + 1 + m) (k + j) :=
  ⟨by simp only [PyData.leavesShortAll, h.lv, g.lv, Bool.and_self], by simp only [PyData.showableAll, h.sh, g.sh, Bool.and_self], by simp only [PyData.hasDictAll, h.nd, g.nd, Bool.or_self],
    by simp only [PyData.depthAll]; have := h.dp; have := g.dp; omega, by simp only [PyData.bulkAll]; have := h.bk; have := g.bk; omega⟩
theorem RpA.all {n k : Nat} : ∀ {xs : List PyData}, (∀ d ∈ xs, Rp d n k) → RpA xs (xs.length * (n + 1)) k
  | [], _ => RpA.nil.mono (Nat.zero_le _) (Nat.zero_le _)
  | d :: xs, h => by
    have h1 := h d List.mem_cons_self
    have h2 := RpA.all (xs := xs) fun e he => h e (List.mem_cons_of_mem _ he)
    refine ⟨by simp only [PyData.leavesShortAll, h1.lv, h2.lv, Bool.and_self], by simp only [PyData.showableAll, h1.sh, h2.sh, Bool.and_self], by simp only [PyData.hasDictAll, h1.nd, h2.nd, Bool.or_self], ?_, ?_⟩
    · simp only [PyData.depthAll]
      have := h1.dp
      have := h2.dp
      omega
    · simp only [PyData.bulkAll]
      have := h1.bk
      have := h2.bk
      rw [List.length_cons, Nat.add_mul]
      omega
theorem Rp.fits {d : PyData} {n k : Nat} (h : Rp d n k) (g : n ≤ 300000) : d.shown.length ≤ sizeLine := by
  have e := PyData.shown_le_bulk 42 (by decide) d h.lv
  have := h.bk
  rw [sizeLine_eq]
  omega
def rRep2 (K : PySem.W.Frag) : List V → Hp → VK → Prop := fun xs H Q => ∃ (a : Addr) (d : PyData) (n k : Nat), xs = [.ref a] ∧ Dp K H (.ref a) d ∧ Rp d n k ∧ k ≤ 60 ∧ n ≤ 300000 ∧ Q (.str d.shown) H
theorem call_rep2 {X : Cx} (hgd : X.A.guards = some []) (hu : X.A.units + 64 < cLine) : CallR X (.builtin "repr") (rRep2 X.K) := by
  intro pins s σ H xs us Q I r h
  obtain ⟨a, d, n, k, e, hd, hr, hk, hn, q⟩ := h
  exact call_repr hgd hu pins s σ H xs us Q I r ⟨a, d, e, hd, hr.sh, hr.nd, Nat.le_trans hr.dp hk, hr.fits hn, q⟩
/-! ### which data stand where -/
def dInts (xs : List Int) : PyData := .list (xs.map PyData.int)
def dMarks (ms : List (Int × Int)) : PyData := .list (ms.map fun m => PyData.tuple [.int m.1, .int m.2])
theorem dpAll_ints {K : PySem.W.Frag} {H : Hp} : ∀ xs : List Int, DpAll K H (xs.map V.int) (xs.map PyData.int)
  | [] => .nil
  | x :: xs => .cons (.int x) (dpAll_ints xs)
theorem dp_ints {K : PySem.W.Frag} {H : Hp} {a : Addr} {xs : List Int} (h : SqL K H a (xs.map V.int)) : Dp K H (.ref a) (dInts xs) := .lst h (dpAll_ints xs)
theorem dpAll_marks {K : PySem.W.Frag} {H : Hp} : ∀ {ts : List Addr} {ms : List (Int × Int)}, Tups H ts ms → DpAll K H (ts.map V.ref) (ms.map fun m => PyData.tuple [.int m.1, .int m.2])
  | [], [], _ => .nil
  | _ :: _, m :: _, h => .cons (.tup (SqT.of h.1) (.cons (.int m.1) (.cons (.int m.2) .nil))) (dpAll_marks h.2)
theorem dp_marks {K : PySem.W.Frag} {H : Hp} {a : Addr} {ts : List Addr} {ms : List (Int × Int)} (h : SqL K H a (ts.map V.ref)) (g : Tups H ts ms) : Dp K H (.ref a) (dMarks ms) := .lst h (dpAll_marks g)
theorem rp_ints {xs : List Int} (h : ∀ v ∈ xs, -10 ^ 40 < v ∧ v < 10 ^ 40) : Rp (dInts xs) xs.length 1 := by
  have := RpA.all (xs := xs.map PyData.int) (n := 0) (k := 0) fun d hd => by
    obtain ⟨v, hv, rfl⟩ := List.mem_map.mp hd
    exact Rp.int (h v hv).1 (h v hv).2
  refine (Rp.list this).mono ?_ (Nat.le_refl _)
  rw [List.length_map]
  omega
theorem rp_marks {ms : List (Int × Int)} (h : ∀ m ∈ ms, -10 ^ 40 < m.1 ∧ m.1 < 10 ^ 40 ∧ -10 ^ 40 < m.2 ∧ m.2 < 10 ^ 40) : Rp (dMarks ms) (ms.length * 3) 2 := by
  have := RpA.all (xs := ms.map fun m => PyData.tuple [.int m.1, .int m.2]) (n := 2) (k := 1) fun d hd => by
    obtain ⟨m, hm, rfl⟩ := List.mem_map.mp hd
    have g := h m hm
    exact (Rp.tup (.cons (Rp.int g.1 g.2.1) (.cons (Rp.int g.2.2.1 g.2.2.2) .nil))).mono (by omega) (by omega)
  refine (Rp.list this).mono ?_ (Nat.le_refl _)
  rw [List.length_map]
  omega

/-! ### operators of own classes -/
section
variable {X : Cx} {k : Nat} {f C : Addr} {fd : FuncData} {ps : List Str} {sp : Sp}
theorem run_in1 {pins : List (Addr × Obj)} {σ : L2.St} {H : Hp} {s : Shared} {Q : VK} {us : List Value} {vs : List V} (F : FnOk X.prog X.w X.K X.mg X.base CX0 k f fd ps sp) (hr : Room (k + 1) X.A)
    (hb : Binds X.K fd ps []) (I : Inv X pins σ H s) (r : Vals vs us) (h : sp vs H Q E0) : wpAny (model X.prog X.w) X.A.in1 (call (.ref f) us) (EP X pins σ Q) X.xe s := by
  have hl : us.length = ps.length := r.length.symm.trans (F.len _ _ _ _ h)
  have bi := hb s us I.kIn (by rw [List.append_nil]; exact hl)
  rw [List.append_nil] at bi
  refine wpAny_call (codeAny_mono (F.run X.A.in1 X.stack s H ⟨us, []⟩ us vs Q E0 hr.in1 I.env0.in1 bi r h) fun res s2 hq => ?_)
  rcases res with er | fl
  · exact False.elim hq
  · rcases fl with _ | _ | _ | u
    iterate 3 exact False.elim hq
    exact I.after hq
theorem run_here {pins : List (Addr × Obj)} {σ : L2.St} {H : Hp} {s : Shared} {Q : VK} {us : List Value} {vs : List V} (F : FnOk X.prog X.w X.K X.mg X.base CX0 k f fd ps sp) (hr : Room k X.A)
    (hb : Binds X.K fd ps []) (I : Inv X pins σ H s) (r : Vals vs us) (h : sp vs H Q E0) : wpAny (model X.prog X.w) X.A (call (.ref f) us) (EP X pins σ Q) X.xe s := by
  have q : sp (vs ++ []) H Q E0 := by rw [List.append_nil]; exact h
  exact run_fn F hr hb .nil pass0 I r q
/-- what stands behind x[i], i in x of an own class -/
structure Own (K : PySem.W.Frag) (C : Addr) (m : Str) (f : Addr) : Prop where
  at_ : PySem.W.findIn K (.ref C) m = some (some (.ref f))
  fn : PySem.W.isFn K (.ref f) = true
  fi : PySem.W.fnIn K f = true
def rOwn (C : Addr) (sp : Sp) : R2 := fun x y H Q => ∃ a dx fs, x = .ref a ∧ H a = some (.ins C dx fs) ∧ sp [.ref a, y] H Q E0
theorem ix_own (o : Own X.K C "__getitem__" f) (F : FnOk X.prog X.w X.K X.mg X.base CX0 k f fd ps sp) (hr : Room (k + 1) X.A) (hb : Binds X.K fd ps [])
    {a b : Expr} {ta tb : TE} {pos : Pos} (ha : PE X a ta) (hi : PE X b tb)
    (hsl : ∀ (x : Addr) (i : Value), subscripted b true (.ref x) i = runValue (.builtin "lifetime.subscript" ⟨[.ref x, i], []⟩) := by intro _ _; with_unfolding_all rfl) :
    PE X (.Subscript a b pos) (tOp (rOwn C sp) ta tb) := by
  refine ⟨fun pins s σ H Q I h => ?_⟩
  refine Subscript_ (binT ha hi I h fun v u s2 x y H2 I2 rx ry q => ?_)
  obtain ⟨p, dx, fs, rfl, ea, hq⟩ := q
  obtain rfl : v = Value.ref p := rx
  obtain ⟨m, fr⟩ := I2.fr
  obtain ⟨mA, O, _⟩ := ins_get I2.hok ea
  obtain ⟨od, J, _⟩ := O.look
  exact PySem.W.sub_K fr I2.ok.mod.kin J o.at_ o.fi o.fn (run_in1 F hr hb I2 (.cons (show L2.RelV (V.ref p) (Value.ref p) from rfl) (.cons ry .nil)) hq) (hsl p u)
def rIn (C : Addr) (sp : Sp) : R2 := fun y x H Q => ∃ a dx fs, x = .ref a ∧ H a = some (.ins C dx fs) ∧ sp [.ref a, y] H (fun r H' => ∃ b, r = .bl b ∧ Q (.bl b) H') E0
theorem op_inOwn (o : Own X.K C "__contains__" f) (F : FnOk X.prog X.w X.K X.mg X.base CX0 k f fd ps sp) (hr : Room k X.A) (hb : Binds X.K fd ps []) : OpR X (compareOp .In) (rIn C sp) := by
  intro pins s σ H y x v u Q I ry rx h
  obtain ⟨p, dx, fs, rfl, ea, hq⟩ := h
  obtain rfl : u = Value.ref p := rx
  obtain ⟨m, fr⟩ := I.fr
  obtain ⟨mA, O, _⟩ := ins_get I.hok ea
  obtain ⟨od, J, _⟩ := O.look
  refine PySem.W.in_K fr I.ok.mod.kin J o.at_ o.fn (thn (run_here F hr hb I (.cons (show L2.RelV (V.ref p) (Value.ref p) from rfl) (.cons ry .nil)) hq) fun r s2 ⟨z, H2, I2, rz, b, eb, q2⟩ => ?_)
  subst eb
  obtain rfl : r = Value.bool b := rz
  exact wpAny_truthy_bool ⟨.bl b, H2, I2, rfl, q2⟩
end
/-- the speed that a calendar has at a moment -/
def speedAt (ps : List Int) (ms : List (Int × Int)) (t : Int) : Int := ((ms.find? fun m => decide (m.1 = t)).map fun m => m.2).getD (paceOf ps t)
def spGet (C : Addr) : Sp := fun vs H Q _ => ∃ (x l d : Addr) (ps : List Int) (ms : List (Int × Int)) (t : Int), vs = [.ref x, .int t] ∧ CalAt C H x l d ps ms ∧ 0 < ps.length ∧ Q (.int (speedAt ps ms t)) H
def spHas (C : Addr) : Sp := fun vs H Q _ => ∃ (x l d : Addr) (ps : List Int) (ms : List (Int × Int)) (t : Int), vs = [.ref x, .int t] ∧ CalAt C H x l d ps ms ∧ 0 < ps.length ∧ Q (.bl (decide (speedAt ps ms t ≠ 0))) H
section
variable {P : Program} {w : World} {K : PySem.W.Frag} {mg : Str → Option Value} {base : Heap}
theorem scGet : FnScope ["self", "at"] ["self", "at"] (defScope sGet) := ⟨rfl, rfl, rfl, by decide +kernel, rfl, by decide +kernel, by decide +kernel⟩
theorem ok_get {f C : Addr} {fd : FuncData} (F : Fun K "__getitem__" "Calendar.__getitem__" sGet f fd) (Z : Cal K mg C) (T : Blt mg) : FnOk P w K mg base CX0 1 f fd ["self", "at"] (spGet C) := by
  refine F.ok scGet (fun vs H Q E h => ?_) (fun cdv A outer s H vs Q E hr h => ?_)
  · obtain ⟨x, l, d, ps, ms, t, rfl, _⟩ := h
    rfl
  · obtain ⟨x, l, d, ps, ms, t, rfl, ⟨⟨dx, hx⟩, hl, hd⟩, l0, k⟩ := h
    have hu := hu_of hr
    refine ⟨_, pss_one (ps_ret (pe_dget2 hu (pe_fld (pv 0) rfl) (pv 1) (pe_ix ix_list (pe_fld (pv 0) rfl) (pe_op op_mod (pv 1) (pe_callB call_len_seq (by rfl) T.len PySem.boot_len (pa_cons (pe_fld (pv 0) rfl) pa_nil))) (fun _ _ => rfl)) ⟨rfl, rfl, rfl, rfl⟩)), ?_⟩
    have hz : (((ps.map V.int).length : Nat) : Int) = ps.length := by rw [List.length_map]
    refine ⟨_, rfl, x, C, dx, _, _, rfl, hx, Z.cl, Z.nC, calF_c l d, d, rfl, .inl ⟨_, .inl hd⟩, _, rfl, _, rfl, x, C, dx, _, _, rfl, hx, Z.cl, Z.nS, calF_s l d, _, rfl, _, rfl, x, C, dx, _, _, rfl, hx, Z.cl, Z.nS, calF_s l d, l, _, rfl, .inl (SqL.of hl), _, _, rfl, rfl, ?_, l, _, _, .int (paceOf ps t), rfl, rfl, SqL.of hl, ?_, ?_⟩
    · rw [hz]
      omega
    · rw [hz]
      exact atI_pace l0
    · refine ⟨_, DGet.k (k := Sum.inl t) hd, ?_⟩
      rw [valV_kvP]
      unfold speedAt at k
      cases e : ms.find? fun m => decide (m.1 = t) with
      | none =>
        rw [e] at k
        exact k
      | some m =>
        rw [e] at k
        exact k
theorem scHas : FnScope ["self", "x"] ["self", "x"] (defScope sHas) := ⟨rfl, rfl, rfl, by decide +kernel, rfl, by decide +kernel, by decide +kernel⟩
theorem ok_has {f g C : Addr} {fd gd : FuncData} (F : Fun K "__contains__" "Calendar.__contains__" sHas f fd) (o : Own K C "__getitem__" g) (G : FnOk P w K mg base CX0 1 g gd ["self", "at"] (spGet C)) (bG : Binds K gd ["self", "at"] []) :
    FnOk P w K mg base CX0 3 f fd ["self", "x"] (spHas C) := by
  refine F.ok scHas (fun vs H Q E h => ?_) (fun cdv A outer s H vs Q E hr h => ?_)
  · obtain ⟨x, l, d, ps, ms, t, rfl, _⟩ := h
    rfl
  · obtain ⟨x, l, d, ps, ms, t, rfl, cal, l0, k⟩ := h
    obtain ⟨dx, hx⟩ := cal.ob
    refine ⟨_, pss_one (ps_ret (pe_cmpR op_ne (ix_own o G hr bG (pv 0) (pv 1)) pe_int (nomark _))), ?_⟩
    refine ⟨_, rfl, _, rfl, x, dx, _, rfl, hx, ⟨x, l, d, ps, ms, t, rfl, cal, l0, rfl, ?_⟩⟩
    have e : (!decide (V.int (speedAt ps ms t) = V.int 0)) = decide (speedAt ps ms t ≠ 0) := by
      by_cases z : speedAt ps ms t = 0
      · rw [z]
        rfl
      · have z2 : ¬ V.int (speedAt ps ms t) = V.int 0 := fun q => z (by injection q)
        rw [decide_eq_false z2, decide_eq_true z]
        rfl
    rw [e]
    exact k
end

/-! ### a law's own speed at a moment -/
theorem find_at {p : Int × Int → Bool} : ∀ {ms : List (Int × Int)} {i : Nat} {m : Int × Int}, ms[i]? = some m → (ms.take i).find? p = none → p m = true → ms.find? p = some m
  | [], i, m, h, _, _ => by simp at h
  | a :: ms, 0, m, h, _, g => by
    obtain rfl := Option.some.inj h
    rw [List.find?_cons, g]
  | a :: ms, i + 1, m, h, f, g => by
    rw [List.take_succ_cons, List.find?_cons] at f
    rw [List.find?_cons]
    cases e : p a with
    | true =>
      rw [e] at f
      cases f
    | false =>
      rw [e] at f
      exact find_at (ms := ms) (i := i) h f g
theorem find_more {p : Int × Int → Bool} {ms : List (Int × Int)} {i : Nat} {m : Int × Int} (h : ms[i]? = some m) (f : (ms.take i).find? p = none) (g : p m = false) : (ms.take (i + 1)).find? p = none := by
  rw [List.take_add_one, h, List.find?_append, f]
  show (List.find? p [m]) = none
  rw [List.find?_cons, g]
  rfl
theorem speed_hit {ps : List Int} {ms : List (Int × Int)} {t : Int} {m : Int × Int} (h : (ms.find? fun m => decide (m.1 = t)) = some m) : speedAt ps ms t = m.2 := by
  unfold speedAt
  rw [h]
  rfl
theorem speed_miss {ps : List Int} {ms : List (Int × Int)} {t : Int} (h : (ms.find? fun m => decide (m.1 = t)) = none) : speedAt ps ms t = paceOf ps t := by
  unfold speedAt
  rw [h]
  rfl
theorem speed_real {ps : List Int} : ∀ {ms : List (Int × Int)} {t : Int}, (ms.Pairwise fun a b => a.1 < b.1) → speedAt ps (realOf ps ms) t = speedAt ps ms t
  | [], t, _ => rfl
  | m :: ms, t, h => by
    have h2 := List.pairwise_cons.mp h
    have ih := speed_real (ps := ps) (ms := ms) (t := t) h2.2
    by_cases e : m.1 = t
    · have hit : ((m :: ms).find? fun m => decide (m.1 = t)) = some m := by rw [List.find?_cons, decide_eq_true e]
      rw [speed_hit hit]
      by_cases c : m.2 = paceOf ps m.1
      · have er : realOf ps (m :: ms) = realOf ps ms := by unfold realOf; simp [c]
        rw [er, ih, speed_miss, c, e]
        refine List.find?_eq_none.mpr fun m' hm' e' => ?_
        have := h2.1 m' hm'
        have e2 : m'.1 = t := by simpa using e'
        omega
      · have er : realOf ps (m :: ms) = m :: realOf ps ms := by unfold realOf; simp [c]
        rw [er]
        exact speed_hit (by rw [List.find?_cons, decide_eq_true e])
    · have miss : ∀ l : List (Int × Int), speedAt ps (m :: l) t = speedAt ps l t := fun l => by
        unfold speedAt
        rw [List.find?_cons, decide_eq_false e]
      rw [miss]
      by_cases c : m.2 = paceOf ps m.1
      · have er : realOf ps (m :: ms) = realOf ps ms := by unfold realOf; simp [c]
        rw [er]
        exact ih
      · have er : realOf ps (m :: ms) = m :: realOf ps ms := by unfold realOf; simp [c]
        rw [er, miss]
        exact ih
theorem pace_in {ps : List Int} {t : Int} (h : 0 < ps.length) : paceOf ps t ∈ ps := by
  have h0 := Int.emod_nonneg t (show (ps.length : Int) ≠ 0 by omega)
  have h1 := Int.emod_lt_of_pos t (show (0 : Int) < ps.length by omega)
  obtain ⟨v, hv, e, _⟩ := atI_ints h0 h1
  unfold paceOf
  rw [List.getD_eq_getElem?_getD, e]
  exact hv
theorem speed_lo {ps : List Int} {ms : List (Int × Int)} (hp : Paces ps) (fit : Fit ms) (t : Int) : 0 ≤ speedAt ps ms t ∧ speedAt ps ms t ≤ 3 := by
  cases e : ms.find? fun m => decide (m.1 = t) with
  | none =>
    rw [speed_miss e]
    exact hp.lo _ (pace_in hp.len0)
  | some m =>
    rw [speed_hit e]
    exact fit.val m (List.mem_of_find?_eq_some e)
def spPace : Sp := fun vs H Q _ => ∃ (a b : Addr) (ps : List Int) (ts : List Addr) (ms : List (Int × Int)) (t : Int), vs = [.ref a, .ref b, .int t] ∧ H a = some (.lst (ps.map V.int)) ∧ H b = some (.lst (ts.map V.ref)) ∧ Tups H ts ms ∧ 0 < ps.length ∧
  Q (.int (speedAt ps ms t)) H
section
variable {P : Program} {w : World} {K : PySem.W.Frag} {mg : Str → Option Value} {base : Heap}
theorem scPace : FnScope ["paces", "marks", "at", "spot", "pace"] ["paces", "marks", "at"] (defScope sPace) := ⟨rfl, rfl, rfl, by decide +kernel, rfl, by decide +kernel, by decide +kernel⟩
theorem ok_pace {f : Addr} {fd : FuncData} (F : Fun K "_law_pace" "_law_pace" sPace f fd) (T : Blt mg) : FnOk P w K mg base CX0 1 f fd ["paces", "marks", "at"] spPace := by
  refine F.ok scPace (fun vs H Q E h => ?_) (fun cdv A outer s H vs Q E hr h => ?_)
  · obtain ⟨a, b, ps, ts, ms, t, rfl, _⟩ := h
    rfl
  · obtain ⟨a, b, ps, ts, ms, t, rfl, ha, hb, tp, l0, k⟩ := h
    refine ⟨_, pss_cons (ps_for PassesOwn.never rfl (pi_list (pv 1)) (pg_tup rfl (pgs_cons (pg_name (i := 3) scPace.nd rfl (.inl rfl)) (pgs_cons (pg_name (i := 4) scPace.nd rfl (.inl rfl)) pgs_nil)))
        (pss_one (ps_if (pt_cmpR op_eq (pv 3) (pv 2) (nomark _)) (pss_one (ps_ret (pv 4))) pss_nil)))
      (pss_one (ps_ret (pe_ix ix_list (pv 0) (pe_op op_mod (pe_callTy call_int1 (by rfl) T.int (by decide +kernel) (pa_cons (pv 2) pa_nil)) (pe_callB call_len_seq (by rfl) T.len PySem.boot_len (pa_cons (pv 0) pa_nil))) (fun _ _ => rfl)))), ?_⟩
    have tl := tp.len
    refine ⟨_, rfl, b, rfl, ⟨_, SqL.of hb⟩, for_list (K := K) (a := b) (xs := ts.map V.ref) (fun i σ J => J = H ∧ (∃ y3 y4 : Option V, σ = [some (.ref a), some (.ref b), some (.int t), y3, y4]) ∧ ((ms.take i).find? fun m => decide (m.1 = t)) = none)
      ⟨rfl, ⟨none, none, rfl⟩, rfl⟩ (fun i σ J _ h => by rw [h.1]; exact SqL.of hb) ?_ ?_⟩
    · rintro i y σ J hi ⟨rfl, ⟨y3, y4, rfl⟩, hf⟩
      have hi' : i < ts.length := by
        have := (List.getElem?_eq_some_iff.mp hi).1
        simpa using this
      rw [List.getElem?_map, List.getElem?_eq_getElem hi'] at hi
      obtain rfl := Option.some.inj hi
      obtain ⟨m, hm, hm2⟩ := tp.get (List.getElem?_eq_getElem hi')
      refine ⟨_, _, rfl, .inl (.inl hm2), rfl, _, _, rfl, _, [], rfl, rfl, _, rfl, _, rfl, rfl, _, rfl, ite2 (fun g => ?_) (fun g => ?_)⟩
      · have e : m.1 = t := by
          have := of_decide_eq_true g
          injection this
        refine ⟨_, rfl, ?_⟩
        rw [speed_hit (find_at hm hf (decide_eq_true e))] at k
        exact k
      · have e : ¬ m.1 = t := fun q => g (decide_eq_true (by rw [q]))
        exact ⟨rfl, ⟨_, _, rfl⟩, find_more hm hf (decide_eq_false e)⟩
    · rintro σ J ⟨rfl, ⟨y3, y4, rfl⟩, hf⟩
      rw [List.length_map, tl, List.take_length] at hf
      have hz : (((ps.map V.int).length : Nat) : Int) = ps.length := by rw [List.length_map]
      rw [speed_miss hf] at k
      refine ⟨_, rfl, _, rfl, .inl ⟨_, rfl, _, rfl, a, _, rfl, .inl (SqL.of ha), _, _, rfl, rfl, ?_, a, _, _, .int (paceOf ps t), rfl, rfl, SqL.of ha, ?_, k⟩⟩
      · rw [hz]
        omega
      · rw [hz]
        exact atI_pace l0
end

/-! ### the law's own loop -/
def Scr (K : PySem.W.Frag) (H : Hp) (a : Addr) (xs : List V) : Prop := (∃ o, H a = some (.frz o (.lst xs))) ∨ ∀ J : Hp, SqL K J a xs
theorem Scr.seq {K : PySem.W.Frag} {H : Hp} {a : Addr} {xs : List V} (h : Scr K H a xs) : SqL K H a xs := by
  rcases h with ⟨o, h⟩ | h
  · exact .inl (.inr ⟨o, h⟩)
  · exact h H
theorem Scr.of {K : PySem.W.Frag} {H : Hp} {a : Addr} {xs : List V} (o : Only H) (h : SqL K H a xs) : Scr K H a xs := by
  rcases h with (h | ⟨u, h⟩) | h
  · rcases o a with z | ⟨u, ys, z⟩
    · rw [z] at h
      cases h
    · rw [z] at h
      cases h
  · exact .inl ⟨u, h⟩
  · exact .inr fun J => .inr h
theorem Scr.same {K : PySem.W.Frag} {H H' : Hp} {a : Addr} {xs : List V} (h : Scr K H a xs) (f : Same H H') : Scr K H' a xs := by
  rcases h with ⟨o, h⟩ | h
  · exact .inl ⟨o, f _ _ h⟩
  · exact .inr h
theorem Scr.fr {K : PySem.W.Frag} {H H' : Hp} {a p : Addr} {n : Nat} {xs : List V} (h : Scr K H a xs) (g : Well H p n) (f : Fr p H H') : Scr K H' a xs := by
  rcases h with ⟨o, h⟩ | h
  · refine .inl ⟨o, f _ _ h fun z => ?_⟩
    obtain ⟨x, y, u, e, _⟩ := g
    rw [z, e] at h
    cases h
  · exact .inr h
def spFits : Sp := fun vs H Q _ => ∃ (p : Addr) (n : Nat), vs = [.ref p] ∧ Well H p n ∧ n ≤ 10 ^ 6 ∧ ∀ H', Fr p H H' → Well H' p (n + 1000) → Q (.bl true) H'
def spLaw (K : PySem.W.Frag) : Sp := fun vs H Q _ => ∃ (a : Addr) (ns : List Int), vs = [.ref a] ∧ Scr K H a (ns.map V.int) ∧ ns.length ≤ 63 ∧ ∀ H', Q (.bl true) H'
/-- the turns of the inner loop -/
def turns : Nat := match defBody sLaw with
  | .For _ _ (_ :: .For _ (.Call _ (.Constant (.int n) _ _ :: _) _ _) _ _ _ :: _) _ _ :: _ => n.toNat
  | _ => 0
section
variable {P : Program} {w : World} {K : PySem.W.Frag} {mg : Str → Option Value} {base : Heap}
theorem scLaw : FnScope ["script", "place", "well", "turn"] ["script"] (defScope sLaw) := ⟨rfl, rfl, rfl, by decide +kernel, rfl, by decide +kernel, by decide +kernel⟩
theorem ok_law {f fW fF : Addr} {fd fdW fdF : FuncData} {k : Nat} (hk : 1 ≤ k) (F : Fun K "law" "law" sLaw f fd) (T : Blt mg) (W : At P w K mg base 1 "_law_well" ["script", "place"] (spWell K) fW fdW)
    (G : FnG P w K mg base k fF fdF ["well"] spFits) (gF : mg "_law_fits" = some (.ref fF)) (kF : PySem.W.keepIn K (.ref fF) = true) (bF : Binds K fdF ["well"] []) : FnG P w K mg base (k + 1) f fd ["script"] (spLaw K) := by
  refine okG F scLaw (fun vs H Q E h => ?_) (fun cdv A outer s H vs Q E hgd hr h => ?_)
  · obtain ⟨a, ns, rfl, _⟩ := h
    rfl
  · obtain ⟨a, ns, rfl, hS, hl, q⟩ := h
    have hr1 : Room 1 _ := hr.mono hk
    refine ⟨_, pss_cons (ps_for PassesOwn.never rfl (pi_range1 (by rfl) T.range (pa_cons (pe_callB (call_max2 rfl) (by rfl) T.max (by decide +kernel) (pa_cons pe_int (pa_cons (pe_callB (call_min2 rfl) (by rfl) T.min (by decide +kernel)
          (pa_cons pe_int (pa_cons (pe_callB call_len_seq (by rfl) T.len PySem.boot_len (pa_cons (pv 0) pa_nil)) pa_nil))) pa_nil))) pa_nil)) (pg_name (i := 1) scLaw.nd rfl (.inl rfl))
        (pss_cons (ps_set (i := 2) scLaw.nd rfl (.inl rfl) (pe_call W.ok hr1 (by rfl) W.at_ W.kp W.bi .nil pass0 (pa_cons (pv 0) (pa_cons (pv 1) pa_nil))))
        (pss_one (ps_for PassesOwn.never rfl (pi_range1 (by rfl) T.range (pa_cons pe_int pa_nil)) (pg_name (i := 3) scLaw.nd rfl (.inl rfl))
          (pss_one (ps_if (pt_not (pt_val (pe_callG G hgd hr (by rfl) gF kF bF (pa_cons (pv 2) pa_nil)))) (pss_one (ps_ret pe_bl)) pss_nil))))))
      (pss_one (ps_ret pe_bl)), ?_⟩
    refine ⟨_, rfl, a, _, rfl, .inl hS.seq, 32, _, rfl, 1, _, rfl, ?_⟩
    generalize hm : (if (if (((ns.map V.int).length : Nat) : Int) < 32 then (((ns.map V.int).length : Nat) : Int) else 32) > 1 then (if (((ns.map V.int).length : Nat) : Int) < 32 then (((ns.map V.int).length : Nat) : Int) else 32) else 1) = m
    have m1 : 1 ≤ m ∧ m ≤ 63 := by
      rw [← hm]
      split <;> split <;> omega
    refine ⟨m, rfl, by omega, by omega, for_range (lo := 0) (n := m.toNat) (fun i σ J => ∃ y1 y2 y3 : Option V, σ = [some (.ref a), y1, y2, y3] ∧ Scr K J a (ns.map V.int)) ⟨none, none, none, rfl, hS⟩ ?_ ?_⟩
    · rintro i σ J hi ⟨y1, y2, y3, rfl, hJ⟩
      refine ⟨_, rfl, _, rfl, ⟨a, ns, _, rfl, hJ.seq, hl, by omega, by omega, fun p J1 np s1 w1 => ?_⟩⟩
      refine ⟨turns, rfl, by decide +kernel, by decide +kernel, for_range (lo := 0) (n := turns) (fun j σ J2 => ∃ y3 : Option V, σ = [some (.ref a), some (.int (0 + i)), some (.ref p), y3] ∧ Scr K J2 a (ns.map V.int) ∧ Well J2 p (j * 1000)) ⟨_, rfl, hJ.same s1, w1.mono (by omega)⟩ ?_ ?_⟩
      · rintro j σ J2 hj ⟨y3, rfl, hJ2, w2⟩
        have tb : turns ≤ 100 := by decide +kernel
        refine ⟨_, rfl, ⟨p, _, rfl, w2, by omega, fun J3 f3 w3 => ⟨_, rfl, ?_⟩⟩⟩
        exact ⟨_, rfl, hJ2.fr w2 f3, w3.mono (by omega)⟩
      · rintro σ J2 ⟨y3, rfl, hJ2, w2⟩
        exact ⟨_, _, _, rfl, hJ2⟩
    · rintro σ J ⟨y1, y2, y3, rfl, hJ⟩
      exact q J
end

/-! ### f(k = v, ..), keywords alone -/
section
variable {X : Cx} {k : Nat} {f : Addr} {fd : FuncData} {ps ks : List Str} {sp : Sp} {x : Str} {p pos : Pos} {kws : List Keyword} {tk : TA} {g : List Value → List Value → List Value} {gV : List V → List V → List V}
theorem pe_callKw (F : FnOk X.prog X.w X.K X.mg X.base CX0 k f fd ps sp) (hr : Room k X.A) (hg : Gl X x) (hm : X.mg x = some (.ref f)) (hk : PySem.W.keepIn X.K (.ref f) = true) (hb : KBn X.K fd ps 0 ks g gV) (hkw : PK X kws tk)
    (hall : (backToKw pos (keywordEach kws X.env)).all (·.1.isSome) = true := by rfl) (hks : (backToKw pos (keywordEach kws X.env)).filterMap (·.1) = ks := by rfl) (hdb : (x == ("__debug__" : Str)) = false := by decide)
    (hpl : ((backTo pos (starEach [] X.env)).any (·.1) || (backToKw pos (keywordEach kws X.env)).any (·.1.isNone)) = false := by rfl) :
    PE X (.Call (.Name x p) [] kws pos) (fun σ H Q => tk σ H fun zs H2 => zs.length = ks.length ∧ sp (gV [] zs) H2 Q E0) := by
  refine ⟨fun pins s σ H Q I h => ?_⟩
  refine wpAny_Call_Name_kw (ld_glob I hg hm ?_ hdb)
  refine PySem.W.callWith_KW0 (h₀ := X.base) I.ok.mod.kin hk hall ?_ hpl
  refine thn (hkw.run pos pins s σ H _ I h) fun ws s2 hh => ?_
  obtain ⟨zs, H2, I2, rz, l2, q2⟩ := hh
  refine ⟨I2.kIn, ?_⟩
  rw [hks]
  have lw : ws.length = ks.length := rz.length.symm.trans l2
  refine wpAny_call (codeAny_mono (F.run X.A X.stack s2 H2 ⟨[], ks.zip ws⟩ (g [] ws) (gV [] zs) Q E0 hr I2.env0 (hb.to s2 [] ws I2.kIn rfl lw) (hb.rel .nil rz) q2) fun res s3 hq => ?_)
  rcases res with er | fl
  · exact False.elim hq
  · rcases fl with _ | _ | _ | u
    iterate 3 exact False.elim hq
    exact I2.after hq
end
theorem vals_getD {vs : List V} {us : List Value} (r : Vals vs us) (i : Nat) : L2.RelV (vs.getD i V.non) (us.getD i Value.none) := by
  induction r generalizing i with
  | nil => cases i <;> exact (rfl : L2.RelV V.non Value.none)
  | cons a _ ih =>
    cases i with
    | zero => exact a
    | succ i => exact ih i
/-- three keywords: the parameters' places among them -/
def gK3 {α : Type} (z : α) (a b c : Nat) : List α → List α → List α := fun _ ws => [ws.getD a z, ws.getD b z, ws.getD c z]
theorem gK3_rel {a b c : Nat} {vs : List V} {us : List Value} {zs : List V} {ws : List Value} (_ : Vals vs us) (r : Vals zs ws) : Vals (gK3 V.non a b c vs zs) (gK3 Value.none a b c us ws) :=
  .cons (vals_getD r a) (.cons (vals_getD r b) (.cons (vals_getD r c) .nil))

theorem Paces.fits {ps : List Int} (h : Paces ps) : ∀ v ∈ ps, -10 ^ 40 < v ∧ v < 10 ^ 40 := fun v hv => by have := h.lo v hv; omega
theorem Marks.fit {cap : Int} {ms : List (Int × Int)} (h : Marks cap ms) (g : cap ≤ 3) : Fit ms := ⟨h.asc, h.val, by have := h.len; omega⟩
/-- a new calendar, by the promise of its __init__ -/
theorem made_ok {K : PySem.W.Frag} {C : Addr} {H : Hp} {x dx a b : Addr} {ps : List Int} {ts : List Addr} {ms : List (Int × Int)} {vs : List V} {R : VK} {E : XK} (hv : vs = [.ref x, .ref a, .ref b]) (nx : H x = none) (ndx : H dx = none)
    (ha : H a = some (.lst (ps.map V.int))) (hb : H b = some (.lst (ts.map V.ref))) (tp : Tups H ts ms) (hp : Paces ps) (fit : Fit ms)
    (k : ∀ H' l d, CalAt C H' x l d ps (realOf ps ms) → H l = none → H d = none → Same H H' → R .non H') :
    spInit C K vs (upd (upd H dx (.own x)) x (.ins C dx [])) R E := by
  have s0 : Same H (upd (upd H dx (.own x)) x (.ins C dx [])) := fun c o e => by
    rw [upd_ne (ne_of_none e nx), upd_ne (ne_of_none e ndx)]
    exact e
  refine ⟨x, dx, a, b, ps, ts, ms, hv, upd_same, SqL.of (s0 _ _ ha), SqL.of (s0 _ _ hb), tp.same s0, hp, fit, ne_of_none ha nx, ne_of_none hb nx, fun H' l d cal nl nd f => ?_⟩
  exact k H' l d cal (s0.free nl) (s0.free nd) (Same.made nx ndx f)

/-! ### {e for x in ..} of ints -/
/-- the reading: as of a list's, the new set at D, what it has and how many -/
def tScI (w : World) (wi : TI) (g : TG) (tt : TT) (te : TE) (vs : List Nat) : TE := fun σ H Q =>
  wi σ H fun J Ha => ∀ D, Ha D = none → ∃ Wk : Nat → Nat → Hp → Prop, (∃ m, Wk 0 m (upd Ha D (SetO w D (fun _ => false) 0))) ∧
    ∀ i m Hb, Wk i m Hb → (J.stop i Hb ∧ Q (.ref D) Hb) ∨
      (J.go i Hb ∧ ∃ Go : Hp → Prop, (∀ Hc, Go Hc → ∃ m', m' < m ∧ Wk (i + 1) m' Hc) ∧
        ∀ x Hc, J.yld i Hb x Hc → g x (wipe σ vs) Hc fun τ Hd => wipe τ vs = wipe σ vs ∧ tt τ Hd fun b He =>
          if b = true then te τ He fun y Hf => ∃ (c : Int) (S : Int → Bool) (n : Nat), y = .int c ∧ Hf D = some (SetO w D S n) ∧ n + 1 < scanBound ∧
            Go (upd Hf D (SetO w D (fun j => S j || decide (j = c)) (if S c = true then n else n + 1))) else Go He)
section
variable {X : Cx}
theorem addI_ok {pins : List (Addr × Obj)} {τ : L2.St} {H : Hp} {s : Shared} {E : Value → Shared → Prop} {D : Addr} {S : Int → Bool} {n : Nat} {c : Int} {tk : Tok} {Q : Value → Shared → Prop}
    (I : Inv X pins τ H s) (at_ : H D = some (SetO X.w D S n)) (room : n + 1 < scanBound)
    (q : ∀ s', Inv X pins τ (upd H D (SetO X.w D (fun j => S j || decide (j = c)) (if S c = true then n else n + 1))) s' → Q .none s') :
    wpAny (model X.prog X.w) X.A (call (.builtin "set.add") [.ref D, .int c tk]) Q E s := by
  refine setR_add (setO_get I at_) room fun h' same fresh => ?_
  have there : ∃ u, h'.get? D = some u := let ⟨o, _, _, _, e, _⟩ := fresh; ⟨o, e⟩
  exact q _ (I.write (e := D) (t' := s.toks + 1) (by rw [at_]; trivial) (.inl rfl) (fun b u ne e => (same.2 b ne).trans e) there (setO_new fresh))
end

section
variable {X : Cx}
open PpSet in
theorem pe_scI {el tgt src : Expr} {conds : List Expr} {sc : Scope} {own : List (PySem.Str × Nat)} {pos : Pos} {wi : TI} {g : TG} {tt : TT} {te : TE} (calm : X.calm = true) (nd : X.N.Nodup)
    (walks : PI X tgt src wi) (blk : BlkOk X.N X.env.scope sc own)
    (gs : ∀ (s : Shared) (H : Hp) (C : Addr) (cl : List (PySem.Str × Addr)) (fp : List Addr), PG (X.blk s H sc (compEnvC sc cl C X.env) fp) tgt g)
    (cs : ∀ (s : Shared) (H : Hp) (C : Addr) (cl : List (PySem.Str × Addr)) (fp : List Addr), PTs (X.blk s H sc (compEnvC sc cl C X.env) fp) conds tt)
    (es : ∀ (s : Shared) (H : Hp) (C : Addr) (cl : List (PySem.Str × Addr)) (fp : List Addr), PE (X.blk s H sc (compEnvC sc cl C X.env) fp) el te)
    (src0 : ∀ x, foldedSetIterable src X.env x = pure x := by intro _; rfl) :
    PE X (.SetComp el [⟨tgt, src, conds, 0⟩] sc pos) (tScI X.w wi g tt te (own.map (·.2))) := by
  refine ⟨fun pins s0 σ Hz Q Iz reading => ?_⟩
  rw [eval_SetComp]
  have cells : ∀ y ∈ sc.names, y.2 = .free → ∃ c, X.env.cells.lookup y.1 = some c := fun y my ey =>
    (blk.free y my ey).elim (fun k => Iz.ok.has _ (.inl k)) (fun k => Iz.ok.has _ (.inr k))
  refine wpAny_comprehension_free (use := none) rfl src0 (closure_ok cells) blk.kind (fun y my ey => by rw [blk.uniq y my, ey]) (thn (walks.run pins s0 σ Hz _ Iz reading) fun _ sa gotIter => thn gotIter fun _ sb got => ?_)
  obtain ⟨it, fp, tn, J, Ha, rfl, Ia, T, sta, freeA, q⟩ := got
  refine newSet_ok (newEnv_comp ?_)
  -- the set's place, and the state that has it
  generalize place : sb.heap.objs.size = D
  have none0 : Ha D = none := Ia.hok.fresh (Nat.le_of_eq place)
  obtain ⟨Wk, ⟨m0, w0⟩, turn⟩ := q D none0
  have sized : ∀ b ∈ fp, b < sb.heap.objs.size := fun b mb => let ⟨_, e, _⟩ := T.obj _ _ sta b mb; Heap.lt_size e
  generalize pushed : ({ sb with heap := sb.heap.push { cls := .type "set", dict := none, data := .set #[] 0 (.fresh 0 0 (!X.w.params.followText "set-order")) } } : Shared) = sd
  have heapd : sd.heap = sb.heap.push { cls := .type "set", dict := none, data := .set #[] 0 (.fresh 0 0 (!X.w.params.followText "set-order")) } := by rw [← pushed]
  have Id : Inv X pins σ (upd Ha D (SetO X.w D (fun _ => false) 0)) sd := by
    rw [← pushed, ← place]
    exact Ia.laid (t' := sb.toks) (fun b o e => Heap.get?_push_of_some _ e) (Nat.le_refl _) (setO_new (setR_fresh X.w))
  have freeD : ∀ b ∈ fp, FpOk X pins (upd Ha D (SetO X.w D (fun _ => false) 0)) b ∧ b < sd.heap.objs.size := fun b mb => by
    have lt := sized b mb
    refine ⟨⟨by rw [upd_ne (by rw [← place]; exact Nat.ne_of_lt lt)]; exact (freeA b mb).1, (freeA b mb).2⟩, ?_⟩
    rw [heapd, Heap.size_push]
    exact Nat.lt_succ_of_lt lt
  have std : tn 0 sd.heap := T.keep _ _ _ sta fun b _ o e => by rw [heapd]; exact Heap.get?_push_of_some _ e
  have Ie := block_start Id blk nd freeD
  have pg := gs sd (upd Ha D (SetO X.w D (fun _ => false) 0)) sd.heap.objs.size (cellsFrom (sd.heap.objs.size + 1) sc.names (cloFrom X.env.cells sc.names [])) fp
  have pt := cs sd (upd Ha D (SetO X.w D (fun _ => false) 0)) sd.heap.objs.size (cellsFrom (sd.heap.objs.size + 1) sc.names (cloFrom X.env.cells sc.names [])) fp
  have pe := es sd (upd Ha D (SetO X.w D (fun _ => false) 0)) sd.heap.objs.size (cellsFrom (sd.heap.objs.size + 1) sc.names (cloFrom X.env.cells sc.names [])) fp
  show codeAny _ _ (.compStart (.SetComp el [⟨tgt, src, conds, 0⟩] sc pos) 0 (.ref it) (.ref D) (compEnvC sc (cellsFrom (sd.heap.objs.size + 1) sc.names (cloFrom X.env.cells sc.names [])) sd.heap.objs.size X.env)) (compPost (model X.prog X.w) X.A X.xe none (EP X pins σ Q) (.ref D) sd.heap.objs.size) { sd with heap := pushCells (sd.heap.push { cls := .type "dict", data := .dict #[] }) sc.names }
  have apart : ∀ b ∈ fp, (upd Ha D (SetO X.w D (fun _ => false) 0)) b = none := fun b mb => (freeD b mb).1.1
  generalize envIs : compEnvC sc (cellsFrom (sd.heap.objs.size + 1) sc.names (cloFrom X.env.cells sc.names [])) sd.heap.objs.size X.env = ce at Ie pg pt pe ⊢
  have local_ : ce.locals = sd.heap.objs.size := by rw [← envIs]; rfl
  generalize upd Ha D (SetO X.w D (fun _ => false) 0) = Hd at Id Ie pg pt pe w0 apart freeD
  generalize blockIs : ({ sd with heap := pushCells (sd.heap.push { cls := .type "dict", data := .dict #[] }) sc.names } : Shared) = se at Ie ⊢
  have ste : tn 0 se.heap := T.keep _ _ _ std fun b _ o e => by rw [← blockIs]; exact pushCells_keeps _ _ _ _ (Heap.get?_push_of_some _ e)
  have still : ∀ {τ : L2.St} {H' : Hp} {s' : Shared}, Inv (X.blk sd Hd sc ce fp) [] τ H' s' → (∀ b ∈ fp, H' b = none) → ∀ b ∈ fp, FpOk (X.blk sd Hd sc ce fp) [] H' b := fun {τ H' s'} I' free b mb =>
    ⟨free b mb, (I'.ok.exf b mb).1, I'.ok.exfs b mb, .inl mb, fun _ c e => (I'.ok.exf b mb).2 _ c e, fun p mp => absurd (show p ∈ ([] : List (Addr × Obj)) ++ [] from mp) (by simp)⟩
  have loop : codeAny (model X.prog X.w) X.A (.compLoop (.SetComp el [⟨tgt, src, conds, 0⟩] sc pos) 0 (.ref it) (.ref D) ce) (compPost (model X.prog X.w) X.A X.xe none (EP X pins σ Q) (.ref D) sd.heap.objs.size) se := by
    refine compLoopS_any (fun k s' => ∃ i H', Inv (X.blk sd Hd sc ce fp) [] (wipe σ (own.map (·.2))) H' s' ∧ tn i s'.heap ∧ (∀ b ∈ fp, H' b = none) ∧ Wk i k H') ?_ m0 ⟨0, Hd, Ie, ste, apart, w0⟩
    rintro k sf ⟨i, Hf, If, stf, freeF, wf⟩
    rcases turn i k Hf wf with ⟨ends, res⟩ | ⟨goes, Go, less, each⟩
    · refine thnF (T.done (X.blk sd Hd sc ce fp) rfl rfl rfl calm i [] sf _ Hf (fun _ _ => False) If (still If freeF) stf ends) fun r sg hh => ?_
      obtain ⟨rfl, Ig⟩ := hh
      have back : Inv X pins σ Hf sg := Id.call' (ch := fp) Ig.os Ig.base Ig.hok Ig.bare fun b mb => ⟨(freeD b mb).1.2.2.2.1, (freeD b mb).1.2.1, (freeD b mb).1.2.2.2.2.1, (freeD b mb).1.2.2.2.2.2⟩
      have gone : Hf sd.heap.objs.size = none := by rw [← local_]; exact Ig.free
      obtain ⟨m, ns, _⟩ := Ig.loc
      have ns : sg.heap.Ns ce.locals m := ns
      rw [local_] at ns
      obtain ⟨p0, p1, p2, p3, p4, p5⟩ := Id.fpOk (Nat.le_refl _) gone
      exact ⟨m, ns, fun h'' same => ⟨.ref D, Hf, back.turned (t' := sg.toks) (fun b o ne e => (same.2 b ne).trans e) p0 p1 p3 p4 p5, rfl, res⟩⟩
    · refine thnF (T.item (X.blk sd Hd sc ce fp) rfl rfl rfl calm i [] sf _ Hf (fun _ _ => False) If (still If freeF) stf goes) fun r sg hh => ?_
      obtain ⟨u, rfl, owned⟩ := hh
      refine thnF owned fun _ sh hh => ?_
      obtain ⟨x, Hh, Ih, rx, yl, sth, freeH⟩ := hh
      have Ip := Ih.pinned (still Ih freeH) (T.obj _ _ sth)
      refine thnF (pg.run _ sh _ Hh x u _ Ip rx (each x Hh yl)) fun _ si hh => ?_
      obtain ⟨τ, Hi, Ii, wiped, rest⟩ := hh
      refine thnF (pt.run _ si τ Hi _ Ii rest) fun b sj hh => ?_
      obtain ⟨Hj, Ij, rest⟩ := hh
      have next : ∀ {s' : Shared} {H' : Hp}, Inv (X.blk sd Hd sc ce fp) ([] ++ pinsAt fp sh.heap) τ H' s' → Go H' → ∃ m, m < k ∧ ∃ i H', Inv (X.blk sd Hd sc ce fp) [] (wipe σ (own.map (·.2))) H' s' ∧ tn i s'.heap ∧ (∀ b ∈ fp, H' b = none) ∧ Wk i m H' := fun {s' H'} I' go' => by
        obtain ⟨m', lt, w'⟩ := less H' go'
        have pinned : ∀ b ∈ fp, ∀ o, sh.heap.get? b = some o → s'.heap.get? b = some o ∧ H' b = none := fun b mb o e =>
          have z := I'.pin (b, o) (List.mem_append_right _ (List.mem_append_right _ (mem_pinsAt mb e)))
          ⟨z.1, z.2.1⟩
        refine ⟨m', lt, i + 1, H', (I'.unpinned (pins := [])).weak (by rw [← wiped, wipe_length]) (fun j v e => by rw [← wiped] at e; exact (wipe_some e).1), T.keep _ _ _ sth fun b mb o e => (pinned b mb o e).1, fun b mb => ?_, w'⟩
        obtain ⟨o, e, _⟩ := T.obj _ _ sth b mb
        exact (pinned b mb o e).2
      cases b with
      | false =>
        simp only [Bool.false_eq_true, if_false] at rest ⊢
        exact next Ij rest
      | true =>
        simp only [if_true] at rest ⊢
        refine thnF (pe.run _ sj τ Hj _ Ij rest) fun zv sk hh => ?_
        obtain ⟨yv, Hk, Ik, ry, c, S, n, rfl, hasD, room, go'⟩ := hh
        obtain ⟨tk, rfl⟩ := (show ∃ t, zv = Value.int c t from ry)
        exact addI_ok (X := X.blk sd Hd sc ce fp) Ik hasD room fun s' I' => next I' go'
  exact codeAny_compStart_set loop (T.self X.A 0 _ _ _ ste loop)
end
/-- over a list that the block leaves as it is -/
theorem scI_list {w : World} {K : PySem.W.Frag} {a : Addr} {xs : List V} {g : TG} {tt : TT} {te : TE} {vs : List Nat} {σ : L2.St} {H1 : Hp} {D : Addr} {Qd : Hp → Prop} (Pv : Nat → Hp → Prop) (h0 : Pv 0 (upd H1 D (SetO w D (fun _ => false) 0)))
    (stays : ∀ i H, i ≤ xs.length → Pv i H → SqL K H a xs)
    (each : ∀ i x H, xs[i]? = some x → Pv i H → g x (wipe σ vs) H fun τ Hd => wipe τ vs = wipe σ vs ∧ tt τ Hd fun b He =>
      if b = true then te τ He fun y Hf => ∃ (c : Int) (S : Int → Bool) (n : Nat), y = .int c ∧ Hf D = some (SetO w D S n) ∧ n + 1 < scanBound ∧ Pv (i + 1) (upd Hf D (SetO w D (fun j => S j || decide (j = c)) (if S c = true then n else n + 1))) else Pv (i + 1) He)
    (fin : ∀ H, Pv xs.length H → Qd H) :
    ∃ Wk : Nat → Nat → Hp → Prop, (∃ m, Wk 0 m (upd H1 D (SetO w D (fun _ => false) 0))) ∧ ∀ i m Hb, Wk i m Hb → ((Itl K a).stop i Hb ∧ Qd Hb) ∨
      ((Itl K a).go i Hb ∧ ∃ Go : Hp → Prop, (∀ Hc, Go Hc → ∃ m', m' < m ∧ Wk (i + 1) m' Hc) ∧ ∀ x Hc, (Itl K a).yld i Hb x Hc → g x (wipe σ vs) Hc fun τ Hd => wipe τ vs = wipe σ vs ∧ tt τ Hd fun b He =>
        if b = true then te τ He fun y Hf => ∃ (c : Int) (S : Int → Bool) (n : Nat), y = .int c ∧ Hf D = some (SetO w D S n) ∧ n + 1 < scanBound ∧ Go (upd Hf D (SetO w D (fun j => S j || decide (j = c)) (if S c = true then n else n + 1))) else Go He) := by
  refine ⟨fun i m H => m = xs.length - i ∧ i ≤ xs.length ∧ Pv i H, ⟨xs.length, by simp, Nat.zero_le _, h0⟩, ?_⟩
  rintro i m H ⟨rfl, hi, pv⟩
  have sq := stays i H hi pv
  by_cases lt : i < xs.length
  · exact .inr ⟨⟨xs, xs[i], sq, by simp [lt]⟩, Pv (i + 1), fun Hc p' => ⟨xs.length - (i + 1), by omega, rfl, lt, p'⟩, fun x Hc yl => by
      obtain ⟨rfl, yl⟩ := yl
      exact each i x _ (yl xs sq) pv⟩
  · obtain rfl : i = xs.length := by omega
    exact .inl ⟨⟨xs, sq, Nat.le_refl _⟩, fin H pv⟩

/-! ### {e for x in .. for y in ..} of ints -/
section
variable {el ta sa tb sb : Expr} {ca cb : List Expr} {sc : Scope} {pos : Pos} {ite set_ : Value} {en : Env}
abbrev two2 (el ta sa tb sb : Expr) (ca cb : List Expr) (sc : Scope) (pos : Pos) : Expr := .SetComp el [⟨ta, sa, ca, 0⟩, ⟨tb, sb, cb, 0⟩] sc pos
theorem turnA (el ta sa tb sb : Expr) (ca cb : List Expr) (sc : Scope) (pos : Pos) (ite set_ : Value) (en : Env) :
    compTurn (two2 el ta sa tb sb ca cb sc pos) 0 ite set_ en = (do
      standAt sa.pos
      match ← pyNext ite with
      | none => pure (.done .next)
      | some got =>
        letOwnedTupleGo ta ite got
        assign ta en got
        let mut go := true
        for q in ca do
          if go then go ← isTrue q en (eval q en)
        if go then
          let src ← eval sb en
          standAt sb.pos
          let src ← foldedSetIterable sb en src
          let _ ← runOwn (.compStart (two2 el ta sa tb sb ca cb sc pos) 1 (← holding [src] (pyIter src)) set_ en) en
        again (.compLoop (two2 el ta sa tb sb ca cb sc pos) 0 ite set_ en)) := by rfl
theorem turnB (el ta sa tb sb : Expr) (ca cb : List Expr) (sc : Scope) (pos : Pos) (ite set_ : Value) (en : Env) :
    compTurn (two2 el ta sa tb sb ca cb sc pos) 1 ite set_ en = (do
      standAt sb.pos
      match ← pyNext ite with
      | none => pure (.done .next)
      | some got =>
        letOwnedTupleGo tb ite got
        assign tb en got
        let mut go := true
        for q in cb do
          if go then go ← isTrue q en (eval q en)
        if go then
          (do let got ← eval el en; standAt el.pos; let _ ← call (.builtin "set.add") [set_, got])
        again (.compLoop (two2 el ta sa tb sb ca cb sc pos) 1 ite set_ en)) := by rfl
variable {prog : Program} {w : World} {A : Around} {Rs : Result → Shared → Prop} {s0 : Shared}
theorem loopA (plain : ∀ z, foldedSetIterable sb en z = pure z) (J : Nat → Shared → Prop)
    (each : ∀ k t, J k t → wpAny (model prog w) A (pyNext ite) (fun got t1 => match got with
      | none => Rs (.ok .next) t1
      | some v => wpAny (model prog w) A (letOwnedTupleGo ta ite v) (fun _ t2 => wpAny (model prog w) A (assign ta en v) (fun _ t3 =>
          wpAny (model prog w) A (forIn ca true fun q go => if go = true then do let yes ← isTrue q en (eval q en); pure (ForInStep.yield yes) else pure (ForInStep.yield go)) (fun yes t4 =>
            if yes = true then wpAny (model prog w) A (eval sb en) (fun src t5 => wpAny (model prog w) A (pyIter src) (fun ite1 t6 =>
              codeAny (model prog w) A (.compStart (two2 el ta sa tb sb ca cb sc pos) 1 ite1 set_ en) (fun res t7 => match res with
                | .ok _ => ∃ j, j < k ∧ J j t7
                | .error _ => False) t6) (notedBy (model prog w) A en fun er t7 => Rs (.error er) t7) t5) (notedBy (model prog w) A en fun er t7 => Rs (.error er) t7) t4
            else ∃ j, j < k ∧ J j t4) (notedBy (model prog w) A en fun er t7 => Rs (.error er) t7) t3) (notedBy (model prog w) A en fun er t7 => Rs (.error er) t7) t2) (notedBy (model prog w) A en fun er t7 => Rs (.error er) t7) t1) (notedBy (model prog w) A en fun er t7 => Rs (.error er) t7) t)
    (k : Nat) (at_ : J k s0) : codeAny (model prog w) A (.compLoop (two2 el ta sa tb sb ca cb sc pos) 0 ite set_ en) Rs s0 := by
  refine codeAny_loop rfl J (fun k t hk => ?_) k at_
  show wpAny _ A ((compTurn (two2 el ta sa tb sb ca cb sc pos) 0 ite set_ en).onRaise (fun z => do noteFrame z en; theTreesLotGoes z)) _ _ t
  refine wpAny_noted ?_
  rw [turnA]
  refine wpAny_bind (wpAny_standAt (wpAny_bind (wpAny_mono (each k t hk) (fun got t1 h1 => ?_) fun _ _ z => z)))
  cases got with
  | none => exact wpAny_pure h1
  | some v =>
    refine wpAny_bind (wpAny_mono h1 (fun _ t2 h2 => ?_) fun _ _ z => z)
    refine wpAny_bind (wpAny_mono h2 (fun _ t3 h3 => wpAny_bind (wpAny_mono h3 (fun yes t4 h4 => ?_) fun _ _ z => z)) fun _ _ z => z)
    cases yes with
    | false => exact wpAny_pure ⟨rfl, h4⟩
    | true =>
      refine wpAny_bind (wpAny_mono h4 (fun src t5 h5 => ?_) fun _ _ z => z)
      refine wpAny_bind (wpAny_standAt (wpAny_bind (wpAny_of_eq (plain src) (wpAny_bind (wpAny_holding (wpAny_mono h5 (fun ite1 t6 h6 => ?_) fun _ _ z => z))))))
      refine wpAny_bind (wpAny_runOwn ?_)
      rw [Around.mark_none]
      refine codeAny_mono h6 fun res t7 h7 => ?_
      cases res with
      | ok fl =>
        first
          | exact wpAny_pure ⟨rfl, h7⟩
          | exact wpAny_bind (wpAny_pure (wpAny_pure ⟨rfl, h7⟩))
      | error er => exact h7.elim
theorem loopB (J : Nat → Shared → Prop)
    (each : ∀ k t, J k t → wpAny (model prog w) A (pyNext ite) (fun got t1 => match got with
      | none => Rs (.ok .next) t1
      | some v => wpAny (model prog w) A (letOwnedTupleGo tb ite v) (fun _ t2 => wpAny (model prog w) A (assign tb en v) (fun _ t3 =>
          wpAny (model prog w) A (forIn cb true fun q go => if go = true then do let yes ← isTrue q en (eval q en); pure (ForInStep.yield yes) else pure (ForInStep.yield go)) (fun yes t4 =>
            if yes = true then wpAny (model prog w) A (eval el en) (fun z t5 =>
              wpAny (model prog w) A (call (.builtin "set.add") [set_, z]) (fun _ t6 => ∃ j, j < k ∧ J j t6) (notedBy (model prog w) A en fun er t7 => Rs (.error er) t7) t5) (notedBy (model prog w) A en fun er t7 => Rs (.error er) t7) t4
            else ∃ j, j < k ∧ J j t4) (notedBy (model prog w) A en fun er t7 => Rs (.error er) t7) t3) (notedBy (model prog w) A en fun er t7 => Rs (.error er) t7) t2) (notedBy (model prog w) A en fun er t7 => Rs (.error er) t7) t1) (notedBy (model prog w) A en fun er t7 => Rs (.error er) t7) t)
    (k : Nat) (at_ : J k s0) : codeAny (model prog w) A (.compLoop (two2 el ta sa tb sb ca cb sc pos) 1 ite set_ en) Rs s0 := by
  refine codeAny_loop rfl J (fun k t hk => ?_) k at_
  show wpAny _ A ((compTurn (two2 el ta sa tb sb ca cb sc pos) 1 ite set_ en).onRaise (fun z => do noteFrame z en; theTreesLotGoes z)) _ _ t
  refine wpAny_noted ?_
  rw [turnB]
  refine wpAny_bind (wpAny_standAt (wpAny_bind (wpAny_mono (each k t hk) (fun got t1 h1 => ?_) fun _ _ z => z)))
  cases got with
  | none => exact wpAny_pure h1
  | some v =>
    refine wpAny_bind (wpAny_mono h1 (fun _ t2 h2 => ?_) fun _ _ z => z)
    refine wpAny_bind (wpAny_mono h2 (fun _ t3 h3 => wpAny_bind (wpAny_mono h3 (fun yes t4 h4 => ?_) fun _ _ z => z)) fun _ _ z => z)
    cases yes with
    | false => exact wpAny_pure ⟨rfl, h4⟩
    | true =>
      exact wpAny_bind (wpAny_bind (wpAny_mono h4 (fun z t5 h5 => wpAny_bind (wpAny_standAt (wpAny_bind (wpAny_mono h5 (fun _ t6 h6 => wpAny_pure (wpAny_pure ⟨rfl, h6⟩)) fun _ _ z => z)))) fun _ _ z => z))
theorem startB (there : codeAny (model prog w) A (.compLoop (two2 el ta sa tb sb ca cb sc pos) 1 ite set_ en) Rs s0)
    (other : wpAny (model prog w) A (pyIter ite) (fun it2 t => codeAny (model prog w) A (.compLoop (two2 el ta sa tb sb ca cb sc pos) 1 it2 set_ en) Rs t) (notedBy (model prog w) A en fun er t => Rs (.error er) t) s0) :
    codeAny (model prog w) A (.compStart (two2 el ta sa tb sb ca cb sc pos) 1 ite set_ en) Rs s0 := by
  refine codeAny_of_tree ?_
  show wpAny _ _ ((compStart (two2 el ta sa tb sb ca cb sc pos) 1 ite set_ en).onRaise (fun z => do noteFrame z en; standAt theWindowsPlace)) _ _ s0
  refine wpAny_notedAt ?_
  unfold compStart
  show wpAny _ _ (ask >>= _) _ _ s0
  refine wpAny_bind (wpAny_askSetting (wpAny_ite ?_))
  split
  · first
      | exact wpAny_bind (wpAny_pure (wpAny_pure (And.intro rfl there)))
      | exact wpAny_pure (And.intro rfl there)
  · first
      | exact wpAny_bind (wpAny_rule (wpAny_bind (wpAny_standAt (wpAny_bind (wpAny_mono other (fun it2 t z => wpAny_pure (And.intro rfl z)) fun _ _ z => z)))))
      | (refine wpAny_bind (wpAny_rule ?_); show wpAny _ _ (standAt sb.pos >>= _) _ _ s0; exact wpAny_bind (wpAny_standAt (wpAny_bind (wpAny_mono other (fun it2 t z => wpAny_pure (And.intro rfl z)) fun _ _ z => z))))
end
/-- the reading: behind the first clause's store and tests the second source's own walk -/
def tSc2 (w : World) (wi : TI) (g : TG) (tt : TT) (wj : TI) (gj : TG) (tj : TT) (te : TE) (vs us : List Nat) : TE := fun σ H Q =>
  wi σ H fun J Ha => ∀ D, Ha D = none → ∃ Wk : Nat → Nat → Hp → Prop, (∃ m, Wk 0 m (upd Ha D (SetO w D (fun _ => false) 0))) ∧
    ∀ i m Hb, Wk i m Hb → (J.stop i Hb ∧ Q (.ref D) Hb) ∨
      (J.go i Hb ∧ ∃ Go : Hp → Prop, (∀ Hc, Go Hc → ∃ m', m' < m ∧ Wk (i + 1) m' Hc) ∧
        ∀ x Hc, J.yld i Hb x Hc → g x (wipe σ vs) Hc fun τ Hd => wipe τ vs = wipe σ vs ∧ tt τ Hd fun b He =>
          if b = true then wj τ He fun Jn Hf => ∃ Wn : Nat → Nat → Hp → Prop, (∃ k, Wn 0 k Hf) ∧ ∀ j k Hg, Wn j k Hg → (Jn.stop j Hg ∧ Go Hg) ∨
            (Jn.go j Hg ∧ ∃ Gn : Hp → Prop, (∀ Hh, Gn Hh → ∃ k', k' < k ∧ Wn (j + 1) k' Hh) ∧ ∀ y Hh, Jn.yld j Hg y Hh → gj y (wipe τ us) Hh fun υ Hi => wipe υ us = wipe τ us ∧ tj υ Hi fun b2 Hj =>
              if b2 = true then te υ Hj fun z Hk => ∃ (c : Int) (S : Int → Bool) (n : Nat), z = .int c ∧ Hk D = some (SetO w D S n) ∧ n + 1 < scanBound ∧
                Gn (upd Hk D (SetO w D (fun j => S j || decide (j = c)) (if S c = true then n else n + 1))) else Gn Hj)
          else Go He)
section
variable {X : Cx}
open PpSet in
theorem pe_sc2 {el ta sa tb sb : Expr} {ca cb : List Expr} {sc : Scope} {own : List (PySem.Str × Nat)} {us : List Nat} {pos : Pos} {wi wj : TI} {g gj : TG} {tt tj : TT} {te : TE} (calm : X.calm = true) (nd : X.N.Nodup)
    (walks : PI X ta sa wi) (blk : BlkOk X.N X.env.scope sc own) (sub : ∀ i ∈ us, i ∈ own.map (·.2))
    (gs : ∀ (s : Shared) (H : Hp) (C : Addr) (cl : List (PySem.Str × Addr)) (fp : List Addr), PG (X.blk s H sc (compEnvC sc cl C X.env) fp) ta g)
    (cs : ∀ (s : Shared) (H : Hp) (C : Addr) (cl : List (PySem.Str × Addr)) (fp : List Addr), PTs (X.blk s H sc (compEnvC sc cl C X.env) fp) ca tt)
    (walkj : ∀ (s : Shared) (H : Hp) (C : Addr) (cl : List (PySem.Str × Addr)) (fp : List Addr), PI (X.blk s H sc (compEnvC sc cl C X.env) fp) tb sb wj)
    (gsj : ∀ (s : Shared) (H : Hp) (C : Addr) (cl : List (PySem.Str × Addr)) (fp : List Addr), PG (X.blk s H sc (compEnvC sc cl C X.env) fp) tb gj)
    (csj : ∀ (s : Shared) (H : Hp) (C : Addr) (cl : List (PySem.Str × Addr)) (fp : List Addr), PTs (X.blk s H sc (compEnvC sc cl C X.env) fp) cb tj)
    (es : ∀ (s : Shared) (H : Hp) (C : Addr) (cl : List (PySem.Str × Addr)) (fp : List Addr), PE (X.blk s H sc (compEnvC sc cl C X.env) fp) el te)
    (src0 : ∀ x, foldedSetIterable sa X.env x = pure x := by intro _; rfl) (src1 : ∀ env x, foldedSetIterable sb env x = pure x := by intro _ _; rfl) :
    PE X (.SetComp el [⟨ta, sa, ca, 0⟩, ⟨tb, sb, cb, 0⟩] sc pos) (tSc2 X.w wi g tt wj gj tj te (own.map (·.2)) us) := by
  refine ⟨fun pins s0 σ Hz Q Iz reading => ?_⟩
  rw [eval_SetComp]
  have cells : ∀ y ∈ sc.names, y.2 = .free → ∃ c, X.env.cells.lookup y.1 = some c := fun y my ey =>
    (blk.free y my ey).elim (fun k => Iz.ok.has _ (.inl k)) (fun k => Iz.ok.has _ (.inr k))
  refine wpAny_comprehension_free (use := none) rfl src0 (closure_ok cells) blk.kind (fun y my ey => by rw [blk.uniq y my, ey]) (thn (walks.run pins s0 σ Hz _ Iz reading) fun _ sa' gotIter => thn gotIter fun _ sb' got => ?_)
  obtain ⟨it, fp, tn, J, Ha, rfl, Ia, T, sta, freeA, q⟩ := got
  refine newSet_ok (newEnv_comp ?_)
  generalize place : sb'.heap.objs.size = D
  have none0 : Ha D = none := Ia.hok.fresh (Nat.le_of_eq place)
  obtain ⟨Wk, ⟨m0, w0⟩, turn⟩ := q D none0
  have sized : ∀ b ∈ fp, b < sb'.heap.objs.size := fun b mb => let ⟨_, e, _⟩ := T.obj _ _ sta b mb; Heap.lt_size e
  generalize pushed : ({ sb' with heap := sb'.heap.push { cls := .type "set", dict := none, data := .set #[] 0 (.fresh 0 0 (!X.w.params.followText "set-order")) } } : Shared) = sd
  have heapd : sd.heap = sb'.heap.push { cls := .type "set", dict := none, data := .set #[] 0 (.fresh 0 0 (!X.w.params.followText "set-order")) } := by rw [← pushed]
  have Id : Inv X pins σ (upd Ha D (SetO X.w D (fun _ => false) 0)) sd := by
    rw [← pushed, ← place]
    exact Ia.laid (t' := sb'.toks) (fun b o e => Heap.get?_push_of_some _ e) (Nat.le_refl _) (setO_new (setR_fresh X.w))
  have freeD : ∀ b ∈ fp, FpOk X pins (upd Ha D (SetO X.w D (fun _ => false) 0)) b ∧ b < sd.heap.objs.size := fun b mb => by
    have lt := sized b mb
    refine ⟨⟨by rw [upd_ne (by rw [← place]; exact Nat.ne_of_lt lt)]; exact (freeA b mb).1, (freeA b mb).2⟩, ?_⟩
    rw [heapd, Heap.size_push]
    exact Nat.lt_succ_of_lt lt
  have std : tn 0 sd.heap := T.keep _ _ _ sta fun b _ o e => by rw [heapd]; exact Heap.get?_push_of_some _ e
  have Ie := block_start Id blk nd freeD
  have pg := gs sd (upd Ha D (SetO X.w D (fun _ => false) 0)) sd.heap.objs.size (cellsFrom (sd.heap.objs.size + 1) sc.names (cloFrom X.env.cells sc.names [])) fp
  have pt := cs sd (upd Ha D (SetO X.w D (fun _ => false) 0)) sd.heap.objs.size (cellsFrom (sd.heap.objs.size + 1) sc.names (cloFrom X.env.cells sc.names [])) fp
  have pe := es sd (upd Ha D (SetO X.w D (fun _ => false) 0)) sd.heap.objs.size (cellsFrom (sd.heap.objs.size + 1) sc.names (cloFrom X.env.cells sc.names [])) fp
  have pwj := walkj sd (upd Ha D (SetO X.w D (fun _ => false) 0)) sd.heap.objs.size (cellsFrom (sd.heap.objs.size + 1) sc.names (cloFrom X.env.cells sc.names [])) fp
  have pgj := gsj sd (upd Ha D (SetO X.w D (fun _ => false) 0)) sd.heap.objs.size (cellsFrom (sd.heap.objs.size + 1) sc.names (cloFrom X.env.cells sc.names [])) fp
  have ptj := csj sd (upd Ha D (SetO X.w D (fun _ => false) 0)) sd.heap.objs.size (cellsFrom (sd.heap.objs.size + 1) sc.names (cloFrom X.env.cells sc.names [])) fp
  show codeAny _ _ (.compStart (two2 el ta sa tb sb ca cb sc pos) 0 (.ref it) (.ref D) (compEnvC sc (cellsFrom (sd.heap.objs.size + 1) sc.names (cloFrom X.env.cells sc.names [])) sd.heap.objs.size X.env)) (compPost (model X.prog X.w) X.A X.xe none (EP X pins σ Q) (.ref D) sd.heap.objs.size) { sd with heap := pushCells (sd.heap.push { cls := .type "dict", data := .dict #[] }) sc.names }
  have apart : ∀ b ∈ fp, (upd Ha D (SetO X.w D (fun _ => false) 0)) b = none := fun b mb => (freeD b mb).1.1
  generalize envIs : compEnvC sc (cellsFrom (sd.heap.objs.size + 1) sc.names (cloFrom X.env.cells sc.names [])) sd.heap.objs.size X.env = ce at Ie pg pt pe pwj pgj ptj ⊢
  have local_ : ce.locals = sd.heap.objs.size := by rw [← envIs]; rfl
  generalize upd Ha D (SetO X.w D (fun _ => false) 0) = Hd at Id Ie pg pt pe pwj pgj ptj w0 apart freeD
  generalize blockIs : ({ sd with heap := pushCells (sd.heap.push { cls := .type "dict", data := .dict #[] }) sc.names } : Shared) = se at Ie ⊢
  have ste : tn 0 se.heap := T.keep _ _ _ std fun b _ o e => by rw [← blockIs]; exact pushCells_keeps _ _ _ _ (Heap.get?_push_of_some _ e)
  have still : ∀ {τ : L2.St} {H' : Hp} {s' : Shared}, Inv (X.blk sd Hd sc ce fp) [] τ H' s' → (∀ b ∈ fp, H' b = none) → ∀ b ∈ fp, FpOk (X.blk sd Hd sc ce fp) [] H' b := fun {τ H' s'} I' free b mb =>
    ⟨free b mb, (I'.ok.exf b mb).1, I'.ok.exfs b mb, .inl mb, fun _ c e => (I'.ok.exf b mb).2 _ c e, fun p mp => absurd (show p ∈ ([] : List (Addr × Obj)) ++ [] from mp) (by simp)⟩
  have loop : codeAny (model X.prog X.w) X.A (.compLoop (two2 el ta sa tb sb ca cb sc pos) 0 (.ref it) (.ref D) ce) (compPost (model X.prog X.w) X.A X.xe none (EP X pins σ Q) (.ref D) sd.heap.objs.size) se := by
    refine loopA (src1 ce) (fun k s' => ∃ i H', Inv (X.blk sd Hd sc ce fp) [] (wipe σ (own.map (·.2))) H' s' ∧ tn i s'.heap ∧ (∀ b ∈ fp, H' b = none) ∧ Wk i k H') ?_ m0 ⟨0, Hd, Ie, ste, apart, w0⟩
    rintro k sf ⟨i, Hf, If, stf, freeF, wf⟩
    rcases turn i k Hf wf with ⟨ends, res⟩ | ⟨goes, Go, less, each⟩
    · refine thnF (T.done (X.blk sd Hd sc ce fp) rfl rfl rfl calm i [] sf _ Hf (fun _ _ => False) If (still If freeF) stf ends) fun r sg hh => ?_
      obtain ⟨rfl, Ig⟩ := hh
      have back : Inv X pins σ Hf sg := Id.call' (ch := fp) Ig.os Ig.base Ig.hok Ig.bare fun b mb => ⟨(freeD b mb).1.2.2.2.1, (freeD b mb).1.2.1, (freeD b mb).1.2.2.2.2.1, (freeD b mb).1.2.2.2.2.2⟩
      have gone : Hf sd.heap.objs.size = none := by rw [← local_]; exact Ig.free
      obtain ⟨m, ns, _⟩ := Ig.loc
      have ns : sg.heap.Ns ce.locals m := ns
      rw [local_] at ns
      obtain ⟨p0, p1, p2, p3, p4, p5⟩ := Id.fpOk (Nat.le_refl _) gone
      exact ⟨m, ns, fun h'' same => ⟨.ref D, Hf, back.turned (t' := sg.toks) (fun b o ne e => (same.2 b ne).trans e) p0 p1 p3 p4 p5, rfl, res⟩⟩
    · refine thnF (T.item (X.blk sd Hd sc ce fp) rfl rfl rfl calm i [] sf _ Hf (fun _ _ => False) If (still If freeF) stf goes) fun r sg hh => ?_
      obtain ⟨u, rfl, owned⟩ := hh
      refine thnF owned fun _ sh hh => ?_
      obtain ⟨x, Hh, Ih, rx, yl, sth, freeH⟩ := hh
      have Ip := Ih.pinned (still Ih freeH) (T.obj _ _ sth)
      refine thnF (pg.run _ sh _ Hh x u _ Ip rx (each x Hh yl)) fun _ si hh => ?_
      obtain ⟨τ, Hi, Ii, wiped, rest⟩ := hh
      refine thnF (pt.run _ si τ Hi _ Ii rest) fun b sj hh => ?_
      obtain ⟨Hj, Ij, rest⟩ := hh
      have next : ∀ {υ : L2.St} {s' : Shared} {H' : Hp}, Inv (X.blk sd Hd sc ce fp) ([] ++ pinsAt fp sh.heap) υ H' s' → (wipe σ (own.map (·.2))).length = υ.length → (∀ (j : Nat) v, (wipe σ (own.map (·.2)))[j]? = some (some v) → υ[j]? = some (some v)) → Go H' → ∃ m, m < k ∧ ∃ i H', Inv (X.blk sd Hd sc ce fp) [] (wipe σ (own.map (·.2))) H' s' ∧ tn i s'.heap ∧ (∀ b ∈ fp, H' b = none) ∧ Wk i m H' := fun {υ s' H'} I' le le2 go' => by
        obtain ⟨m', lt, w'⟩ := less H' go'
        have pinned : ∀ b ∈ fp, ∀ o, sh.heap.get? b = some o → s'.heap.get? b = some o ∧ H' b = none := fun b mb o e =>
          have z := I'.pin (b, o) (List.mem_append_right _ (List.mem_append_right _ (mem_pinsAt mb e)))
          ⟨z.1, z.2.1⟩
        refine ⟨m', lt, i + 1, H', (I'.unpinned (pins := [])).weak le le2, T.keep _ _ _ sth fun b mb o e => (pinned b mb o e).1, fun b mb => ?_, w'⟩
        obtain ⟨o, e, _⟩ := T.obj _ _ sth b mb
        exact (pinned b mb o e).2
      have lenτ : (wipe σ (own.map (·.2))).length = τ.length := by rw [← wiped, wipe_length]
      have hasτ : ∀ (j : Nat) v, (wipe σ (own.map (·.2)))[j]? = some (some v) → τ[j]? = some (some v) := fun j v e => by
        rw [← wiped] at e
        exact (wipe_some e).1
      have hasυ : ∀ (j : Nat) v, (wipe σ (own.map (·.2)))[j]? = some (some v) → (wipe τ us)[j]? = some (some v) := fun j v e => by
        rw [← wiped] at e
        obtain ⟨e1, e2⟩ := wipe_some e
        rw [wipe_out fun z => e2 (sub j z)]
        exact e1
      cases b with
      | false =>
        simp only [Bool.false_eq_true, if_false] at rest ⊢
        exact next Ij lenτ hasτ rest
      | true =>
        simp only [if_true] at rest ⊢
        refine thnF (pwj.run _ sj τ Hj _ Ij rest) fun _ sk hh => thnF hh fun _ sl hh => ?_
        obtain ⟨itn, fpn, tnn, Jn, Hl, rfl, Il, Tn, stl, freeL, Wn, ⟨k1, wn⟩, turnn⟩ := hh
        have still1 : ∀ {H' : Hp}, (∀ b ∈ fpn, H' b = none) → ∀ b ∈ fpn, FpOk (X.blk sd Hd sc ce fp) ([] ++ pinsAt fp sh.heap) H' b := fun free b mb => ⟨free b mb, (freeL b mb).2⟩
        have inner : codeAny (model X.prog X.w) X.A (.compLoop (two2 el ta sa tb sb ca cb sc pos) 1 (.ref itn) (.ref D) ce) (fun res t => match res with
            | .ok _ => ∃ m, m < k ∧ ∃ i H', Inv (X.blk sd Hd sc ce fp) [] (wipe σ (own.map (·.2))) H' t ∧ tn i t.heap ∧ (∀ b ∈ fp, H' b = none) ∧ Wk i m H'
            | .error _ => False) sl := by
          refine loopB (fun kk t => ∃ j H', Inv (X.blk sd Hd sc ce fp) ([] ++ pinsAt fp sh.heap) (wipe τ us) H' t ∧ tnn j t.heap ∧ (∀ b ∈ fpn, H' b = none) ∧ Wn j kk H') ?_ k1 ⟨0, Hl, Il.weak (wipe_length _ _) (fun j v e => (wipe_some e).1), stl, fun b mb => (freeL b mb).1, wn⟩
          rintro kk sm ⟨j, Hm, Im, stm, freeM, wm⟩
          rcases turnn j kk Hm wm with ⟨stop1, go1⟩ | ⟨goes1, Gn, less1, each1⟩
          · refine thnF (Tn.done (X.blk sd Hd sc ce fp) rfl rfl rfl calm j _ sm (wipe τ us) Hm (fun _ _ => False) Im (still1 freeM) stm stop1) fun r sn hh => ?_
            obtain ⟨rfl, In⟩ := hh
            exact next In (lenτ.trans (wipe_length τ us).symm) hasυ go1
          · refine thnF (Tn.item (X.blk sd Hd sc ce fp) rfl rfl rfl calm j _ sm (wipe τ us) Hm (fun _ _ => False) Im (still1 freeM) stm goes1) fun r sn hh => ?_
            obtain ⟨u1, rfl, owned1⟩ := hh
            refine thnF owned1 fun _ so hh => ?_
            obtain ⟨y, Ho, Io, ry, yl1, sto, freeO⟩ := hh
            have Iq := Io.pinned (still1 freeO) (Tn.obj _ _ sto)
            refine thnF (pgj.run _ so (wipe τ us) Ho y u1 _ Iq ry (each1 y Ho yl1)) fun _ sp hh => ?_
            obtain ⟨υ, Hp_, Ip_, wiped1, rest1⟩ := hh
            refine thnF (ptj.run _ sp υ Hp_ _ Ip_ rest1) fun b1 sq hh => ?_
            obtain ⟨Hq, Iq2, rest1⟩ := hh
            have next1 : ∀ {s' : Shared} {H' : Hp}, Inv (X.blk sd Hd sc ce fp) (([] ++ pinsAt fp sh.heap) ++ pinsAt fpn so.heap) υ H' s' → Gn H' → ∃ m, m < kk ∧ ∃ j H', Inv (X.blk sd Hd sc ce fp) ([] ++ pinsAt fp sh.heap) (wipe τ us) H' s' ∧ tnn j s'.heap ∧ (∀ b ∈ fpn, H' b = none) ∧ Wn j m H' := fun {s' H'} I' go' => by
              obtain ⟨m', lt, w'⟩ := less1 H' go'
              have pinned : ∀ b ∈ fpn, ∀ o, so.heap.get? b = some o → s'.heap.get? b = some o ∧ H' b = none := fun b mb o e =>
                have z := I'.pin (b, o) (List.mem_append_right _ (List.mem_append_right _ (mem_pinsAt mb e)))
                ⟨z.1, z.2.1⟩
              refine ⟨m', lt, j + 1, H', I'.unpinned.weak (by rw [← wiped1, wipe_length]) (fun j v e => by rw [← wiped1] at e; exact (wipe_some e).1), Tn.keep _ _ _ sto fun b mb o e => (pinned b mb o e).1, fun b mb => ?_, w'⟩
              obtain ⟨o, e, _⟩ := Tn.obj _ _ sto b mb
              exact (pinned b mb o e).2
            cases b1 with
            | false =>
              simp only [Bool.false_eq_true, if_false] at rest1 ⊢
              exact next1 Iq2 rest1
            | true =>
              simp only [if_true] at rest1 ⊢
              refine thnF (pe.run _ sq υ Hq _ Iq2 rest1) fun zv sr hh => ?_
              obtain ⟨yv, Hr, Ir, rz, c, S, n, rfl, hasD, room, go'⟩ := hh
              obtain ⟨tk, rfl⟩ := (show ∃ t, zv = Value.int c t from rz)
              exact addI_ok (X := X.blk sd Hd sc ce fp) Ir hasD room fun s' I' => next1 I' go'
        exact startB inner (Tn.self X.A 0 _ _ _ stl inner)
  exact codeAny_compStart_set loop (T.self X.A 0 _ _ _ ste loop)
end

/-! ### a def called by its positional promise -/
section
variable {X : Cx} {CX : CXT} {k : Nat} {f : Addr} {sp : Sp} {E : XK} {x : Str} {e : Expr} {es : List Expr} {t : TA} {p pos : Pos}
theorem pe_callR (F : FnR X.prog X.w X.K X.mg X.base CX k f sp) (hr : Room k X.A) (hg : Gl X x) (hm : X.mg x = some (.ref f)) (hk : PySem.W.keepIn X.K (.ref f) = true) (hx : Passes CX X E)
    (ha : PA X (e :: es) t) (hdb : (x == ("__debug__" : Str)) = false := by decide) (he : starEach (e :: es) X.env = (false, eval e X.env) :: starEach es X.env := by rfl) (hpl : (backTo pos (starEach es X.env)).any (·.1) = false := by rfl) :
    PE X (.Call (.Name x p) (e :: es) [] pos) (fun σ H Q => t σ H fun vs H1 => sp vs H1 Q E) := by
  refine ⟨fun pins s σ H Q I h => ?_⟩
  refine wpAny_Call_Name_kw (ld_glob I hg hm ?_ hdb)
  refine PySem.W.callWith_K (h₀ := X.base) I.ok.mod.kin hk (thn (ha.run pos pins s σ H _ I h) fun us s1 ⟨vs, H1, I1, r, q⟩ => ⟨I1.kIn, ?_⟩) he hpl
  exact wpAny_call (run_fnR F hr hx I1 r q)
end
/-- .. under a name of its module -/
structure AtR (P : Program) (w : World) (K : PySem.W.Frag) (mg : Str → Option Value) (base : Heap) (k : Nat) (x : Str) (sp : Sp) (f : Addr) : Prop where
  ok : FnR P w K mg base CX0 k f sp
  at_ : mg x = some (.ref f)
  kp : PySem.W.keepIn K (.ref f) = true
/-! ### the walk of a tuple or a list, told by a word of its turns -/
theorem wk_tup {K : PySem.W.Frag} {a : Addr} {xs : List V} {H0 : Hp} {Qd : Hp → Prop} {F : V → Hp → (Hp → Prop) → Prop} (Pv : Nat → Hp → Prop) (h0 : Pv 0 H0) (stays : ∀ i H, i ≤ xs.length → Pv i H → SqT K H a xs)
    (each : ∀ i x H, xs[i]? = some x → Pv i H → F x H (Pv (i + 1))) (fin : ∀ H, Pv xs.length H → Qd H) :
    ∃ Wk : Nat → Nat → Hp → Prop, (∃ m, Wk 0 m H0) ∧ ∀ i m Hb, Wk i m Hb → ((Itt K a).stop i Hb ∧ Qd Hb) ∨
      ((Itt K a).go i Hb ∧ ∃ Go : Hp → Prop, (∀ Hc, Go Hc → ∃ m', m' < m ∧ Wk (i + 1) m' Hc) ∧ ∀ x Hc, (Itt K a).yld i Hb x Hc → F x Hc Go) := by
  refine ⟨fun i m H => m = xs.length - i ∧ i ≤ xs.length ∧ Pv i H, ⟨xs.length, by simp, Nat.zero_le _, h0⟩, ?_⟩
  rintro i m H ⟨rfl, hi, pv⟩
  have sq := stays i H hi pv
  by_cases lt : i < xs.length
  · exact .inr ⟨⟨xs, xs[i], sq, by simp [lt]⟩, Pv (i + 1), fun Hc p' => ⟨xs.length - (i + 1), by omega, rfl, lt, p'⟩, fun x Hc yl => by
      obtain ⟨rfl, yl⟩ := yl
      exact each i x _ (yl xs sq) pv⟩
  · obtain rfl : i = xs.length := by omega
    exact .inl ⟨⟨xs, sq, Nat.le_refl _⟩, fin H pv⟩
theorem wk_lst {K : PySem.W.Frag} {a : Addr} {xs : List V} {H0 : Hp} {Qd : Hp → Prop} {F : V → Hp → (Hp → Prop) → Prop} (Pv : Nat → Hp → Prop) (h0 : Pv 0 H0) (stays : ∀ i H, i ≤ xs.length → Pv i H → SqL K H a xs)
    (each : ∀ i x H, xs[i]? = some x → Pv i H → F x H (Pv (i + 1))) (fin : ∀ H, Pv xs.length H → Qd H) :
    ∃ Wk : Nat → Nat → Hp → Prop, (∃ m, Wk 0 m H0) ∧ ∀ i m Hb, Wk i m Hb → ((Itl K a).stop i Hb ∧ Qd Hb) ∨
      ((Itl K a).go i Hb ∧ ∃ Go : Hp → Prop, (∀ Hc, Go Hc → ∃ m', m' < m ∧ Wk (i + 1) m' Hc) ∧ ∀ x Hc, (Itl K a).yld i Hb x Hc → F x Hc Go) := by
  refine ⟨fun i m H => m = xs.length - i ∧ i ≤ xs.length ∧ Pv i H, ⟨xs.length, by simp, Nat.zero_le _, h0⟩, ?_⟩
  rintro i m H ⟨rfl, hi, pv⟩
  have sq := stays i H hi pv
  by_cases lt : i < xs.length
  · exact .inr ⟨⟨xs, xs[i], sq, by simp [lt]⟩, Pv (i + 1), fun Hc p' => ⟨xs.length - (i + 1), by omega, rfl, lt, p'⟩, fun x Hc yl => by
      obtain ⟨rfl, yl⟩ := yl
      exact each i x _ (yl xs sq) pv⟩
  · obtain rfl : i = xs.length := by omega
    exact .inl ⟨⟨xs, sq, Nat.le_refl _⟩, fin H pv⟩
/-! ### the moments that at least one of some things changes -/
structure Blt5 (mg : Str → Option Value) : Prop where
  sorted : mg "sorted" = none
theorem Tups.append {H : Hp} : ∀ {ts us : List Addr} {ms ns : List (Int × Int)}, Tups H ts ms → Tups H us ns → Tups H (ts ++ us) (ms ++ ns)
  | [], _, [], _, _, h => h
  | _ :: _, _, _ :: _, _, g, h => ⟨g.1, Tups.append g.2 h⟩
/-- things with changes, told by Th -/
def spChOf (Th : Hp → Addr → List (Int × Int) → Prop) : Sp := fun vs H Q _ => ∃ (x : Addr) (ms : List (Int × Int)), vs = [.ref x] ∧ Th H x ms ∧
  ∀ (H' : Hp) (q : Addr) (ts : List Addr), Same H H' → H q = none → H' q = some (.lst (ts.map V.ref)) → Tups H' ts ms → Q (.ref q) H'
structure ThOk (C : Addr) (Th : Hp → Addr → List (Int × Int) → Prop) : Prop where
  same : ∀ {H H' x ms}, Th H x ms → Same H H' → Th H' x ms
  ob : ∀ {H x ms}, Th H x ms → ∃ dx fs, H x = some (.ins C dx fs)
abbrev allOf (as : List (Addr × List (Int × Int))) : List (Int × Int) := as.flatMap (·.2)
def spMoms0 (Th : Hp → Addr → List (Int × Int) → Prop) : Sp := fun vs H Q _ => ∃ (p : Addr) (as : List (Addr × List (Int × Int))), vs = [.ref p] ∧ H p = some (.tup (as.map fun z => V.ref z.1)) ∧ (∀ z ∈ as, Th H z.1 z.2) ∧ (allOf as).length ≤ 60 ∧
  ∀ (H' : Hp) (q : Addr) (ks : List Int), Same H H' → H q = none → ks.Pairwise (· < ·) → (∀ k, k ∈ ks ↔ k ∈ (allOf as).map (·.1)) → ks.length ≤ (allOf as).length → H' q = some (.lst (ks.map V.int)) → Q (.ref q) H'
def spMoms (Th : Hp → Addr → List (Int × Int) → Prop) : Sp := fun vs H Q _ => ∃ as : List (Addr × List (Int × Int)), vs = as.map (fun z => V.ref z.1) ∧ as.length ≤ 900 ∧ (∀ z ∈ as, Th H z.1 z.2) ∧ (allOf as).length ≤ 60 ∧
  ∀ (H' : Hp) (q : Addr) (ks : List Int), Same H H' → H q = none → ks.Pairwise (· < ·) → (∀ k, k ∈ ks ↔ k ∈ (allOf as).map (·.1)) → ks.length ≤ (allOf as).length → H' q = some (.lst (ks.map V.int)) → Q (.ref q) H'
section
variable {P : Program} {w : World} {K : PySem.W.Frag} {mg : Str → Option Value} {base : Heap}
theorem scChanged : FnScope ["things", "thing", "moment", "_"] ((([] : List Str)) ++ [("things" : Str)]) (defScope sChanged) := ⟨rfl, rfl, rfl, by decide +kernel, rfl, by decide +kernel, by decide +kernel⟩
theorem allOf_succ {as : List (Addr × List (Int × Int))} {i : Nat} {z : Addr × List (Int × Int)} (h : as[i]? = some z) : allOf (as.take (i + 1)) = allOf (as.take i) ++ z.2 := by
  rw [List.take_add_one, h, allOf, List.flatMap_append]
  simp
theorem allOf_le {as : List (Addr × List (Int × Int))} {i : Nat} : (allOf (as.take i)).length ≤ (allOf as).length := by
  have e : allOf as = allOf (as.take i) ++ allOf (as.drop i) := by rw [allOf, allOf, allOf, ← List.flatMap_append, List.take_append_drop]
  rw [e, List.length_append]
  omega
theorem ok_moms {f C p3 g3 : Addr} {fd d3 : FuncData} {Th : Hp → Addr → List (Int × Int) → Prop} (F : Fun K "changed_moments" "changed_moments" sChanged f fd) (zc : Cls K C) (th : ThOk C Th) (T5 : Blt5 mg) (W3 : Pp P w K mg base C "changes" (spChOf Th) p3 g3 d3) : FnR P w K mg base CX0 3 f (spMoms Th) := by
  obtain ⟨oc, od, kV, doc, pm, an, cdv, ct, osl, rfl, lk, hcd⟩ := F.ex
  refine FnR.imp (StX.fn_star (ps := []) (sp := spMoms0 Th) lk hcd scChanged (fun _ _ _ _ _ _ _ _ _ _ _ z => z) (fun us rest hl => ?_) fun A outer s H vs Q E hr h => ?_) (fun vs H Q E h => ?_)
  · match us, hl with
    | [], _ => match rest with
      | [] => rfl
      | _ :: _ => rfl
  · obtain ⟨p, as, rfl, hp, tas, le, k⟩ := h
    suffices hh : ∃ t, PSs (cxOf CX0 P w K mg base ["things", "thing", "moment", "_"] "changed_moments" (defScope sChanged) f cdv A outer s H E).nox (defBody sChanged) t ∧ t { nx := fun _ H' => Q .non H', rt := Q } (start ["things", "thing", "moment", "_"] [V.ref p]) H by
      obtain ⟨t, h1, h2⟩ := hh
      exact ⟨t, h1.nox, h2⟩
    refine ⟨_, pss_one (ps_ret (pe_callB (cr_sortedSet rfl) (by rfl) T5.sorted (by decide +kernel) (pa_cons (pe_sc2 (own := [("thing", 1), ("moment", 2), ("_", 3)]) (us := [2, 3]) (g := gName 1) (gj := gTup K 2 (gCons (gName 2) (gCons (gName 3) gNil))) (tt := tYes) (tj := tYes) (te := tVar 2) (wj := iList K (tProp C (spChOf Th) [] E0 (tVar 1))) rfl scChanged.nd
        (pi_tup (pv 0))
        (blkOk_by (N := ["things", "thing", "moment", "_"]) (sc := defScope sChanged) (by decide +kernel)) (by decide)
        (fun _ _ _ _ _ => pg_name (i := 1) scChanged.nd rfl (.inl rfl)) (fun _ _ _ _ _ => pts_nil)
        (fun _ _ _ _ _ => pi_list (pe_prop (pv 1) zc W3.of W3.ok (hr.mono (by decide)) W3.bi .nil pass0 rfl))
        (fun _ _ _ _ _ => pg_tup rfl (pgs_cons (pg_name (i := 2) scChanged.nd rfl (.inl rfl)) (pgs_cons (pg_name (i := 3) scChanged.nd rfl (.inl rfl)) pgs_nil))) (fun _ _ _ _ _ => pts_nil)
        (fun _ _ _ _ _ => pv 2)) pa_nil))), ?_⟩
    refine ⟨_, rfl, p, rfl, ⟨_, SqT.of hp⟩, fun D hD => wk_tup (K := K) (a := p) (xs := as.map fun z => V.ref z.1) (fun i J => ∃ (S : Int → Bool) (n : Nat), J D = some (SetO w D S n) ∧ (∀ k, S k = true ↔ k ∈ (allOf (as.take i)).map (·.1)) ∧ n ≤ (allOf (as.take i)).length ∧ Same H J)
      ⟨_, 0, upd_same, fun k => by simp, Nat.zero_le _, same_new hD⟩ (fun i J _ ⟨_, _, _, _, _, h⟩ => SqT.of (h _ _ hp)) ?_ ?_⟩
    · rintro i y J hi ⟨S, n, hJ, hS, hn, sJ⟩
      rw [List.getElem?_map] at hi
      cases hz : as[i]? with
      | none => rw [hz] at hi; cases hi
      | some z =>
      rw [hz] at hi
      obtain rfl := Option.some.inj hi
      have tz := th.same (tas z (List.mem_of_getElem? hz)) sJ
      obtain ⟨dx, fs, hx⟩ := th.ob tz
      have es := allOf_succ hz
      have le1 := allOf_le (as := as) (i := i + 1)
      rw [es, List.length_append] at le1
      refine ⟨rfl, _, rfl, z.1, dx, fs, rfl, hx, ⟨z.1, z.2, rfl, tz, fun H1 q1 ts s1 nq1 h1 tp => ?_⟩⟩
      have tl := tp.len
      have ne : q1 ≠ D := fun e => by rw [e, hJ] at nq1; cases nq1
      refine ⟨q1, rfl, ⟨_, SqL.of h1⟩, wk_lst (K := K) (a := q1) (xs := ts.map V.ref) (fun j I => ∃ (S : Int → Bool) (n : Nat), I D = some (SetO w D S n) ∧ (∀ k, S k = true ↔ k ∈ (allOf (as.take i) ++ z.2.take j).map (·.1)) ∧ n ≤ (allOf (as.take i)).length + j ∧ Fr D H1 I)
        ⟨S, n, s1 _ _ hJ, fun k => by rw [hS k]; simp, by omega, Fr.refl _ _⟩ (fun j I _ ⟨_, _, _, _, _, h⟩ => SqL.of (h _ _ h1 ne)) ?_ ?_⟩
      · rintro j y I hj ⟨S2, n2, hI, hS2, hn2, fI⟩
        have hj2 : j < ts.length := by
          have := (List.getElem?_eq_some_iff.mp hj).1
          simpa using this
        rw [List.getElem?_map, List.getElem?_eq_getElem hj2] at hj
        obtain rfl := Option.some.inj hj
        obtain ⟨m, hm, hm2⟩ := tp.get (List.getElem?_eq_getElem hj2)
        have nt : ts[j] ≠ D := fun e => by
          rw [e, s1 _ _ hJ] at hm2
          cases hm2
        have et : z.2.take (j + 1) = z.2.take j ++ [m] := by rw [List.take_add_one, hm]; rfl
        refine ⟨_, _, rfl, .inl (.inl (fI _ _ hm2 nt)), rfl, _, _, rfl, _, [], rfl, rfl, rfl, ?_⟩
        refine ⟨_, rfl, m.1, S2, n2, rfl, hI, (by show n2 + 1 < 4096; omega), _, _, upd_same, fun k => ?_, ?_, fI.trans Fr.at_⟩
        · rw [et, ← List.append_assoc, List.map_append, List.mem_append, ← hS2 k]
          simp
        · split <;> omega
      · rintro I ⟨S2, n2, hI, hS2, hn2, fI⟩
        rw [List.length_map] at hn2 hS2
        rw [tl, List.take_length, ← es] at hS2
        refine ⟨S2, n2, hI, hS2, ?_, fun c o e => fI _ _ (s1 _ _ (sJ _ _ e)) (ne_of_none e hD)⟩
        rw [es, List.length_append]
        omega
    · rintro J ⟨S, n, hJ, hS, hn, sJ⟩
      rw [List.length_map] at hn hS
      rw [List.take_length] at hS hn
      refine ⟨D, S, n, rfl, hJ, by omega, fun ks p asc mem len np => ?_⟩
      have s4 := same_new (o := .lst (ks.map V.int)) np
      exact k _ p ks (sJ.trans s4) (sJ.free np) asc (fun k => by rw [mem k, hS k]) (by omega) upd_same
  · obtain ⟨as, rfl, la, tas, le, k⟩ := h
    refine ⟨[], as.map (fun z => V.ref z.1), rfl, rfl, by rw [List.length_map, sizeLine_eq]; omega, fun p hp => ⟨p, as, rfl, upd_same, fun z hz => th.same (tas z hz) (same_new hp), le, fun H' q ks s nq => k H' q ks ((same_new hp).trans s) ?_⟩⟩
    exact (same_new hp).free nq
/-- .. of two calendars -/
def spChanged (C : Addr) : Sp := fun vs H Q _ => ∃ (a b l d l' d' : Addr) (ps qs : List Int) (ms ns : List (Int × Int)), vs = [.ref a, .ref b] ∧ CalAt C H a l d ps ms ∧ CalAt C H b l' d' qs ns ∧ ms.length + ns.length ≤ 60 ∧
  ∀ (H' : Hp) (q : Addr) (ks : List Int), Same H H' → H q = none → ks.Pairwise (· < ·) → (∀ k, k ∈ ks ↔ k ∈ (ms ++ ns).map (·.1)) → ks.length ≤ ms.length + ns.length → H' q = some (.lst (ks.map V.int)) → Q (.ref q) H'
def ThC (C : Addr) : Hp → Addr → List (Int × Int) → Prop := fun H x ms => ∃ (l d : Addr) (ps : List Int), CalAt C H x l d ps ms
theorem thC {C : Addr} : ThOk C (ThC C) := ⟨fun ⟨l, d, ps, h⟩ s => ⟨l, d, ps, h.same s⟩, fun ⟨l, d, ps, h⟩ => by
  obtain ⟨dx, hx⟩ := h.ob
  exact ⟨dx, _, hx⟩⟩
theorem ok_changed {f C p3 g3 : Addr} {fd d3 : FuncData} (F : Fun K "changed_moments" "changed_moments" sChanged f fd) (Z : Cal K mg C) (T5 : Blt5 mg) (W3 : Pp P w K mg base C "changes" (spChanges C) p3 g3 d3) : FnR P w K mg base CX0 3 f (spChanged C) := by
  have W : Pp P w K mg base C "changes" (spChOf (ThC C)) p3 g3 d3 := ⟨W3.of, W3.ok.imp (fun vs H Q E ⟨x, ms, e, ⟨l, d, ps, h⟩, q⟩ => ⟨x, l, d, ps, ms, e, h, fun H' b ts s nb _ _ => q H' b ts s nb⟩), W3.bi⟩
  refine (ok_moms F Z.cl thC T5 W).imp fun vs H Q E h => ?_
  obtain ⟨a, b, l, d, l', d', ps, qs, ms, ns, rfl, c1, c2, le, k⟩ := h
  refine ⟨[(a, ms), (b, ns)], rfl, (by show 2 ≤ 900; decide), fun z hz => ?_, ?_, fun H' q ks s nq asc mem len h => k H' q ks s nq asc (fun j => ?_) ?_ h⟩
  · rcases List.mem_cons.mp hz with rfl | hz
    · exact ⟨l, d, ps, c1⟩
    · rcases List.mem_cons.mp hz with rfl | hz
      · exact ⟨l', d', qs, c2⟩
      · cases hz
  · simp [allOf]
    omega
  · rw [mem j]
    simp [allOf]
  · simpa [allOf] using len
end

/-! ### max and min of a pair of ints -/
def rMaxT (K : PySem.W.Frag) : List V → Hp → VK → Prop := fun vs H Q => ∃ (t : Addr) (i j : Int), vs = [.ref t] ∧ SqT K H t [.int i, .int j] ∧ Q (.int (if i < j then j else i)) H
def rMinT (K : PySem.W.Frag) : List V → Hp → VK → Prop := fun vs H Q => ∃ (t : Addr) (i j : Int), vs = [.ref t] ∧ SqT K H t [.int i, .int j] ∧ Q (.int (if j < i then j else i)) H
section
variable {X : Cx}
theorem cr_maxT (hc : X.calm = true) (hu : X.A.units + 64 < cLine) : CallR X (.builtin "max") (rMaxT X.K) := by
  intro pins s σ H vs us Q I r h
  obtain ⟨t, i, j, rfl, hs, q⟩ := h
  obtain ⟨its, rv, ht, _⟩ := I.tuple hs
  rw [Vals.ref1 r]
  have hold : PySem.W.HoldAll s.heap its [i, j] := by
    cases rv with
    | cons a b =>
      cases b with
      | cons a' b' =>
        cases b'
        obtain ⟨u, rfl⟩ := a
        obtain ⟨u', rfl⟩ := a'
        exact .cons (PySem.W.holds_int i u) (.cons (PySem.W.holds_int j u') ⟨_, .nil⟩)
  refine PySem.W.max_tuple_datum (α := Int) (x := i) (xs := [j]) (I.ok.hd hc) ht hold (by show X.A.units + 1 + 0 < cLine; omega) fun _ v h' tk _ hv hk => ?_
  obtain ⟨u, rfl⟩ := PySem.W.int_of_holds hv
  have e : PySem.W.maxOf i [j] = if i < j then j else i := by
    show (if decide (i < j) = true then j else i) = _
    by_cases c : i < j
    · rw [if_pos (decide_eq_true c), if_pos c]
    · rw [if_neg (by rw [decide_eq_false c]; exact Bool.false_ne_true), if_neg c]
  rw [e]
  exact ⟨.int _, H, I.kept hk, ⟨_, rfl⟩, q⟩
theorem cr_minT (hc : X.calm = true) (hu : X.A.units + 64 < cLine) : CallR X (.builtin "min") (rMinT X.K) := by
  intro pins s σ H vs us Q I r h
  obtain ⟨t, i, j, rfl, hs, q⟩ := h
  obtain ⟨its, rv, ht, _⟩ := I.tuple hs
  rw [Vals.ref1 r]
  have hold : PySem.W.HoldAll s.heap its [i, j] := by
    cases rv with
    | cons a b =>
      cases b with
      | cons a' b' =>
        cases b'
        obtain ⟨u, rfl⟩ := a
        obtain ⟨u', rfl⟩ := a'
        exact .cons (PySem.W.holds_int i u) (.cons (PySem.W.holds_int j u') ⟨_, .nil⟩)
  refine PySem.W.min_tuple_datum (α := Int) (x := i) (xs := [j]) (I.ok.hd hc) ht hold (by show X.A.units + 1 + 0 < cLine; omega) fun _ v h' tk _ hv hk => ?_
  obtain ⟨u, rfl⟩ := PySem.W.int_of_holds hv
  have e : PySem.W.minOf i [j] = if j < i then j else i := by
    show (if decide (j < i) = true then j else i) = _
    by_cases c : j < i
    · rw [if_pos (decide_eq_true c), if_pos c]
    · rw [if_neg (by rw [decide_eq_false c]; exact Bool.false_ne_true), if_neg c]
  rw [e]
  exact ⟨.int _, H, I.kept hk, ⟨_, rfl⟩, q⟩
end

/-! ### list(zip(a, b)) -/
/-- the pairs that stand at the addresses ts -/
def PairsAt (H : Hp) (xs ys : List V) (ts : List Addr) : Prop := ∀ (j : Nat) (t : Addr), ts[j]? = some t → ∃ x y, xs[j]? = some x ∧ ys[j]? = some y ∧ H t = some (.tup [x, y])
theorem PairsAt.fr {S : Addr} {H H' : Hp} {xs ys : List V} {ts : List Addr} (p : PairsAt H xs ys ts) (f : Fr S H H') (ns : S ∉ ts) : PairsAt H' xs ys ts := fun j t e => by
  obtain ⟨x, y, e1, e2, e3⟩ := p j t e
  exact ⟨x, y, e1, e2, f _ _ e3 fun q => ns (q ▸ List.mem_of_getElem? e)⟩
/-- how a zip of two lists stands behind i of its items -/
structure ZipSt (H : Hp) (h : Heap) (z TI TO i1 i2 a b : Addr) (i : Nat) : Prop where
  lt : ∀ c ∈ [z, TI, TO, i1, i2], c < h.objs.size
  ti : IsPair h TI (.ref i1) (.ref i2)
  l1 : h.IsListIter i1 a i
  l2 : h.IsListIter i2 b i
  out : (IsZip h z TI TO .none ∧ ∃ u v, IsPair h TO u v) ∨ ∃ T f us, PySem.IsZipHeld h z TI TO T f ∧ H T = some (.tup us)
section
variable {X : Cx} {pins : List (Addr × Obj)} {σ : L2.St}
theorem zip_loop {z TI TO i1 i2 a b S : Addr} {A : Around} {R : Result → Shared → Prop} {xs ys : List V} {H1 : Hp} (D : ZipApart z TI TO i1 i2 a b) (hA : A.handled = none) (len : xs.length = ys.length) (short : xs.length ≤ sizeLine) (res : Value)
    (aS : a ≠ S) (bS : b ≠ S) (newS : H1 S = none)
    (fin : ∀ (s' : Shared) (H' : Hp) (ts : List Addr), Inv X pins σ H' s' → Same H1 H' → H' S = some (.lst (ts.map V.ref)) → ts.length = xs.length → PairsAt H' xs ys ts → (∀ t ∈ ts, H1 t = none) → S ∉ ts → R (.ok (.ret res)) s') :
    ∀ (k i : Nat) (s : Shared) (H : Hp) (ts : List Addr), xs.length - i = k → ts.length = i → i ≤ xs.length → Inv X pins σ H s → (∀ c ∈ [z, TI, TO, i1, i2], FpOk X pins H c) → ZipSt H s.heap z TI TO i1 i2 a b i →
      H S = some (.lst (ts.map V.ref)) → H a = some (.lst xs) → H b = some (.lst ys) → Same H1 H → PairsAt H xs ys ts → (∀ t ∈ ts, H1 t = none) → S ∉ ts →
      codeAny (model X.prog X.w) A (.builtin "list.extend.loop" ⟨[.ref S, .ref z, res], []⟩) R s := by
  intro k
  induction k with
  | zero =>
    intro i s H ts hk hl hi I free st hS ha hb same pairs new ns
    obtain ⟨_, its, _, r1, e1, p1⟩ := I.lstM ha
    obtain ⟨_, its2, _, r2, e2, p2⟩ := I.lstM hb
    have over : its.toArray[i]? = none ∨ its2.toArray[i]? = none := .inl (by simp; omega)
    refine codeAny_builtin PySem.F.entry_extend_loop ?_
    rw [Around.under_plainId PySem.F.plain_extend_loop _]
    show wpAny _ A.in1 (pyNext (.ref z) >>= _) _ _ _
    have ends : ∀ h' : Heap, (∀ c o, c ∉ [z, TI, TO, i1, i2] → s.heap.get? c = some o → h'.get? c = some o) → R (.ok (.ret res)) { s with heap := h' } := fun h' keep =>
      fin _ H ts (I.turnedL (t' := s.toks) (ch := [z, TI, TO, i1, i2]) keep free) same hS (by omega) pairs new ns
    rcases st.out with ⟨hz, u, v, hTO⟩ | ⟨T, f, us, hz, hT⟩
    · exact wpAny_bind (wpAny_pyNext_zip_end (A := A.in1) hA D hz st.ti hTO st.l1 st.l2 ⟨_, p1, rfl, _, rfl⟩ ⟨_, p2, rfl, _, rfl⟩ over fun h' keep => wpAny_pure (ends h' fun c o nc e => keep c o (fun q => nc (by simp [q])) (fun q => nc (by simp [q])) (fun q => nc (by simp [q])) (fun q => nc (by simp [q])) e))
    · obtain ⟨_, _, _, o, eo, _⟩ := (show ObjOk X.prog X.w H s.heap T (.tup us) from I.hok T _ hT)
      exact wpAny_bind (PySem.wpAny_pyNext_zip_end_held (A := A.in1) hA D hz eo st.ti st.l1 st.l2 ⟨_, p1, rfl, _, rfl⟩ ⟨_, p2, rfl, _, rfl⟩ over fun h' keep => wpAny_pure (ends h' fun c o nc e => keep c o (fun q => nc (by simp [q])) (fun q => nc (by simp [q])) (fun q => nc (by simp [q])) e))
  | succ k ih =>
    intro i s H ts hk hl hi I free st hS ha hb same pairs new ns
    obtain ⟨_, its, _, r1, e1, p1⟩ := I.lstM ha
    obtain ⟨_, its2, _, r2, e2, p2⟩ := I.lstM hb
    have lt : i < xs.length := by omega
    obtain ⟨u, hu, ru⟩ := r1.get (List.getElem?_eq_getElem lt)
    obtain ⟨v, hv, rv⟩ := r2.get (List.getElem?_eq_getElem (show i < ys.length by omega))
    refine codeAny_builtin PySem.F.entry_extend_loop ?_
    rw [Around.under_plainId PySem.F.plain_extend_loop _]
    show wpAny _ A.in1 (pyNext (.ref z) >>= _) _ _ _
    have fresh : H s.heap.objs.size = none := I.hok.fresh (Nat.le_refl _)
    -- a new pair was given out
    have step : ∀ h' : Heap, (∀ c o, c ∉ [z, TI, TO, i1, i2] → s.heap.get? c = some o → h'.get? c = some o) → IsPair h' s.heap.objs.size u v → h'.objs.size = s.heap.objs.size + 1 → IsPair h' TI (.ref i1) (.ref i2) → h'.IsListIter i1 a (i + 1) → h'.IsListIter i2 b (i + 1) →
        ((IsZip h' z TI TO .none ∧ ∃ u v, IsPair h' TO u v) ∨ ∃ T f us, PySem.IsZipHeld h' z TI TO T f ∧ (upd H s.heap.objs.size (.tup [xs[i], ys[i]])) T = some (.tup us)) →
        wpAny (model X.prog X.w) A.in1 (updateSeq S (·.push (.ref s.heap.objs.size)) >>= fun _ => again (.builtin "list.extend.loop" ⟨[.ref S, .ref z, res], []⟩))
          (fun fn s' => match fn with | .done f => R (.ok f) s' | .again c' => c'.quiet = true ∧ codeAny (model X.prog X.w) A c' R s') (fun e s' => R (.error e) s') { s with heap := h' } := by
      intro h' keep pr size ti j1 j2 out
      have nw : ObjOk X.prog X.w (upd H s.heap.objs.size (.tup [xs[i], ys[i]])) h' s.heap.objs.size (.tup [xs[i], ys[i]]) := ⟨by show 2 ≤ sizeLine; decide, [u, v], .cons ru (.cons rv .nil), ⟨_, pr, rfl, _, rfl⟩⟩
      have J : Inv X pins σ (upd H s.heap.objs.size (.tup [xs[i], ys[i]])) { s with heap := h' } := I.turnedNew (t' := s.toks) (ch := [z, TI, TO, i1, i2]) keep free (Nat.le_refl _) nw
      have grow := same_new (o := .tup [xs[i], ys[i]]) fresh
      obtain ⟨_, acc, c, ra, ea, pa⟩ := J.lstM (grow _ _ hS)
      have J2 := J.lset (f := (·.push (Value.ref s.heap.objs.size))) (its' := acc ++ [Value.ref s.heap.objs.size]) (ys := (ts ++ [s.heap.objs.size]).map V.ref) (t' := s.toks) (grow _ _ hS) pa (by simp) (by rw [List.map_append]; exact ra.append (.cons rfl .nil)) (by rw [List.length_map, List.length_append, List.length_singleton]; omega)
      have neS : s.heap.objs.size ≠ S := fun q => by rw [q, hS] at fresh; cases fresh
      have fS : Fr S H (upd (upd H s.heap.objs.size (.tup [xs[i], ys[i]])) S (.lst ((ts ++ [s.heap.objs.size]).map V.ref))) := fun c o e g => by rw [upd_ne g]; exact grow _ _ e
      have up : ∀ c o, c ≠ S → h'.get? c = some o → (h'.update S (Obj.mapSeq (·.push (Value.ref s.heap.objs.size)))).get? c = some o := fun c o g e => (Heap.get?_update_other _ _ (Ne.symm g)).trans e
      have off : ∀ c ∈ [z, TI, TO, i1, i2], c ≠ S := fun c mc q => by
        have := (free c mc).1
        rw [q, hS] at this
        cases this
      refine wpAny_bind (wpAny_updateSeq pa rfl (wpAny_pure ⟨plainId_quiet PySem.F.plain_extend_loop _, ih (i + 1) _ _ (ts ++ [s.heap.objs.size]) (by omega) (by rw [List.length_append, hl]; rfl) lt J2 (fun c mc => ?_) ⟨fun c mc => ?_, up _ _ (off _ (by simp)) ti, ?_, ?_, ?_⟩ upd_same (fS _ _ ha aS) (fS _ _ hb bS) (fun c o e => fS _ _ (same _ _ e) fun q => by rw [q, newS] at e; cases e) ?_ ?_ ?_⟩)
        (by rw [List.size_toArray, ← ea, List.length_map]; omega) (by show (acc.toArray.push _).size ≤ sizeLine + 1; rw [Array.size_push, List.size_toArray, ← ea, List.length_map]; omega))
      · refine ⟨?_, (free c mc).2⟩
        have nc : c ≠ s.heap.objs.size := Nat.ne_of_lt (st.lt c mc)
        rw [upd_ne (off c mc), upd_ne nc]
        exact (free c mc).1
      · show c < (h'.update S _).objs.size
        rw [Heap.size_update, size]
        exact Nat.lt_succ_of_lt (st.lt c mc)
      · exact j1.at fun o e => up _ _ (off _ (by simp)) e
      · exact j2.at fun o e => up _ _ (off _ (by simp)) e
      · rcases out with ⟨hz, u, v, hTO⟩ | ⟨T, f, us, hz, hT⟩
        · exact .inl ⟨up _ _ (off _ (by simp)) hz, u, v, up _ _ (off _ (by simp)) hTO⟩
        · refine .inr ⟨T, f, us, up _ _ (off _ (by simp)) hz, ?_⟩
          rw [upd_ne fun q => by rw [q, grow _ _ hS] at hT; cases hT]
          exact hT
      · intro j t e
        rcases Nat.lt_trichotomy j ts.length with g | g | g
        · rw [List.getElem?_append_left g] at e
          exact (pairs.fr fS ns) j t e
        · subst g
          have : s.heap.objs.size = t := by simpa using e
          subst this
          refine ⟨_, _, by rw [hl]; exact List.getElem?_eq_getElem lt, by rw [hl]; exact List.getElem?_eq_getElem (by omega), ?_⟩
          rw [upd_ne neS, upd_same]
        · rw [List.getElem?_eq_none (by rw [List.length_append, List.length_singleton]; omega)] at e
          cases e
      · intro t mt
        rcases List.mem_append.mp mt with g | g
        · exact new t g
        · rw [List.mem_singleton.mp g]
          cases q : H1 s.heap.objs.size with
          | none => rfl
          | some o =>
            rw [same _ _ q] at fresh
            cases fresh
      · intro mt
        rcases List.mem_append.mp mt with g | g
        · exact ns g
        · exact neS (List.mem_singleton.mp g).symm
    rcases st.out with ⟨hz, u0, v0, hTO⟩ | ⟨T, f, us, hz, hT⟩
    · refine wpAny_bind (wpAny_pyNext_zip_item (A := A.in1) D hz st.ti hTO st.l1 st.l2 ⟨_, p1, rfl, _, rfl⟩ ⟨_, p2, rfl, _, rfl⟩ (by simpa using hu) (by simpa using hv) fun h' z' TO' j1 j2 pr size keep => ?_)
      refine step h' (fun c o nc e => keep c o (fun q => nc (by simp [q])) (fun q => nc (by simp [q])) (fun q => nc (by simp [q])) (fun q => nc (by simp [q])) e) pr size (keep _ _ D.TIz D.TITO D.TIi1 D.TIi2 st.ti) j1 j2 (.inr ⟨s.heap.objs.size, false, _, z', upd_same⟩)
    · obtain ⟨_, _, _, o, eo, _⟩ := (show ObjOk X.prog X.w H s.heap T (.tup us) from I.hok T _ hT)
      refine wpAny_bind (PySem.wpAny_pyNext_zip_item_held (A := A.in1) D hz eo st.ti st.l1 st.l2 ⟨_, p1, rfl, _, rfl⟩ ⟨_, p2, rfl, _, rfl⟩ (by simpa using hu) (by simpa using hv) fun h' z' j1 j2 pr size keep => ?_)
      refine step h' (fun c o nc e => keep c o (fun q => nc (by simp [q])) (fun q => nc (by simp [q])) (fun q => nc (by simp [q])) e) pr size (keep _ _ D.TIz D.TIi1 D.TIi2 st.ti) j1 j2 (.inr ⟨T, true, us, z', ?_⟩)
      rw [upd_ne fun q => by rw [q, fresh] at hT; cases hT]
      exact hT
end

theorem zip_len0 : typeLookup (.type "zip") "__len__" = pure none := by rw [typeLookup_type, builtinLookup_eq_fast]; kernel_rfl
theorem zip_hint0 : typeLookup (.type "zip") "__length_hint__" = pure none := by rw [typeLookup_type, builtinLookup_eq_fast]; kernel_rfl
def tListZip (ta : TA) : TE := fun σ H Q => ta σ H fun vs H1 => ∃ (a b : Addr) (xs ys : List V), vs = [.ref a, .ref b] ∧ H1 a = some (.lst xs) ∧ H1 b = some (.lst ys) ∧ xs.length = ys.length ∧
  ∀ (H' : Hp) (S : Addr) (ts : List Addr), Same H1 H' → H1 S = none → H' S = some (.lst (ts.map V.ref)) → ts.length = xs.length → PairsAt H' xs ys ts → (∀ t ∈ ts, H1 t = none) → S ∉ ts → Q (.ref S) H'
section
variable {X : Cx}
theorem pe_listZip {e e2 : Expr} {ta : TA} {p p2 q pos : Pos} (calm : X.calm = true) (hg : Gl X "list") (hm : X.mg "list" = none) (hv : bootBuiltins "list" = some (.type "list")) (hg2 : Gl X "zip") (hm2 : X.mg "zip" = none) (ha : PA X [e, e2] ta)
    (hs2 : starEach [e, e2] X.env = (false, eval e X.env) :: starEach [e2] X.env := by rfl) (hpl : (backTo q (starEach [e2] X.env)).any (·.1) = false := by rfl)
    (hs : starEach [.Call (.Name "zip" p2) [e, e2] [] q] X.env = (false, eval (.Call (.Name "zip" p2) [e, e2] [] q) X.env) :: starEach [] X.env := by rfl) :
    PE X (.Call (.Name "list" p) [.Call (.Name "zip" p2) [e, e2] [] q] [] pos) (tListZip ta) := by
  refine ⟨fun pins s σ H Q I h => ?_⟩
  refine wpAny_Call_Name_kw (ld_blt I hg hm hv ?_)
  refine PyProof.Rows.callWith_type1 ?_ hs rfl
  rw [hs]
  show wpAny _ _ (spliced ((false, eval (.Call (.Name "zip" p2) [e, e2] [] q) X.env) :: backTo pos (starEach [] X.env))) _ _ s
  refine Calls.spliced_cons ?_
  refine Call_ (ld_blt I hg2 hm2 PyProof.Rows.boot_zip (PyProof.Rows.callWith_type1 (thn (ha.run q pins s σ H _ I h) fun us s1 hh => ?_) hs2 hpl))
  obtain ⟨vs, H1, I1, r1, a, b, xs, ys, ex, hqa, hqb, len, k⟩ := hh
  subst ex
  cases r1 with
  | cons r rr =>
    cases rr with
    | cons r' rr =>
      cases rr
      cases r
      cases r'
      obtain ⟨zx, its, _, rv, _, p1⟩ := I1.lstM hqa
      obtain ⟨_, its2, _, rv2, _, p2⟩ := I1.lstM hqb
      have la := Heap.lt_size p1
      have lb := Heap.lt_size p2
      refine call_zip_2 ⟨_, p1, rfl, _, rfl⟩ ⟨_, p2, rfl, _, rfl⟩ fun h' hz hTI hTO j1 j2 size keep => ?_
      refine Calls.spliced_nil ?_
      have I2 : Inv X pins σ H1 { s1 with heap := h' } := I1.kept (t' := s1.toks) keep
      have zS : h'.objs.size ≠ s1.heap.objs.size + 4 := by omega
      refine callType_codes (Q₁ := fun obj s₁ => obj = .ref h'.objs.size ∧ s₁ = { s1 with heap := h'.push { cls := .type "list", data := .seq #[] } }) F.called_list (F.typeCall_list_1 _) F.entry_list_init
        (code_list_new _ ⟨rfl, rfl⟩) fun obj s₁ hh => ?_
      obtain ⟨rfl, rfl⟩ := hh
      have hS0 : (h'.push { cls := .type "list", data := .seq #[] }).get? h'.objs.size = some { cls := .type "list", data := .seq #[] } := Heap.get?_push_size _ rfl
      refine ⟨⟨_, hS0, rfl⟩, F.args_list_init_2 _ _, ?_⟩
      show wpAny _ X.A.in1.in1 (do let old ← Builtin.List.listItems (.ref h'.objs.size); Builtin.List.listUpdate (.ref h'.objs.size) (fun _ => #[]); letGo old.toList.reverse; Builtin.List.listExtendWith (.ref h'.objs.size) (.ref (s1.heap.objs.size + 4)) .none) _ _ _
      refine wpAny_bind ?_
      unfold Builtin.List.listItems
      refine wpAny_bind (wpAny_seqItems hS0 rfl (wpAny_pure ?_))
      show wpAny _ X.A.in1.in1 (updateSeq h'.objs.size (fun _ => #[]) >>= fun _ => letGo (#[] : Array Value).toList.reverse >>= fun _ => Builtin.List.listExtendWith (.ref h'.objs.size) (.ref (s1.heap.objs.size + 4)) .none) _ _ _
      refine wpAny_bind (wpAny_updateSeq hS0 rfl ?_)
      have hS1 := Heap.get?_update_self (Obj.mapSeq (fun _ => (#[] : Array Value))) hS0 rfl
      refine wpAny_bind (wpAny_letGo ?_)
      have old : ∀ (g : Heap) (f : Obj → Obj), (∀ c o, h'.get? c = some o → g.get? c = some o) → ∀ c o, h'.get? c = some o → (g.update h'.objs.size f).get? c = some o := fun g f y c o ec =>
        (Heap.get?_update_other _ _ (Nat.ne_of_gt (Heap.lt_size ec))).trans (y c o ec)
      have y0 : ∀ c o, h'.get? c = some o → (h'.push { cls := .type "list", data := .seq #[] }).get? c = some o := fun c o ec => Heap.get?_push_of_some _ ec
      have y1 := old _ (Obj.mapSeq (fun _ => (#[] : Array Value))) y0
      unfold Builtin.List.listExtendWith
      refine wpAny_bind (wpAny_typeOf (T := "zip") ⟨_, y1 _ _ hz, rfl⟩ ?_)
      have n1 : Builtin.List.listSameRef (.ref h'.objs.size) (.ref (s1.heap.objs.size + 4)) = false := by simp [Builtin.List.listSameRef, zS]
      have n2 : (Value.type "zip" == Value.type "list") = false := by decide
      have n3 : (Value.type "zip" == Value.type "tuple") = false := by decide
      simp only [n1, n2, n3, Bool.or_false, Bool.false_eq_true, if_false]
      refine wpAny_bind (wpAny_pyIter_zip (y1 _ _ hz) ?_)
      refine wpAny_bind (wpAny_holding ?_)
      unfold Builtin.List.listLengthHint
      refine wpAny_bind (wpAny_specialOf (T := "zip") ⟨_, y1 _ _ hz, rfl⟩ zip_len0 ?_)
      show wpAny _ X.A.in1.in1 (specialOf (Value.ref (s1.heap.objs.size + 4)) (Str.ofString "__length_hint__") >>= _) _ _ _
      refine wpAny_bind (wpAny_specialOf (T := "zip") ⟨_, y1 _ _ hz, rfl⟩ zip_hint0 ?_)
      refine wpAny_pure ?_
      show wpAny _ X.A.in1.in1 (rule "list.extend.makes-room" >>= fun _ => Builtin.List.listTouch (.ref h'.objs.size) >>= fun _ => again (.builtin "list.extend.loop" ⟨[.ref h'.objs.size, .ref (s1.heap.objs.size + 4), .none], []⟩)) _ _ _
      refine wpAny_bind (wpAny_rule ?_)
      refine wpAny_bind ?_
      show wpAny _ X.A.in1.in1 (updateSeq h'.objs.size (·.push .none) >>= fun _ => updateSeq h'.objs.size (·.pop)) _ _ _
      refine wpAny_bind (wpAny_updateSeq hS1 rfl ?_)
      have hS2 := Heap.get?_update_self (Obj.mapSeq (·.push Value.none)) hS1 rfl
      refine wpAny_updateSeq (hz := by seq_fits) hS2 rfl ?_
      have hS3 := Heap.get?_update_self (Obj.mapSeq (·.pop)) hS2 rfl
      have y3 := old _ (Obj.mapSeq (·.pop)) (old _ (Obj.mapSeq (·.push Value.none)) y1)
      have new0 : H1 h'.objs.size = none := I2.hok.fresh (Nat.le_refl _)
      have aS : a ≠ h'.objs.size := Nat.ne_of_lt (by rw [size]; exact Nat.lt_add_right 5 la)
      have bS : b ≠ h'.objs.size := Nat.ne_of_lt (by rw [size]; exact Nat.lt_add_right 5 lb)
      refine wpAny_pure ⟨plainId_quiet F.plain_extend_loop _, ?_⟩
      refine zip_loop (X := X) (A := X.A.in1) (pins := pins) (σ := σ) (H1 := H1) (z := s1.heap.objs.size + 4) (TI := s1.heap.objs.size + 2) (TO := s1.heap.objs.size + 3) (i1 := s1.heap.objs.size) (i2 := s1.heap.objs.size + 1) (a := a) (b := b) (S := h'.objs.size) (xs := xs) (ys := ys)
        (PySem.W.ktu_apart s1.heap.objs.size a b la lb) (I1.ok.hd calm) len zx .none aS bS new0 (fun s' H' ts J same hS tl pr nt ns => ?_)
        xs.length 0 _ (upd H1 h'.objs.size (.lst [])) [] (Nat.sub_zero _) rfl (Nat.zero_le _) (I2.laid (t' := s1.toks) y3 (Nat.le_refl _) ⟨Nat.zero_le _, [], _, .nil, hS3⟩) (fun c mc => ?_) ⟨fun c mc => ?_, y3 _ _ hTI, j1.at fun o ec => y3 _ _ ec, j2.at fun o ec => y3 _ _ ec, .inl ⟨y3 _ _ hz, _, _, y3 _ _ hTO⟩⟩
        upd_same (by rw [upd_ne aS]; exact hqa) (by rw [upd_ne bS]; exact hqb) (same_new new0) (fun j t ej => by simp at ej) (fun t mt => absurd mt List.not_mem_nil) List.not_mem_nil
      · exact ⟨rfl, ⟨.ref h'.objs.size, H', J, rfl, k H' _ ts same new0 hS tl pr nt ns⟩⟩
      · have : s1.heap.objs.size ≤ c ∧ c ≠ h'.objs.size := by
          simp only [List.mem_cons, List.not_mem_nil, or_false] at mc
          rw [size]
          rcases mc with rfl | rfl | rfl | rfl | rfl
          · exact ⟨Nat.le_add_right _ _, Nat.ne_of_lt (Nat.add_lt_add_left (by decide) _)⟩
          · exact ⟨Nat.le_add_right _ _, Nat.ne_of_lt (Nat.add_lt_add_left (by decide) _)⟩
          · exact ⟨Nat.le_add_right _ _, Nat.ne_of_lt (Nat.add_lt_add_left (by decide) _)⟩
          · exact ⟨Nat.le_refl _, Nat.ne_of_lt (Nat.lt_add_of_pos_right (by decide))⟩
          · exact ⟨Nat.le_add_right _ _, Nat.ne_of_lt (Nat.add_lt_add_left (by decide) _)⟩
        exact I1.fpOk this.1 (by rw [upd_ne this.2]; exact I1.hok.fresh this.1)
      · show c < (((((h'.push _).update _ _).update _ _).update _ _)).objs.size
        rw [Heap.size_update, Heap.size_update, Heap.size_update, Heap.size_push]
        have tot : c < s1.heap.objs.size + 5 := by
          simp only [List.mem_cons, List.not_mem_nil, or_false] at mc
          rcases mc with rfl | rfl | rfl | rfl | rfl
          · exact Nat.add_lt_add_left (by decide) _
          · exact Nat.add_lt_add_left (by decide) _
          · exact Nat.add_lt_add_left (by decide) _
          · exact Nat.lt_add_of_pos_right (by decide)
          · exact Nat.add_lt_add_left (by decide) _
        rw [← size] at tot
        exact Nat.lt_succ_of_lt tot
end

/-! ### both speeds at each moment -/
structure Blt6 (mg : Str → Option Value) : Prop where
  zip : mg "zip" = none
def spWeeks (C : Addr) : Sp := fun vs H Q _ => ∃ (a b l d l' d' : Addr) (ps qs : List Int) (ms ns : List (Int × Int)), vs = [.ref a, .ref b] ∧ CalAt C H a l d ps ms ∧ CalAt C H b l' d' qs ns ∧ ps.length = qs.length ∧ Q .non H
/-- (moment, both speeds) at the addresses cs -/
def ChAt (H : Hp) (ps qs : List Int) (ms ns : List (Int × Int)) (ks : List Int) (cs : List Addr) : Prop := ∀ (j : Nat) (c : Addr), cs[j]? = some c → ∃ (k : Int) (u : Addr), ks[j]? = some k ∧ H c = some (.tup [.int k, .ref u]) ∧ H u = some (.tup [.int (speedAt ps ms k), .int (speedAt qs ns k)])
theorem ChAt.same {H H' : Hp} {ps qs : List Int} {ms ns : List (Int × Int)} {ks : List Int} {cs : List Addr} (p : ChAt H ps qs ms ns ks cs) (f : Same H H') : ChAt H' ps qs ms ns ks cs := fun j c e => by
  obtain ⟨k, u, e1, e2, e3⟩ := p j c e
  exact ⟨k, u, e1, f _ _ e2, f _ _ e3⟩
theorem PairsAt.same {H H' : Hp} {xs ys : List V} {ts : List Addr} (p : PairsAt H xs ys ts) (f : Same H H') : PairsAt H' xs ys ts := fun j t e => by
  obtain ⟨x, y, e1, e2, e3⟩ := p j t e
  exact ⟨x, y, e1, e2, f _ _ e3⟩
def spPairs (C : Addr) : Sp := fun vs H Q _ => ∃ (a b l d l' d' : Addr) (ps qs : List Int) (ms ns : List (Int × Int)), vs = [.ref a, .ref b] ∧ CalAt C H a l d ps ms ∧ CalAt C H b l' d' qs ns ∧ ps.length = qs.length ∧ 0 < ps.length ∧ ms.length + ns.length ≤ 60 ∧
  ∀ (H' : Hp) (r W L : Addr) (ws cs : List Addr) (ks : List Int), Same H H' → H' r = some (.tup [.ref W, .ref L]) → H' W = some (.lst (ws.map V.ref)) → ws.length = ps.length → PairsAt H' (ps.map V.int) (qs.map V.int) ws →
    H' L = some (.lst (cs.map V.ref)) → cs.length = ks.length → ChAt H' ps qs ms ns ks cs → ks.Pairwise (· < ·) → (∀ k, k ∈ ks ↔ k ∈ (ms ++ ns).map (·.1)) → ks.length ≤ ms.length + ns.length → Q (.ref r) H'
section
variable {P : Program} {w : World} {K : PySem.W.Frag} {mg : Str → Option Value} {base : Heap}
theorem scWeeks : FnScope ["one", "other"] ["one", "other"] (defScope sWeeks) := ⟨rfl, rfl, rfl, by decide +kernel, rfl, by decide +kernel, by decide +kernel⟩
theorem ok_weeks {f C p1 g1 : Addr} {fd d1 : FuncData} (F : Fun K "check_weeks" "check_weeks" sWeeks f fd) (Z : Cal K mg C) (W1 : Pp P w K mg base C "week" (spWeek C) p1 g1 d1) : FnOk P w K mg base CX0 3 f fd ["one", "other"] (spWeeks C) := by
  refine F.ok scWeeks (fun vs H Q E h => ?_) (fun cdv A outer s H vs Q E hr h => ?_)
  · obtain ⟨a, b, l, d, l', d', ps, qs, ms, ns, rfl, _⟩ := h
    rfl
  · obtain ⟨a, b, l, d, l', d', ps, qs, ms, ns, rfl, c1, c2, len, k⟩ := h
    refine ⟨_, pss_one (ps_if (pt_cmpR op_ne (pe_prop (pv 0) Z.cl W1.of W1.ok hr W1.bi .nil pass0 rfl) (pe_prop (pv 1) Z.cl W1.of W1.ok hr W1.bi .nil pass0 rfl) (nomark _)) (pss_one ps_never) pss_nil), ?_⟩
    obtain ⟨dx, hx⟩ := c1.ob
    obtain ⟨dy, hy⟩ := c2.ob
    refine ⟨_, rfl, a, dx, _, rfl, hx, ⟨a, l, d, ps, ms, rfl, c1, ⟨_, rfl, b, dy, _, rfl, hy, ⟨b, l', d', qs, ns, rfl, c2, ⟨rfl, _, rfl, ?_⟩⟩⟩⟩⟩
    rw [len, decide_eq_true rfl]
    exact ite2 (fun g => absurd g (by decide)) (fun _ => k)
theorem scPairs : FnScope ["one", "other", "weekly", "at"] ["one", "other"] (defScope sPairs) := ⟨rfl, rfl, rfl, by decide +kernel, rfl, by decide +kernel, by decide +kernel⟩
theorem ok_pairs {f fW fC fG C p2 g2 : Addr} {fd dW dG d2 : FuncData} (F : Fun K "speed_pairs" "speed_pairs" sPairs f fd) (T : Blt mg) (T6 : Blt6 mg) (Z : Cal K mg C) (Cw : At P w K mg base 3 "check_weeks" ["one", "other"] (spWeeks C) fW dW) (Ch : AtR P w K mg base 3 "changed_moments" (spChanged C) fC)
    (oG : Own K C "__getitem__" fG) (Gg : FnOk P w K mg base CX0 1 fG dG ["self", "at"] (spGet C)) (bG : Binds K dG ["self", "at"] []) (W2 : Pp P w K mg base C "speeds" (spSpeeds C) p2 g2 d2) : FnOk P w K mg base CX0 4 f fd ["one", "other"] (spPairs C) := by
  refine F.ok scPairs (fun vs H Q E h => ?_) (fun cdv A outer s H vs Q E hr h => ?_)
  · obtain ⟨a, b, l, d, l', d', ps, qs, ms, ns, rfl, _⟩ := h
    rfl
  · obtain ⟨a, b, l, d, l', d', ps, qs, ms, ns, rfl, c1, c2, len, l0, le, k⟩ := h
    have hr2 : Room 2 _ := hr.mono (by decide)
    refine ⟨_, pss_cons (ps_expr (pe_call Cw.ok hr (by rfl) Cw.at_ Cw.kp Cw.bi .nil pass0 (pa_cons (pv 0) (pa_cons (pv 1) pa_nil))))
      (pss_cons (ps_set (i := 2) scPairs.nd rfl (.inl rfl) (pe_listZip rfl (by rfl) T.list (by decide +kernel) (by rfl) T6.zip (pa_cons (pe_prop (pv 0) Z.cl W2.of W2.ok hr2 W2.bi .nil pass0 rfl) (pa_cons (pe_prop (pv 1) Z.cl W2.of W2.ok hr2 W2.bi .nil pass0 rfl) pa_nil))))
      (pss_one (ps_ret (pe_tup (pa_cons (pv 2) (pa_cons (pe_lc (own := [("at", 3)]) (g := gName 3) (tt := tYes) rfl scPairs.nd (pi_list (pe_callR Ch.ok hr (by rfl) Ch.at_ Ch.kp pass0 (pa_cons (pv 0) (pa_cons (pv 1) pa_nil))))
          (blkOk_by (N := ["one", "other", "weekly", "at"]) (sc := defScope sPairs) (by decide +kernel)) (fun _ _ _ _ _ => pg_name (i := 3) scPairs.nd rfl (.inl rfl)) (fun _ _ _ _ _ => pts_nil)
          (fun _ _ _ _ _ => pe_tup (pa_cons (pv 3) (pa_cons (pe_tup (pa_cons (ix_own oG Gg hr2 bG (pv 0) (pv 3)) (pa_cons (ix_own oG Gg hr2 bG (pv 1) (pv 3)) pa_nil))) pa_nil)))) pa_nil)))))), ?_⟩
    obtain ⟨dx, hx⟩ := c1.ob
    obtain ⟨dy, hy⟩ := c2.ob
    refine ⟨_, rfl, _, rfl, ⟨a, b, l, d, l', d', ps, qs, ms, ns, rfl, c1, c2, len, ?_⟩⟩
    refine ⟨_, rfl, a, dx, _, rfl, hx, ⟨a, l, d, ps, ms, rfl, c1, fun q1 n1 => ?_⟩⟩
    have s1 := same_new (o := .lst (ps.map V.int)) n1
    refine ⟨_, rfl, b, dy, _, rfl, s1 _ _ hy, ⟨b, l', d', qs, ns, rfl, c2.same s1, fun q2 n2 => ?_⟩⟩
    have s2 := same_new (o := .lst (qs.map V.int)) n2
    refine ⟨q1, q2, _, _, rfl, s2 _ _ upd_same, upd_same, by rw [List.length_map, List.length_map]; exact len, fun H1 S ws s3 nS hS wl pr _ _ => ?_⟩
    rw [List.length_map] at wl
    have s03 := (s1.trans s2).trans s3
    refine ⟨_, rfl, _, rfl, _, rfl, ⟨a, b, l, d, l', d', ps, qs, ms, ns, rfl, c1.same s03, c2.same s03, le, fun H2 q ks s4 nq asc mem kl hq => ?_⟩⟩
    have s04 := s03.trans s4
    have cA := c1.same s04
    have cB := c2.same s04
    refine ⟨q, rfl, ⟨_, SqL.of hq⟩, fun L nL => lc_list (K := K) (a := q) (xs := ks.map V.int) (fun i J => ∃ cs : List Addr, J L = some (.lst (cs.map V.ref)) ∧ cs.length = i ∧ ChAt J ps qs ms ns ks cs ∧ Same H2 J) ⟨[], upd_same, rfl, fun j c e => by simp at e, same_new nL⟩ (fun i J _ ⟨_, _, _, _, h⟩ => SqL.of (h _ _ hq)) ?_ ?_⟩
    · rintro i y J hi' ⟨cs, hJ, cl, ch, sJ⟩
      have hi2 : i < ks.length := by
        have := (List.getElem?_eq_some_iff.mp hi').1
        simpa using this
      rw [List.getElem?_map, List.getElem?_eq_getElem hi2] at hi'
      obtain rfl := Option.some.inj hi'
      have cA2 := cA.same sJ
      have cB2 := cB.same sJ
      obtain ⟨dx2, hx2⟩ := cA2.ob
      obtain ⟨dy2, hy2⟩ := cB2.ob
      refine ⟨rfl, _, rfl, _, rfl, _, rfl, a, dx2, _, rfl, hx2, ⟨a, l, d, ps, ms, ks[i], rfl, cA2, l0, ?_⟩⟩
      refine ⟨_, rfl, _, rfl, b, dy2, _, rfl, hy2, ⟨b, l', d', qs, ns, ks[i], rfl, cB2, by omega, ?_⟩⟩
      refine ⟨(by show 2 ≤ sizeLine; decide), fun u nu => ⟨(by show 2 ≤ sizeLine; decide), fun c nc => ?_⟩⟩
      have e1 := same_new (o := .tup [.int (speedAt ps ms ks[i]), .int (speedAt qs ns ks[i])]) nu
      have e2 := same_new (o := .tup [.int ks[i], .ref u]) nc
      have e12 := e1.trans e2
      have put : ∀ {D : Addr} {o : HO} {xs : List V} {Y : Hp}, Y L = some (.lst xs) → Y D = some o → (∀ z, o ≠ .lst z) → (upd Y L (.lst ((cs ++ [c]).map V.ref))) D = some o := fun {D o xs Y} g e z => by
        rw [upd_ne fun q => by rw [q, g] at e; exact z _ (Option.some.inj e).symm]
        exact e
      refine ⟨_, e12 _ _ hJ, by rw [List.length_map]; exact small1000 (by omega), cs ++ [c], ?_, by rw [List.length_append, cl]; rfl, fun j t e => ?_, fun t o e => ?_⟩
      · rw [upd_same, List.map_append]
        rfl
      · rw [show cs.map V.ref ++ [V.ref c] = (cs ++ [c]).map V.ref by rw [List.map_append]; rfl]
        rcases Nat.lt_trichotomy j cs.length with g | g | g
        · rw [List.getElem?_append_left g] at e
          obtain ⟨kk, uu, k1, k2, k3⟩ := (ch.same e12) j t e
          exact ⟨kk, uu, k1, put (e12 _ _ hJ) k2 (fun z q => nomatch q), put (e12 _ _ hJ) k3 (fun z q => nomatch q)⟩
        · subst g
          have : c = t := by simpa using e
          subst this
          exact ⟨ks[i], u, by rw [cl]; exact List.getElem?_eq_getElem hi2, put (e12 _ _ hJ) upd_same (fun z q => nomatch q), put (e12 _ _ hJ) (e2 _ _ upd_same) (fun z q => nomatch q)⟩
        · rw [List.getElem?_eq_none (by rw [List.length_append, List.length_singleton]; omega)] at e
          cases e
      · rw [upd_ne (ne_of_none e nL)]
        exact e12 _ _ (sJ t o e)
    · rintro J ⟨cs, hJ, cl, ch, sJ⟩
      rw [List.length_map] at cl
      refine ⟨(by show 2 ≤ sizeLine; decide), fun r nr => ?_⟩
      have s5 := same_new (o := .tup [.ref S, .ref L]) nr
      have sA := (s4.trans sJ).trans s5
      exact k _ r S L ws cs ks (s03.trans sA) upd_same (sA _ _ hS) wl (pr.same sA) (s5 _ _ hJ) cl (ch.same s5) asc mem kl
end

/-! ### a | b and a & b of own classes -/
section
variable {X : Cx} {k : Nat} {f C : Addr} {fd : FuncData} {ps : List Str} {sp : Sp}
def rBin (C : Addr) (sp : Sp) : R2 := fun x y H Q => ∃ a b dx dy fs gs, x = .ref a ∧ y = .ref b ∧ H a = some (.ins C dx fs) ∧ H b = some (.ins C dy gs) ∧ sp [.ref a, .ref b] H (fun r H' => (∃ c, r = .ref c) ∧ Q r H') E0
theorem op_binOwn {op : Operator} (o : Own X.K C (PySem.dunder op.info.2) f) (first : PySem.W.selfFirst X.K C = true) (F : FnOk X.prog X.w X.K X.mg X.base CX0 k f fd ps sp) (hr : Room k X.A) (hb : Binds X.K fd ps []) : OpR X (binaryOp op) (rBin C sp) := by
  intro pins s σ H x y v u Q I rx ry h
  obtain ⟨a, b, dx, dy, fs, gs, rfl, rfl, ea, eb, hq⟩ := h
  obtain rfl : v = Value.ref a := rx
  obtain rfl : u = Value.ref b := ry
  obtain ⟨m, fr⟩ := I.fr
  obtain ⟨mA, O, _⟩ := ins_get I.hok ea
  obtain ⟨od, J, _⟩ := O.look
  obtain ⟨mB, O2, _⟩ := ins_get I.hok eb
  obtain ⟨od2, J2, _⟩ := O2.look
  refine PySem.W.binop_K fr I.ok.mod.kin J J2.type first o.at_ o.fn (thn (run_here F hr hb I (.cons (show L2.RelV (V.ref a) (Value.ref a) from rfl) (.cons (show L2.RelV (V.ref b) (Value.ref b) from rfl) .nil)) hq) fun r s2 hh => ?_)
  obtain ⟨z, H2, I2, rz, ⟨c, ec⟩, q2⟩ := hh
  subst ec
  obtain rfl : r = Value.ref c := rz
  exact ⟨.ref c, H2, I2, rfl, q2⟩
end
def mxI (i j : Int) : Int := if i < j then j else i
def mnI (i j : Int) : Int := if j < i then j else i
def joinP (f : Int → Int → Int) (ps qs : List Int) : List Int := List.zipWith f ps qs
def joinM (f : Int → Int → Int) (ps qs : List Int) (ms ns : List (Int × Int)) (ks : List Int) : List (Int × Int) := ks.map fun k => (k, f (speedAt ps ms k) (speedAt qs ns k))
def spJoin (f : Int → Int → Int) (C : Addr) : Sp := fun vs H Q _ => ∃ (a b l d l' d' : Addr) (ps qs : List Int) (ms ns : List (Int × Int)), vs = [.ref a, .ref b] ∧ CalAt C H a l d ps ms ∧ CalAt C H b l' d' qs ns ∧ ps.length = qs.length ∧ Paces ps ∧ Paces qs ∧ Fit ms ∧ Fit ns ∧ ms.length + ns.length ≤ 60 ∧ Paces (joinP f ps qs) ∧
  ∀ (H' : Hp) (y l2 d2 : Addr) (ks : List Int), ks.Pairwise (· < ·) → (∀ k, k ∈ ks ↔ k ∈ (ms ++ ns).map (·.1)) → ks.length ≤ ms.length + ns.length → Same H H' → CalAt C H' y l2 d2 (joinP f ps qs) (realOf (joinP f ps qs) (joinM f ps qs ms ns ks)) → H y = none → H l2 = none → H d2 = none → Q (.ref y) H'
section
variable {P : Program} {w : World} {K : PySem.W.Frag} {mg : Str → Option Value} {base : Heap}
theorem scOr : FnScope ["self", "other", "weekly", "changed", "pair", "at"] ["self", "other"] (defScope sOr) := ⟨rfl, rfl, rfl, by decide +kernel, rfl, by decide +kernel, by decide +kernel⟩
theorem ok_or {f fS fI C : Addr} {fd dS dI : FuncData} (F : Fun K "__or__" "Calendar.__or__" sOr f fd) (T : Blt mg) (Z : Cal K mg C) (MK : Mk K C fI) (GI : FnOk P w K mg base CX0 3 fI dI ["self", "speeds", "changes"] (spInit C K)) (bI : Binds K dI ["self", "speeds", "changes"] [])
    (Pr : At P w K mg base 4 "speed_pairs" ["one", "other"] (spPairs C) fS dS) : FnOk P w K mg base CX0 5 f fd ["self", "other"] (spJoin mxI C) := by
  refine F.ok scOr (fun vs H Q E h => ?_) (fun cdv A outer s H vs Q E hr h => ?_)
  · obtain ⟨a, b, l, d, l', d', ps, qs, ms, ns, rfl, _⟩ := h
    rfl
  · obtain ⟨a, b, l, d, l', d', ps, qs, ms, ns, rfl, c1, c2, len, hp, hq, fm, fn, le, pj, k⟩ := h
    have hu := hr.units
    refine ⟨_, pss_cons (ps_asg (pe_call Pr.ok hr (by rfl) Pr.at_ Pr.kp Pr.bi .nil pass0 (pa_cons (pv 0) (pa_cons (pv 1) pa_nil))) (pg_tup rfl (pgs_cons (pg_name (i := 2) scOr.nd rfl (.inl rfl)) (pgs_cons (pg_name (i := 3) scOr.nd rfl (.inl rfl)) pgs_nil))))
      (pss_one (ps_ret (pe_make MK GI hr (by rfl) Z.at_ bI .nil pass0 (pa_cons (pe_lc (own := [("pair", 4)]) (g := gName 4) (tt := tYes) rfl scOr.nd (pi_list (pv 2))
          (blkOk_by (N := ["self", "other", "weekly", "changed", "pair", "at"]) (sc := defScope sOr) (by decide +kernel)) (fun _ _ _ _ _ => pg_name (i := 4) scOr.nd rfl (.inl rfl)) (fun _ _ _ _ _ => pts_nil)
          (fun _ _ _ _ _ => pe_callB (r := rMaxT K) (cr_maxT rfl hu) (by rfl) T.max (by decide +kernel) (pa_cons (pv 4) pa_nil)))
        (pa_cons (pe_lc (own := [("at", 5), ("pair", 4)]) (g := gTup K 2 (gCons (gName 5) (gCons (gName 4) gNil))) (tt := tYes) rfl scOr.nd (pi_list (pv 3))
          (blkOk_by (N := ["self", "other", "weekly", "changed", "pair", "at"]) (sc := defScope sOr) (by decide +kernel))
          (fun _ _ _ _ _ => pg_tup rfl (pgs_cons (pg_name (i := 5) scOr.nd rfl (.inl rfl)) (pgs_cons (pg_name (i := 4) scOr.nd rfl (.inl rfl)) pgs_nil))) (fun _ _ _ _ _ => pts_nil)
          (fun _ _ _ _ _ => pe_tup (pa_cons (pv 5) (pa_cons (pe_callB (r := rMaxT K) (cr_maxT rfl hu) (by rfl) T.max (by decide +kernel) (pa_cons (pv 4) pa_nil)) pa_nil)))) pa_nil))))), ?_⟩
    have l1 := hp.len1
    refine ⟨_, rfl, _, rfl, ⟨a, b, l, d, l', d', ps, qs, ms, ns, rfl, c1, c2, len, hp.len0, le, fun H1 r W L ws cs ks s1 hr1 hW wl pw hL cl ch asc mem kl => ?_⟩⟩
    refine ⟨r, _, rfl, .inl (.inl hr1), rfl, _, _, rfl, _, [], rfl, rfl, ?_⟩
    refine ⟨_, rfl, W, rfl, ⟨_, SqL.of hW⟩, fun D nD => lc_list (K := K) (a := W) (xs := ws.map V.ref) (fun i J => J D = some (.lst ((List.zipWith mxI (ps.take i) (qs.take i)).map V.int)) ∧ Same H1 J) ⟨upd_same, same_new nD⟩ (fun i J _ ⟨_, h⟩ => SqL.of (h _ _ hW)) ?_ ?_⟩
    · rintro i y J hi' ⟨hJ, sJ⟩
      have hi2 : i < ws.length := by
        have := (List.getElem?_eq_some_iff.mp hi').1
        simpa using this
      rw [List.getElem?_map, List.getElem?_eq_getElem hi2] at hi'
      obtain rfl := Option.some.inj hi'
      obtain ⟨x, y, ex, ey, ht⟩ := pw i _ (List.getElem?_eq_getElem hi2)
      have ip : i < ps.length := by omega
      have iq : i < qs.length := by omega
      rw [List.getElem?_map, List.getElem?_eq_getElem ip] at ex
      rw [List.getElem?_map, List.getElem?_eq_getElem iq] at ey
      obtain rfl := Option.some.inj ex
      obtain rfl := Option.some.inj ey
      have ez : List.zipWith mxI (ps.take (i + 1)) (qs.take (i + 1)) = List.zipWith mxI (ps.take i) (qs.take i) ++ [mxI ps[i] qs[i]] := by
        rw [List.take_add_one, List.take_add_one, List.getElem?_eq_getElem ip, List.getElem?_eq_getElem iq, List.zipWith_append (by rw [List.length_take, List.length_take, len])]
        rfl
      refine ⟨rfl, _, rfl, ws[i], ps[i], qs[i], rfl, SqT.of (sJ _ _ ht), ?_⟩
      refine ⟨_, hJ, ?_, ?_, fun c o e => ?_⟩
      · rw [List.length_map, List.length_zipWith, List.length_take, List.length_take]
        exact small1000 (by omega)
      · rw [upd_same, ez, List.map_append]
        rfl
      · rw [upd_ne (ne_of_none e nD)]
        exact sJ c o e
    rintro J ⟨hJ, sJ⟩
    rw [List.length_map, wl, List.take_length, len, List.take_length] at hJ
    have hL2 := sJ _ _ hL
    have ch2 := ch.same sJ
    refine ⟨_, rfl, L, rfl, ⟨_, SqL.of hL2⟩, fun E nE => lc_list (K := K) (a := L) (xs := cs.map V.ref) (fun i J2 => ∃ us : List Addr, J2 E = some (.lst (us.map V.ref)) ∧ Tups J2 us (joinM mxI ps qs ms ns (ks.take i)) ∧ Same J J2)
      ⟨[], upd_same, trivial, same_new nE⟩ (fun i J2 _ ⟨_, _, _, h⟩ => SqL.of (h _ _ hL2)) ?_ ?_⟩
    · rintro i y J2 hi' ⟨us, hU, hus, sU⟩
      have hi2 : i < cs.length := by
        have := (List.getElem?_eq_some_iff.mp hi').1
        simpa using this
      rw [List.getElem?_map, List.getElem?_eq_getElem hi2] at hi'
      obtain rfl := Option.some.inj hi'
      obtain ⟨k', u', ek, hc, hu'⟩ := (ch2.same sU) i _ (List.getElem?_eq_getElem hi2)
      have et : ks.take (i + 1) = ks.take i ++ [k'] := by rw [List.take_add_one, ek]; rfl
      refine ⟨_, _, rfl, .inl (.inl hc), rfl, _, _, rfl, _, [], rfl, rfl, rfl, ?_⟩
      refine ⟨_, rfl, _, rfl, u', speedAt ps ms k', speedAt qs ns k', rfl, SqT.of hu', (by show 2 ≤ sizeLine; decide), fun t nt => ?_⟩
      have gt := same_new (o := .tup [.int k', .int (mxI (speedAt ps ms k') (speedAt qs ns k'))]) nt
      have ul := hus.len
      unfold joinM at ul
      rw [List.length_map, List.length_take] at ul
      refine ⟨_, gt _ _ hU, by rw [List.length_map]; exact small1000 (by omega), us ++ [t], ?_, ?_, fun c o e => ?_⟩
      · rw [upd_same, List.map_append]
        rfl
      · rw [et]
        unfold joinM at hus ⊢
        rw [List.map_append]
        exact ((hus.same gt).snoc (m := (k', mxI (speedAt ps ms k') (speedAt qs ns k'))) upd_same).put (gt _ _ hU)
      · rw [upd_ne (ne_of_none e nE)]
        exact gt _ _ (sU c o e)
    · rintro J2 ⟨us, hU, hus, sU⟩
      rw [List.length_map, cl, List.take_length] at hus
      have fj : Fit (joinM mxI ps qs ms ns ks) := by
        refine ⟨?_, fun m hm => ?_, by unfold joinM; rw [List.length_map]; omega⟩
        · unfold joinM
          rw [List.pairwise_map]
          exact asc
        · obtain ⟨k', _, rfl⟩ := List.mem_map.mp hm
          have g1 := speed_lo hp fm k'
          have g2 := speed_lo hq fn k'
          show 0 ≤ mxI _ _ ∧ mxI _ _ ≤ 3
          unfold mxI
          split <;> omega
      refine fun y dy ny ndy _ => made_ok rfl ny ndy (sU _ _ hJ) hU hus pj fj fun H' l2 d2 cal nl nd s5 => ⟨rfl, ?_⟩
      have sAll := (s1.trans sJ).trans sU
      exact k H' y l2 d2 ks asc mem kl (sAll.trans s5) cal (sAll.free ny) (sAll.free nl) (sAll.free nd)
end

section
variable {P : Program} {w : World} {K : PySem.W.Frag} {mg : Str → Option Value} {base : Heap}
theorem scAnd : FnScope ["self", "other", "weekly", "changed", "pair", "at"] ["self", "other"] (defScope sAnd) := ⟨rfl, rfl, rfl, by decide +kernel, rfl, by decide +kernel, by decide +kernel⟩
theorem ok_and {f fS fI C : Addr} {fd dS dI : FuncData} (F : Fun K "__and__" "Calendar.__and__" sAnd f fd) (T : Blt mg) (Z : Cal K mg C) (MK : Mk K C fI) (GI : FnOk P w K mg base CX0 3 fI dI ["self", "speeds", "changes"] (spInit C K)) (bI : Binds K dI ["self", "speeds", "changes"] [])
    (Pr : At P w K mg base 4 "speed_pairs" ["one", "other"] (spPairs C) fS dS) : FnOk P w K mg base CX0 5 f fd ["self", "other"] (spJoin mnI C) := by
  refine F.ok scAnd (fun vs H Q E h => ?_) (fun cdv A outer s H vs Q E hr h => ?_)
  · obtain ⟨a, b, l, d, l', d', ps, qs, ms, ns, rfl, _⟩ := h
    rfl
  · obtain ⟨a, b, l, d, l', d', ps, qs, ms, ns, rfl, c1, c2, len, hp, hq, fm, fn, le, pj, k⟩ := h
    have hu := hr.units
    refine ⟨_, pss_cons (ps_asg (pe_call Pr.ok hr (by rfl) Pr.at_ Pr.kp Pr.bi .nil pass0 (pa_cons (pv 0) (pa_cons (pv 1) pa_nil))) (pg_tup rfl (pgs_cons (pg_name (i := 2) scAnd.nd rfl (.inl rfl)) (pgs_cons (pg_name (i := 3) scAnd.nd rfl (.inl rfl)) pgs_nil))))
      (pss_one (ps_ret (pe_make MK GI hr (by rfl) Z.at_ bI .nil pass0 (pa_cons (pe_lc (own := [("pair", 4)]) (g := gName 4) (tt := tYes) rfl scAnd.nd (pi_list (pv 2))
          (blkOk_by (N := ["self", "other", "weekly", "changed", "pair", "at"]) (sc := defScope sAnd) (by decide +kernel)) (fun _ _ _ _ _ => pg_name (i := 4) scAnd.nd rfl (.inl rfl)) (fun _ _ _ _ _ => pts_nil)
          (fun _ _ _ _ _ => pe_callB (r := rMinT K) (cr_minT rfl hu) (by rfl) T.min (by decide +kernel) (pa_cons (pv 4) pa_nil)))
        (pa_cons (pe_lc (own := [("at", 5), ("pair", 4)]) (g := gTup K 2 (gCons (gName 5) (gCons (gName 4) gNil))) (tt := tYes) rfl scAnd.nd (pi_list (pv 3))
          (blkOk_by (N := ["self", "other", "weekly", "changed", "pair", "at"]) (sc := defScope sAnd) (by decide +kernel))
          (fun _ _ _ _ _ => pg_tup rfl (pgs_cons (pg_name (i := 5) scAnd.nd rfl (.inl rfl)) (pgs_cons (pg_name (i := 4) scAnd.nd rfl (.inl rfl)) pgs_nil))) (fun _ _ _ _ _ => pts_nil)
          (fun _ _ _ _ _ => pe_tup (pa_cons (pv 5) (pa_cons (pe_callB (r := rMinT K) (cr_minT rfl hu) (by rfl) T.min (by decide +kernel) (pa_cons (pv 4) pa_nil)) pa_nil)))) pa_nil))))), ?_⟩
    have l1 := hp.len1
    refine ⟨_, rfl, _, rfl, ⟨a, b, l, d, l', d', ps, qs, ms, ns, rfl, c1, c2, len, hp.len0, le, fun H1 r W L ws cs ks s1 hr1 hW wl pw hL cl ch asc mem kl => ?_⟩⟩
    refine ⟨r, _, rfl, .inl (.inl hr1), rfl, _, _, rfl, _, [], rfl, rfl, ?_⟩
    refine ⟨_, rfl, W, rfl, ⟨_, SqL.of hW⟩, fun D nD => lc_list (K := K) (a := W) (xs := ws.map V.ref) (fun i J => J D = some (.lst ((List.zipWith mnI (ps.take i) (qs.take i)).map V.int)) ∧ Same H1 J) ⟨upd_same, same_new nD⟩ (fun i J _ ⟨_, h⟩ => SqL.of (h _ _ hW)) ?_ ?_⟩
    · rintro i y J hi' ⟨hJ, sJ⟩
      have hi2 : i < ws.length := by
        have := (List.getElem?_eq_some_iff.mp hi').1
        simpa using this
      rw [List.getElem?_map, List.getElem?_eq_getElem hi2] at hi'
      obtain rfl := Option.some.inj hi'
      obtain ⟨x, y, ex, ey, ht⟩ := pw i _ (List.getElem?_eq_getElem hi2)
      have ip : i < ps.length := by omega
      have iq : i < qs.length := by omega
      rw [List.getElem?_map, List.getElem?_eq_getElem ip] at ex
      rw [List.getElem?_map, List.getElem?_eq_getElem iq] at ey
      obtain rfl := Option.some.inj ex
      obtain rfl := Option.some.inj ey
      have ez : List.zipWith mnI (ps.take (i + 1)) (qs.take (i + 1)) = List.zipWith mnI (ps.take i) (qs.take i) ++ [mnI ps[i] qs[i]] := by
        rw [List.take_add_one, List.take_add_one, List.getElem?_eq_getElem ip, List.getElem?_eq_getElem iq, List.zipWith_append (by rw [List.length_take, List.length_take, len])]
        rfl
      refine ⟨rfl, _, rfl, ws[i], ps[i], qs[i], rfl, SqT.of (sJ _ _ ht), ?_⟩
      refine ⟨_, hJ, ?_, ?_, fun c o e => ?_⟩
      · rw [List.length_map, List.length_zipWith, List.length_take, List.length_take]
        exact small1000 (by omega)
      · rw [upd_same, ez, List.map_append]
        rfl
      · rw [upd_ne (ne_of_none e nD)]
        exact sJ c o e
    rintro J ⟨hJ, sJ⟩
    rw [List.length_map, wl, List.take_length, len, List.take_length] at hJ
    have hL2 := sJ _ _ hL
    have ch2 := ch.same sJ
    refine ⟨_, rfl, L, rfl, ⟨_, SqL.of hL2⟩, fun E nE => lc_list (K := K) (a := L) (xs := cs.map V.ref) (fun i J2 => ∃ us : List Addr, J2 E = some (.lst (us.map V.ref)) ∧ Tups J2 us (joinM mnI ps qs ms ns (ks.take i)) ∧ Same J J2)
      ⟨[], upd_same, trivial, same_new nE⟩ (fun i J2 _ ⟨_, _, _, h⟩ => SqL.of (h _ _ hL2)) ?_ ?_⟩
    · rintro i y J2 hi' ⟨us, hU, hus, sU⟩
      have hi2 : i < cs.length := by
        have := (List.getElem?_eq_some_iff.mp hi').1
        simpa using this
      rw [List.getElem?_map, List.getElem?_eq_getElem hi2] at hi'
      obtain rfl := Option.some.inj hi'
      obtain ⟨k', u', ek, hc, hu'⟩ := (ch2.same sU) i _ (List.getElem?_eq_getElem hi2)
      have et : ks.take (i + 1) = ks.take i ++ [k'] := by rw [List.take_add_one, ek]; rfl
      refine ⟨_, _, rfl, .inl (.inl hc), rfl, _, _, rfl, _, [], rfl, rfl, rfl, ?_⟩
      refine ⟨_, rfl, _, rfl, u', speedAt ps ms k', speedAt qs ns k', rfl, SqT.of hu', (by show 2 ≤ sizeLine; decide), fun t nt => ?_⟩
      have gt := same_new (o := .tup [.int k', .int (mnI (speedAt ps ms k') (speedAt qs ns k'))]) nt
      have ul := hus.len
      unfold joinM at ul
      rw [List.length_map, List.length_take] at ul
      refine ⟨_, gt _ _ hU, by rw [List.length_map]; exact small1000 (by omega), us ++ [t], ?_, ?_, fun c o e => ?_⟩
      · rw [upd_same, List.map_append]
        rfl
      · rw [et]
        unfold joinM at hus ⊢
        rw [List.map_append]
        exact ((hus.same gt).snoc (m := (k', mnI (speedAt ps ms k') (speedAt qs ns k'))) upd_same).put (gt _ _ hU)
      · rw [upd_ne (ne_of_none e nE)]
        exact gt _ _ (sU c o e)
    · rintro J2 ⟨us, hU, hus, sU⟩
      rw [List.length_map, cl, List.take_length] at hus
      have fj : Fit (joinM mnI ps qs ms ns ks) := by
        refine ⟨?_, fun m hm => ?_, by unfold joinM; rw [List.length_map]; omega⟩
        · unfold joinM
          rw [List.pairwise_map]
          exact asc
        · obtain ⟨k', _, rfl⟩ := List.mem_map.mp hm
          have g1 := speed_lo hp fm k'
          have g2 := speed_lo hq fn k'
          show 0 ≤ mnI _ _ ∧ mnI _ _ ≤ 3
          unfold mnI
          split <;> omega
      refine fun y dy ny ndy _ => made_ok rfl ny ndy (sU _ _ hJ) hU hus pj fj fun H' l2 d2 cal nl nd s5 => ⟨rfl, ?_⟩
      have sAll := (s1.trans sJ).trans sU
      exact k H' y l2 d2 ks asc mem kl (sAll.trans s5) cal (sAll.free ny) (sAll.free nl) (sAll.free nd)
end

/-! ### the speeds of calendars joined -/
theorem joinP_len {f : Int → Int → Int} {ps qs : List Int} (len : ps.length = qs.length) : (joinP f ps qs).length = ps.length := by
  unfold joinP
  rw [List.length_zipWith, len, Nat.min_self]
theorem joinP_pace {f : Int → Int → Int} {ps qs : List Int} (len : ps.length = qs.length) (l0 : 0 < ps.length) (t : Int) : paceOf (joinP f ps qs) t = f (paceOf ps t) (paceOf qs t) := by
  have h0 := Int.emod_nonneg t (show (ps.length : Int) ≠ 0 by omega)
  have h1 := Int.emod_lt_of_pos t (show (0 : Int) < ps.length by omega)
  have i1 : (t % (ps.length : Int)).toNat < ps.length := by omega
  have i2 : (t % (ps.length : Int)).toNat < qs.length := by omega
  unfold paceOf
  rw [joinP_len len, ← len]
  unfold joinP
  rw [List.getD_eq_getElem?_getD, List.getD_eq_getElem?_getD, List.getD_eq_getElem?_getD, List.getElem?_zipWith, List.getElem?_eq_getElem i1, List.getElem?_eq_getElem i2]
  rfl
theorem speed_off {ps : List Int} {ms : List (Int × Int)} {t : Int} (h : t ∉ ms.map (·.1)) : speedAt ps ms t = paceOf ps t := by
  have : ms.find? (fun m => decide (m.1 = t)) = none := by
    refine List.find?_eq_none.mpr fun m hm e => h (List.mem_map.mpr ⟨m, hm, ?_⟩)
    exact of_decide_eq_true e
  unfold speedAt
  rw [this]
  rfl
theorem find_key {g : Int → Int} {t : Int} : ∀ {ks : List Int}, t ∈ ks → (ks.map fun k => (k, g k)).find? (fun m => decide (m.1 = t)) = some (t, g t)
  | k :: ks, h => by
    rw [List.map_cons, List.find?_cons]
    by_cases c : k = t
    · subst c
      rw [decide_eq_true (show ((k, g k) : Int × Int).1 = k from rfl)]
    · rw [decide_eq_false (show ¬ ((k, g k) : Int × Int).1 = t from c)]
      rcases List.mem_cons.mp h with e | e
      · exact absurd e.symm c
      · exact find_key e
theorem join_speed {f : Int → Int → Int} {ps qs : List Int} {ms ns : List (Int × Int)} {ks : List Int} (len : ps.length = qs.length) (l0 : 0 < ps.length) (all : ∀ k ∈ (ms ++ ns).map (·.1), k ∈ ks) (t : Int) :
    speedAt (joinP f ps qs) (joinM f ps qs ms ns ks) t = f (speedAt ps ms t) (speedAt qs ns t) := by
  by_cases h : t ∈ ks
  · have e := find_key (g := fun k => f (speedAt ps ms k) (speedAt qs ns k)) h
    conv => lhs; unfold speedAt joinM
    rw [e]
    rfl
  · have off : t ∉ (joinM f ps qs ms ns ks).map (·.1) := fun q => by
      unfold joinM at q
      rw [List.map_map] at q
      obtain ⟨k, hk, e⟩ := List.mem_map.mp q
      have : k = t := e
      exact h (this ▸ hk)
    have o1 : t ∉ ms.map (·.1) := fun q => h (all t (by rw [List.map_append]; exact List.mem_append_left _ q))
    have o2 : t ∉ ns.map (·.1) := fun q => h (all t (by rw [List.map_append]; exact List.mem_append_right _ q))
    rw [speed_off off, speed_off o1, speed_off o2, joinP_pace len l0]
theorem mem_zip {f : Int → Int → Int} : ∀ {ps qs : List Int} {v : Int}, v ∈ List.zipWith f ps qs → ∃ a ∈ ps, ∃ b ∈ qs, v = f a b
  | a :: ps, b :: qs, v, h => by
    rw [List.zipWith_cons_cons] at h
    rcases List.mem_cons.mp h with e | e
    · exact ⟨a, List.mem_cons_self, b, List.mem_cons_self, e⟩
    · obtain ⟨a', ha, b', hb, e⟩ := mem_zip e
      exact ⟨a', List.mem_cons_of_mem _ ha, b', List.mem_cons_of_mem _ hb, e⟩
theorem joinP_ok {ps qs : List Int} (hp : Paces ps) (hq : Paces qs) (len : ps.length = qs.length) : Paces (joinP mxI ps qs) := by
  have jl := joinP_len (f := mxI) len
  refine ⟨fun v hv => ?_, ?_, by rw [jl]; exact hp.len0, by rw [jl]; exact hp.len1⟩
  · obtain ⟨a, ha, b, hb, rfl⟩ := mem_zip hv
    have := hp.lo a ha
    have := hq.lo b hb
    unfold mxI
    split <;> omega
  · obtain ⟨v, hv, v0⟩ := hp.pos
    obtain ⟨j, hj, e⟩ := List.getElem_of_mem hv
    have hj2 : j < qs.length := by omega
    refine ⟨mxI ps[j] qs[j], ?_, ?_⟩
    · refine List.mem_of_getElem? (i := j) ?_
      unfold joinP
      rw [List.getElem?_zipWith, List.getElem?_eq_getElem hj, List.getElem?_eq_getElem hj2]
    · have a := hp.lo _ (List.getElem_mem hj)
      have b := hq.lo _ (List.getElem_mem hj2)
      unfold mxI
      split <;> omega

/-! ### min(list of ints, key = a def that gives a tuple of two ints, default = None) -/
def ltT (x y : Int × Int) : Prop := x.1 < y.1 ∨ (x.1 = y.1 ∧ x.2 < y.2)
instance (x y : Int × Int) : Decidable (ltT x y) := inferInstanceAs (Decidable (_ ∨ _))
/-- all objects stay; frames may change their slots -/
def Fk (fs : List Addr) (h h' : Heap) : Prop := ∀ b o, h.get? b = some o → (b ∉ fs → h'.get? b = some o) ∧ ∃ sl, h'.get? b = some { o with slots := sl }
theorem Fk.refl {fs : List Addr} {h : Heap} : Fk fs h h := fun _ o e => ⟨fun _ => e, o.slots, e⟩
theorem Fk.trans {fs : List Addr} {h h1 h2 : Heap} (a : Fk fs h h1) (b : Fk fs h1 h2) : Fk fs h h2 := fun c o e =>
  ⟨fun n => (b c o ((a c o e).1 n)).1 n, let ⟨_, e1⟩ := (a c o e).2; let ⟨sl, e2⟩ := (b c _ e1).2; ⟨sl, e2⟩⟩
theorem Fk.un {fs : List Addr} {h h' : Heap} {H : Hp} (a : Fk fs h h') : Un fs [] H H h h' :=
  ⟨fun b o e _ n _ => (a b o e).1 n, fun b o e _ _ _ => (a b o e).2, fun _ _ _ n _ => n, fun b o e _ => let ⟨_, e1⟩ := (a b o e).2; ⟨_, e1⟩, fun _ _ q => q, fun _ _ _ q => q, fun _ ps q => ⟨#[], by rw [q]; simp⟩⟩
theorem Fk.hok {P : Program} {w : World} {fs : List Addr} {h h' : Heap} {H : Hp} (a : Fk fs h h') (x : HOk P w H h) (nf : ∀ b ∈ fs, H b = none) : HOk P w H h' := fun b o e =>
  (x b o e).stay (fun c u hc q => (a c u q).1 fun z => by
    have := nf c z
    rcases hc with rfl | hc
    · rw [e] at this; cases this
    · rw [hc] at this; cases this) (fun _ q => q) fun _ _ q => q
/-- a callee that leans on nothing: what is left behind -/
theorem Un.fk {fs : List Addr} {h h' : Heap} {H' : Hp} (u : Un fs [] (fun _ => none) H' h h') : Fk fs h h' := fun b o e =>
  ⟨fun n => u.keep b o e rfl n (by simp), u.any e rfl (by simp)⟩
theorem argBest_le (bt : Nat → Nat → Bool) : ∀ k, PySem.argBest bt k ≤ k
  | 0 => Nat.le_refl _
  | k + 1 => by
    show (if bt (k + 1) (PySem.argBest bt k) then k + 1 else PySem.argBest bt k) ≤ k + 1
    split
    · exact Nat.le_refl _
    · exact Nat.le_succ_of_le (argBest_le bt k)
theorem argBest_min (kf : Nat → Int × Int) : ∀ k i, i ≤ k → ¬ ltT (kf i) (kf (PySem.argBest (fun a b => decide (ltT (kf a) (kf b))) k))
  | 0, i, h => by
    obtain rfl : i = 0 := by omega
    show ¬ ltT (kf 0) (kf 0)
    unfold ltT
    omega
  | k + 1, i, h => by
    show ¬ ltT (kf i) (kf (if decide (ltT (kf (k + 1)) (kf (PySem.argBest (fun a b => decide (ltT (kf a) (kf b))) k))) then k + 1 else PySem.argBest (fun a b => decide (ltT (kf a) (kf b))) k))
    have ih := argBest_min kf k
    by_cases c : ltT (kf (k + 1)) (kf (PySem.argBest (fun a b => decide (ltT (kf a) (kf b))) k))
    · rw [if_pos (decide_eq_true c)]
      by_cases e : i = k + 1
      · subst e
        unfold ltT
        omega
      · have := ih i (by omega)
        unfold ltT at *
        omega
    · rw [if_neg (by rw [decide_eq_false c]; exact Bool.false_ne_true)]
      by_cases e : i = k + 1
      · subst e; exact c
      · exact ih i (by omega)
theorem rd_tup2 {h : Heap} {t : Addr} {its : List Value} {x y : Int} (r : Vals [.int x, .int y] its) (ht : IsTup h t its.toArray) : Reads h (.ref t) (.tuple [.int x, .int y]) [] := by
  obtain ⟨o, e, c, n, d⟩ := ht
  refine Reads.tuple e c d ?_
  rw [List.toList_toArray]
  cases r with
  | cons a b =>
    cases b with
    | cons a' b' =>
      cases b'
      obtain ⟨u, rfl⟩ := a
      obtain ⟨u', rfl⟩ := a'
      exact .cons (as := []) (.int _ _) (.cons (as := []) (.int _ _) .nil)
theorem dataLt_2 (x y x' y' : Int) : PySem.W.dataLt (.tuple [.int x, .int y]) (.tuple [.int x', .int y']) = decide (ltT (x, y) (x', y')) := PySem.W.dataLt_ii x y x' y'
section
variable {X : Cx} {k : Nat} {f : Addr} {fd : FuncData} {ps : List Str} {kf : Int → Int × Int}
/-- the key's promise -/
def spKey (kf : Int → Int × Int) : Sp := fun vs H Q _ => ∃ n, vs = [.int n] ∧ ∀ t H', H' t = some (.tup [.int (kf n).1, .int (kf n).2]) → Q (.ref t) H'
def rMinKD (f : Addr) (kf : Int → Int × Int) : List V → List V → Hp → VK → Prop := fun vs zs H Q => ∃ (a : Addr) (ns : List Int), vs = [.ref a] ∧ zs = [.ref f, .non] ∧ H a = some (.lst (ns.map V.int)) ∧
  (ns = [] → Q .non H) ∧ ∀ m ∈ ns, (∀ n ∈ ns, ¬ ltT (kf n) (kf m)) → Q (.int m) H
theorem cr_minKD (F : FnOk X.prog X.w X.K X.mg X.base CX0 k f fd ["moment"] (spKey kf)) (hb : Binds X.K fd ["moment"] []) (hr : Room (k + 1) X.A) :
    CallRK X (.builtin "min") [Str.ofString "key", Str.ofString "default"] (rMinKD f kf) := by
  intro pins s σ H vs zs us ws Q I r rz h
  obtain ⟨a, ns, rfl, rfl, hs, q0, q1⟩ := h
  obtain rfl := Vals.ref1 r
  obtain ⟨w1, w2, rfl, e1, e2⟩ := vals2 rz
  obtain rfl : w1 = Value.ref f := e1
  obtain rfl : w2 = Value.none := e2
  obtain ⟨z, its, n, rv, ho⟩ := I.hok a _ hs
  have hl : s.heap.IsList a its.toArray := ⟨_, ho, rfl, n, rfl⟩
  have hlen : its.toArray.size = ns.length := by rw [List.size_toArray, ← rv.length, List.length_map]
  have nfa : a ∉ frs X.stack := fun z => by have := I.stkFree a z; rw [hs] at this; cases this
  have frl : ∀ b ∈ frs X.stack, b < s.heap.objs.size := fun b hb => by
    obtain ⟨_, o, ho, _⟩ := I.stack.mem hb
    exact Heap.lt_size ho
  refine PySem.call_min_walkKD (PySem.W.iter_listW (A := X.A.in1) hr.in1.hd hl fun s2 e2 W st lts _ keep2 => ?_)
  have ki : its.toArray.size = its.toArray.size := rfl
  have sz2 : s2.heap.objs.size = s.heap.objs.size + 1 := by rw [e2]; exact Heap.size_push _ _
  refine ⟨_, _, _, _, its.toArray.size, _, _, fun s' => s'.os = s.os ∧ AllBare s'.gens ∧ Fk (frs X.stack) s.heap s'.heap,
    fun i v s' => ∃ t ks m, v = .ref t ∧ t ≠ s2.heap.objs.size ∧ t ≠ s.heap.objs.size ∧ t ∉ frs X.stack ∧ ns[i]? = some m ∧ Vals [.int (kf m).1, .int (kf m).2] ks ∧ IsTup s'.heap t ks.toArray,
    fun i j => decide (ltT (kf (ns.getD i 0)) (kf (ns.getD j 0))), rfl, W, st, lts, ⟨?_, ?_, ?_, ?_⟩, ?_, ?_, ?_⟩
  · rintro s1 s1' ⟨o1, b1, f1⟩ hm
    refine ⟨hm.os.trans o1, by rw [show s1'.gens = s1.gens from hm.gens]; exact b1, fun b o e => ?_⟩
    have hlt := Heap.lt_size e
    have nb : b ∉ [s2.heap.objs.size, s.heap.objs.size] := fun z => by
      rcases List.mem_cons.mp z with z | z
      · rw [z, sz2] at hlt
        exact absurd hlt (Nat.not_lt.mpr (Nat.le_succ _))
      · rw [List.mem_singleton.mp z] at hlt
        exact absurd hlt (Nat.lt_irrefl _)
    obtain ⟨g1, sl, g2⟩ := f1 b o e
    exact ⟨fun nf => hm.heap b _ nb (g1 nf), sl, hm.heap b _ nb g2⟩
  · rintro i v s1 s1' ⟨t, ks, m, rfl, n1, n2, n3, hm', rk, o, ho', r'⟩ hm
    refine ⟨t, ks, m, rfl, n1, n2, n3, hm', rk, o, hm.heap t o (fun z => ?_) ho', r'⟩
    rcases List.mem_cons.mp z with z | z
    · exact n1 z
    · exact n2 (List.mem_singleton.mp z)
  · intro i v s1 o Q' E' hi hv ⟨o1, b1, f1⟩ hst hS cont
    have I1 : Inv X pins σ H s1 := I.call' (ch := []) o1 f1.un (f1.hok I.hok I.stkFree) b1 (fun b z => absurd z (by simp))
    have en := I1.env0
    have en0 : Env0 X.prog X.w X.K X.mg X.base X.A.in1 X.stack s1 (fun _ => none) := ⟨en.frames, en.mod, fun b o e => ⟨(en.bs b o e).1, rfl⟩, en.bsz, en.funs, fun _ _ => rfl, fun a o e => (nomatch e), en.bare⟩
    have hi' : i < ns.length := by omega
    obtain ⟨u, hu, ru⟩ := rv.get (i := i) (x := .int ns[i]) (by simp [hi'])
    obtain rfl : v = u := by
      have : its[i]? = some v := by simpa using hv
      rw [this] at hu
      exact Option.some.inj hu
    refine wpAny_call (codeAny_mono (F.run X.A.in1 X.stack s1 (fun _ => none) ⟨[v], []⟩ [v] [.int ns[i]] (fun x H' => ∃ t, x = .ref t ∧ H' t = some (.tup [.int (kf ns[i]).1, .int (kf ns[i]).2])) E0 hr.in1 en0 (hb s1 [v] I1.kIn rfl) (.cons ru .nil) ⟨_, rfl, fun t H' ht => ⟨t, rfl, ht⟩⟩) fun res s3 hq => ?_)
    rcases res with er | fl
    · exact False.elim hq
    · rcases fl with _ | _ | _ | u'
      iterate 3 exact False.elim hq
      obtain ⟨x, H', os, bare, un, hok, rx, t, rfl, ht⟩ := hq
      obtain rfl : u' = Value.ref t := rx
      have fk := Un.fk un
      have tn : s1.heap.get? t = none := by
        cases e : s1.heap.get? t with
        | none => rfl
        | some ob =>
          have := un.free t ob e rfl (by simp)
          rw [ht] at this
          cases this
      obtain ⟨⟨oI, hI, cI, dI⟩, oL, hL, rL⟩ := hst
      have nS : t ≠ s2.heap.objs.size := fun z => by rw [z, hS] at tn; cases tn
      have nI : t ≠ s.heap.objs.size := fun z => by rw [z, hI] at tn; cases tn
      have nF : t ∉ frs X.stack := fun z => by
        obtain ⟨_, ob, e, _⟩ := I1.stack.mem z
        rw [e] at tn
        cases tn
      have nSf : s2.heap.objs.size ∉ frs X.stack := fun z => by have := frl _ z; rw [sz2] at this; exact absurd this (Nat.not_lt.mpr (Nat.le_succ _))
      have nIf : s.heap.objs.size ∉ frs X.stack := fun z => absurd (frl _ z) (Nat.lt_irrefl _)
      obtain ⟨_, ks, rk, tt⟩ := hok t _ ht
      refine cont _ s3 ⟨os.trans o1, bare, f1.trans fk⟩ ⟨⟨oI, (fk _ _ hI).1 nIf, cI, dI⟩, oL, (fk _ _ hL).1 nfa, rL⟩ ((fk _ _ hS).1 nSf) ⟨t, ks, ns[i], rfl, nS, nI, nF, by simp [hi'], rk, tt⟩ ?_
      rintro j k' ⟨t', ks', m', rfl, n1, n2, n3, hm', rk', ob, ho', r'⟩
      exact ⟨t', ks', m', rfl, n1, n2, n3, hm', rk', ob, (fk _ _ ho').1 n3, r'⟩
  · rintro i j ki kj s1 Q' E' _ ⟨t, ks, m, rfl, _, _, _, hm, rk, tt⟩ ⟨t', ks', m', rfl, _, _, _, hm', rk', tt'⟩ hq
    refine PySem.W.rcLt_alike _ _ X.A.in1 s1 _ _ _ _ (rd_tup2 rk tt) (rd_tup2 rk' tt') rfl (by simp) ?_ _ _ _ _ ?_
    · have := hr.in1.un
      have e : ∀ a b c d : Int, min (PyData.tuple [.int a, .int b]).depth (PyData.tuple [.int c, .int d]).depth ≤ 8 := fun a b c d => by simp [PyData.depth, PyData.depthAll]
      have := e (kf m).1 (kf m).2 (kf m').1 (kf m').2
      omega
    · rw [dataLt_2]
      simpa [List.getD, hm, hm'] using hq
  · exact ⟨by rw [e2], by rw [e2]; exact I.bare, fun b o e => ⟨fun _ => keep2 b o e, o.slots, keep2 b o e⟩⟩
  · intro n0 s' ⟨o1, b1, f1⟩
    refine ⟨.non, H, I.call' (ch := []) o1 f1.un (f1.hok I.hok I.stkFree) b1 (fun b z => absurd z (by simp)), rfl, q0 ?_⟩
    exact List.length_eq_zero_iff.mp (by omega)
  · intro n0 v s' hv ⟨o1, b1, f1⟩
    have le := argBest_le (fun i j => decide (ltT (kf (ns.getD i 0)) (kf (ns.getD j 0)))) (its.toArray.size - 1)
    have mn := argBest_min (fun i => kf (ns.getD i 0)) (its.toArray.size - 1)
    generalize PySem.argBest (fun i j => decide (ltT (kf (ns.getD i 0)) (kf (ns.getD j 0)))) (its.toArray.size - 1) = i at hv le mn
    have hi : i < ns.length := by omega
    obtain ⟨u, hu, ru⟩ := rv.get (i := i) (x := .int ns[i]) (by simp [hi])
    obtain rfl : v = u := by
      have : its[i]? = some v := by simpa using hv
      rw [this] at hu
      exact Option.some.inj hu
    refine ⟨.int ns[i], H, I.call' (ch := []) o1 f1.un (f1.hok I.hok I.stkFree) b1 (fun b z => absurd z (by simp)), ru, q1 _ (List.getElem_mem hi) fun m hm => ?_⟩
    obtain ⟨j, hj, rfl⟩ := List.getElem_of_mem hm
    have := mn j (by omega)
    simpa [List.getD, hi, hj] using this
end

/-! ### nearest moments -/
def nr (i : Int) : Int × Int := (if i < 0 then -i else i, -i)
theorem nr_lt {a b : Int} (h0 : 0 ≤ a) (h : a < b) : ltT (nr a) (nr b) := by
  unfold ltT nr
  simp only
  split <;> split <;> omega
theorem nr_lt2 {a b : Int} (h0 : a < 0) (h : b < a) : ltT (nr a) (nr b) := by
  unfold ltT nr
  simp only
  split <;> split <;> omega
theorem nr_eq {a b : Int} (h1 : ¬ ltT (nr a) (nr b)) (h2 : ¬ ltT (nr b) (nr a)) : a = b := by
  unfold ltT nr at h1 h2
  simp only at h1 h2
  split at h1 <;> split at h1 <;> (try split at h2) <;> omega
def NearP (p : Int → Prop) (m : Int) : Prop := p m ∧ ∀ k, p k → ¬ ltT (nr k) (nr m)
theorem NearP.uniq {p : Int → Prop} {a b : Int} (h1 : NearP p a) (h2 : NearP p b) : a = b := nr_eq (h2.2 a h1.1) (h1.2 b h2.1)
theorem NearP.congr {p q : Int → Prop} {a : Int} (e : ∀ t, p t ↔ q t) (h : NearP p a) : NearP q a := ⟨(e a).mp h.1, fun k hk => h.2 k ((e k).mpr hk)⟩
theorem nearP_exists {p : Int → Prop} {t : Int} (h : p t) : ∃ m, NearP p m := by
  have main : ∀ N : Nat, ∀ t, p t → (2 * (nr t).1 + (if t < 0 then 1 else 0)).toNat ≤ N → ∃ m, NearP p m := by
    intro N
    induction N with
    | zero =>
      intro t h hN
      refine ⟨t, h, fun k _ hk => ?_⟩
      unfold ltT nr at hk
      unfold nr at hN
      simp only at hk hN
      split at hk <;> split at hk <;> split at hN <;> omega
    | succ N ih =>
      intro t h hN
      by_cases c : ∃ k, p k ∧ ltT (nr k) (nr t)
      · obtain ⟨k, hk, hl⟩ := c
        refine ih k hk ?_
        unfold ltT nr at hl
        unfold nr at hN ⊢
        simp only at hl hN ⊢
        split at hl <;> split at hl <;> (try split at hN) <;> (try split) <;> omega
      · exact ⟨t, h, fun k hk hl => c ⟨k, hk, hl⟩⟩
  exact main _ t h (Nat.le_refl _)

/-! ### the nearest moment, with a heap -/
section
variable {X : Cx} {e : Expr} {ta : TE} {p pos p2 p3 q1 q2 : Pos} {k : Nat} {f : Addr} {fd : FuncData} {kf : Int → Int × Int} {y : Str}
theorem pe_minK {j : Nat} (F : FnOk X.prog X.w X.K X.mg X.base CX0 k f fd ["moment"] (spKey kf)) (hb : Binds X.K fd ["moment"] []) (hr : Room (k + 1) X.A) (hm : X.mg "min" = none) (hmk : X.mg y = some (.ref f)) (ha : PE X e ta) (hg : Gl X "min" := by rfl) (hgk : Gl X y := by rfl) (hdk : (y == ("__debug__" : Str)) = false := by decide)
    (he : backTo pos (starEach [e] X.env) = (false, eval e X.env) :: backTo pos (starEach [] X.env) := by rfl) (hes : starEach [e] X.env = (false, eval e X.env) :: starEach [] X.env := by rfl) (hpl : (backTo pos (starEach [e] X.env)).any (·.1) = false := by rfl)
    (hall : (backToKw pos (keywordEach [⟨some "key", .Name y p2, q1⟩, ⟨some "default", .Constant .none j p3, q2⟩] X.env)).all (·.1.isSome) = true := by rfl) (hnone : (backToKw pos (keywordEach [⟨some "key", .Name y p2, q1⟩, ⟨some "default", .Constant .none j p3, q2⟩] X.env)).any (·.1.isNone) = false := by rfl)
    (hks : (backToKw pos (keywordEach [⟨some "key", .Name y p2, q1⟩, ⟨some "default", .Constant .none j p3, q2⟩] X.env)).filterMap (·.1) = [Str.ofString "key", Str.ofString "default"] := by rfl) :
    PE X (.Call (.Name "min" p) [e] [⟨some "key", .Name y p2, q1⟩, ⟨some "default", .Constant .none j p3, q2⟩] pos) (tCKw (rMinKD f kf) (tCons ta tNil) (tCons (tC (.ref f)) (tCons (tC .non) tNil))) :=
  pe_callBK (cr_minKD F hb hr) hg hm (by decide +kernel) (pa_cons ha pa_nil hes) (pk_cons (C8.pe_gc (v := .ref f) hgk ⟨_, hmk, rfl⟩ hdk) (pk_cons pe_non pk_nil)) (by decide) (by decide) he hpl hall hnone hks
end
theorem rgV_ints (a b : Int) : rgV a b = ((List.range (b - a).toNat).map fun i : Nat => a + (i : Int)).map V.int := by
  unfold rgV
  rw [List.map_map]
  rfl
def OwV (p : Int → Prop) (r : V) : Prop := (r = .non ∧ ∀ t, ¬ p t) ∨ ∃ m, r = .int m ∧ NearP p m
def spNearV : Sp := fun vs H Q _ => ∃ (a : Addr) (ns : List Int), vs = [.ref a] ∧ H a = some (.lst (ns.map V.int)) ∧ (ns = [] → Q .non H) ∧ ∀ x ∈ ns, (∀ y ∈ ns, ¬ ltT (nr y) (nr x)) → Q (.int x) H
/-! ### calendars: the nearest unlike speed -/
def UnlP (ps qs : List Int) (ms ns : List (Int × Int)) (t : Int) : Prop := speedAt ps ms t ≠ speedAt qs ns t
instance (ps qs : List Int) (ms ns : List (Int × Int)) : DecidablePred (UnlP ps qs ms ns) := fun t => inferInstanceAs (Decidable (speedAt ps ms t ≠ speedAt qs ns t))
theorem speed_offU {ps : List Int} {ms : List (Int × Int)} {t : Int} (h : t ∉ ms.map (·.1)) : speedAt ps ms t = paceOf ps t := by
  unfold speedAt
  rw [List.find?_eq_none.mpr fun m hm => by
    have : m.1 ≠ t := fun e => h (by rw [← e]; exact List.mem_map_of_mem hm)
    simpa using this]
  rfl
theorem pace_week {ps : List Int} (t k : Int) : paceOf ps (t + ps.length * k) = paceOf ps t := by
  unfold paceOf
  rw [Int.add_mul_emod_self_left]
/-- of more moments than there are changed ones one isn't changed -/
theorem unch_ex {ks : List Int} {f : Nat → Int} (inj : ∀ i j, f i = f j → i = j) : ∃ i, i ≤ ks.length ∧ f i ∉ ks := by
  induction ks generalizing f with
  | nil => exact ⟨0, Nat.le_refl _, fun h => nomatch h⟩
  | cons x ks ih =>
    by_cases c : ∃ i, f i = x
    · obtain ⟨i0, e0⟩ := c
      obtain ⟨i, hi, hn⟩ := ih (f := fun i => if i < i0 then f i else f (i + 1)) (fun i j e => by
        have e : (if i < i0 then f i else f (i + 1)) = (if j < i0 then f j else f (j + 1)) := e
        split at e <;> split at e
        · exact inj _ _ e
        · have := inj _ _ e; omega
        · have := inj _ _ e; omega
        · have := inj _ _ e; omega)
      have hn : (if i < i0 then f i else f (i + 1)) ∉ ks := hn
      split at hn
      · rename_i lt
        refine ⟨i, by rw [List.length_cons]; omega, fun z => ?_⟩
        rcases List.mem_cons.mp z with z | z
        · have := inj _ _ (z.trans e0.symm); omega
        · exact hn z
      · rename_i ge
        refine ⟨i + 1, by rw [List.length_cons]; omega, fun z => ?_⟩
        rcases List.mem_cons.mp z with z | z
        · have := inj _ _ (z.trans e0.symm); omega
        · exact hn z
    · obtain ⟨i, hi, hn⟩ := ih inj
      refine ⟨i, by rw [List.length_cons]; omega, fun z => ?_⟩
      rcases List.mem_cons.mp z with z | z
      · exact c ⟨i, z⟩
      · exact hn z
/-- the nearest unlike moment is a changed one, or within so many weeks -/
theorem unl_spot {ps qs : List Int} {ms ns : List (Int × Int)} {ks : List Int} {m : Int} (l0 : 0 < ps.length) (ll : qs.length = ps.length) (hk : ∀ k, k ∈ ks ↔ k ∈ (ms ++ ns).map (·.1)) (h : NearP (UnlP ps qs ms ns) m) :
    m ∈ ks ∨ (-(((ks.length : Nat) : Int) + 1) * (ps.length : Nat) ≤ m ∧ m < (((ks.length : Nat) : Int) + 1) * (ps.length : Nat)) := by
  by_cases c : m ∈ ks
  · exact .inl c
  refine .inr ?_
  have off : ∀ t, t ∉ ks → (UnlP ps qs ms ns t ↔ paceOf ps t ≠ paceOf qs t) := fun t ht => by
    have h1 : t ∉ ms.map (·.1) := fun z => ht ((hk t).mpr (by rw [List.map_append]; exact List.mem_append_left _ z))
    have h2 : t ∉ ns.map (·.1) := fun z => ht ((hk t).mpr (by rw [List.map_append]; exact List.mem_append_right _ z))
    unfold UnlP
    rw [speed_offU h1, speed_offU h2]
  have pm := (off m c).mp h.1
  have per : ∀ k : Int, paceOf ps (m + ps.length * k) ≠ paceOf qs (m + ps.length * k) := fun k => by
    rw [pace_week]
    have : paceOf qs (m + ps.length * k) = paceOf qs m := by rw [← ll, pace_week]
    rw [this]
    exact pm
  have hn : (0 : Int) < ps.length := by omega
  have a := Int.emod_nonneg m (show (ps.length : Int) ≠ 0 by omega)
  have b := Int.emod_lt_of_pos m hn
  have d := Int.emod_add_mul_ediv m (ps.length : Int)
  generalize m % (ps.length : Int) = r at a b d
  generalize m / (ps.length : Int) = q at d
  have inj : ∀ s : Int, ∀ i j : Nat, r + ps.length * (s + (i : Int)) = r + ps.length * (s + (j : Int)) → i = j := fun s i j e => by
    have e2 : (ps.length : Int) * (s + (i : Int)) = ps.length * (s + (j : Int)) := by omega
    have := Int.eq_of_mul_eq_mul_left (by omega) e2
    omega
  have at_ : ∀ s : Int, r + ps.length * s ∉ ks → UnlP ps qs ms ns (r + ps.length * s) := fun s hs => by
    rw [off _ hs]
    have := per (s - q)
    rw [show m + (ps.length : Int) * (s - q) = r + ps.length * s by rw [Int.mul_sub]; omega] at this
    exact this
  have ex : (((ks.length : Nat) : Int) + 1) * (ps.length : Nat) = ps.length * (((ks.length : Nat) : Int) + 1) := Int.mul_comm _ _
  constructor
  · obtain ⟨i, hi, hni⟩ := unch_ex (ks := ks) (f := fun (i : Nat) => r + ps.length * (-(((ks.length : Nat) : Int) + 1) + (i : Int))) (inj _)
    have u := at_ _ hni
    rcases Int.lt_or_le m (-(((ks.length : Nat) : Int) + 1) * (ps.length : Nat)) with z | z
    · exfalso
      refine h.2 _ u ?_
      have e1 : (ps.length : Int) * (-(((ks.length : Nat) : Int) + 1) + (i : Int)) ≤ ps.length * (-1) := Int.mul_le_mul_of_nonneg_left (by omega) (by omega)
      have e2 : (ps.length : Int) * (-(((ks.length : Nat) : Int) + 1)) ≤ ps.length * (-(((ks.length : Nat) : Int) + 1) + (i : Int)) := Int.mul_le_mul_of_nonneg_left (by omega) (by omega)
      rw [Int.mul_neg, Int.mul_one] at e1
      rw [Int.neg_mul, ex] at z
      rw [Int.mul_neg] at e2
      exact nr_lt2 (by omega) (by omega)
    · exact z
  · obtain ⟨i, hi, hni⟩ := unch_ex (ks := ks) (f := fun (i : Nat) => r + ps.length * (0 + (i : Int))) (inj _)
    have u := at_ _ hni
    rcases Int.lt_or_le m ((((ks.length : Nat) : Int) + 1) * (ps.length : Nat)) with z | z
    · exact z
    · exfalso
      refine h.2 _ u ?_
      have e1 : (ps.length : Int) * (0 + (i : Int)) ≤ ps.length * ((ks.length : Nat) : Int) := Int.mul_le_mul_of_nonneg_left (by omega) (by omega)
      have e2 : (0 : Int) ≤ ps.length * (0 + (i : Int)) := Int.mul_nonneg (by omega) (by omega)
      rw [ex, Int.mul_add, Int.mul_one] at z
      exact nr_lt (by omega) (by omega)
theorem near_fin {p : Int → Prop} [DecidablePred p] {sp : List Int} (all : ∀ m, NearP p m → m ∈ sp) {Q : V → Prop} (h : ∀ r, OwV p r → Q r) :
    ((sp.filter fun x => decide (p x)) = [] → Q .non) ∧ ∀ x ∈ sp.filter (fun x => decide (p x)), (∀ y ∈ sp.filter (fun x => decide (p x)), ¬ ltT (nr y) (nr x)) → Q (.int x) := by
  have inn : ∀ m, NearP p m → m ∈ sp.filter fun x => decide (p x) := fun m h => List.mem_filter.mpr ⟨all m h, decide_eq_true h.1⟩
  refine ⟨fun e => h _ (.inl ⟨rfl, fun t ht => ?_⟩), fun x hx hl => ?_⟩
  · obtain ⟨m, hm⟩ := nearP_exists ht
    have := inn m hm
    rw [e] at this
    cases this
  · have px := of_decide_eq_true (List.mem_filter.mp hx).2
    obtain ⟨m, hm⟩ := nearP_exists px
    obtain rfl : x = m := nr_eq (hm.2 x px) (hl m (inn m hm))
    exact h _ (.inr ⟨x, rfl, hm⟩)
def spWeeks0 (C : Addr) : Sp := fun vs H Q _ => ∃ (a b l d l' d' : Addr) (ps qs : List Int) (ms ns : List (Int × Int)), vs = [.ref a, .ref b] ∧ CalAt C H a l d ps ms ∧ CalAt C H b l' d' qs ns ∧ ps.length = qs.length ∧ Q .non H
def spUnl (C : Addr) : Sp := fun vs H Q _ => ∃ (a b l d l' d' : Addr) (ps qs : List Int) (ms ns : List (Int × Int)), vs = [.ref a, .ref b] ∧ CalAt C H a l d ps ms ∧ CalAt C H b l' d' qs ns ∧ ps.length = qs.length ∧ 0 < ps.length ∧ ps.length ≤ 12 ∧ ms.length + ns.length ≤ 60 ∧
  ∀ (r : V) (H' : Hp), Same H H' → OwV (UnlP ps qs ms ns) r → Q r H'
section
variable {P : Program} {w : World} {K : PySem.W.Frag} {mg : Str → Option Value} {base : Heap}
theorem scNearness : FnScope ["moment"] ["moment"] (defScope sNearness) := ⟨rfl, rfl, rfl, by decide +kernel, rfl, by decide +kernel, by decide +kernel⟩
theorem ok_nearnessV {f : Addr} {fd : FuncData} (F : Fun K "nearness" "nearness" sNearness f fd) (T : Blt mg) : FnOk P w K mg base CX0 1 f fd ["moment"] (spKey nr) := by
  refine F.ok scNearness (fun vs H Q E h => ?_) (fun cdv A outer s H vs Q E hr h => ?_)
  · obtain ⟨i, rfl, _⟩ := h
    rfl
  · obtain ⟨i, rfl, k⟩ := h
    refine ⟨_, pss_one (ps_ret (pe_tup (pa_cons (pe_callB call_abs (by rfl) T.abs (by decide +kernel) (pa_cons (pv 0) pa_nil)) (pa_cons (pe_un un_neg (pv 0)) pa_nil)))), ?_⟩
    exact ⟨_, rfl, _, rfl, _, rfl, _, rfl, (by show 2 ≤ sizeLine; decide), fun q nq => k q _ upd_same⟩
theorem scNearest : FnScope ["moments"] ["moments"] (defScope sNearest) := ⟨rfl, rfl, rfl, by decide +kernel, rfl, by decide +kernel, by decide +kernel⟩
theorem ok_nearestV {f fN : Addr} {fd dN : FuncData} (F : Fun K "nearest" "nearest" sNearest f fd) (T : Blt mg) (Ns : At P w K mg base 1 "nearness" ["moment"] (spKey nr) fN dN) : FnOk P w K mg base CX0 3 f fd ["moments"] spNearV := by
  refine F.ok scNearest (fun vs H Q E h => ?_) (fun cdv A outer s H vs Q E hr h => ?_)
  · obtain ⟨a, ns, rfl, _⟩ := h
    rfl
  · obtain ⟨a, ns, rfl, ha, k0, k1⟩ := h
    refine ⟨_, pss_one (ps_ret (pe_minK Ns.ok Ns.bi (hr.mono (by decide)) T.min Ns.at_ (pv 0))), ?_⟩
    exact ⟨_, rfl, a, ns, rfl, rfl, ha, k0, k1⟩
theorem scUnlike : FnScope ["calendar", "other", "changed", "reach", "moments", "at"] ["calendar", "other"] (defScope sUnlike) := ⟨rfl, rfl, rfl, by decide +kernel, rfl, by decide +kernel, by decide +kernel⟩
theorem ok_unl {f fW fC fN fG C p1 g1 : Addr} {fd dW dN dG d1 : FuncData} (F : Fun K "first_unlike" "first_unlike" sUnlike f fd) (T : Blt mg) (Z : Cal K mg C) (W1 : Pp P w K mg base C "week" (spWeek C) p1 g1 d1)
    (Cw : At P w K mg base 3 "check_weeks" ["one", "other"] (spWeeks0 C) fW dW) (Ch : AtR P w K mg base 3 "changed_moments" (spChanged C) fC)
    (Nt : At P w K mg base 3 "nearest" ["moments"] spNearV fN dN) (oG : Own K C "__getitem__" fG) (Gg : FnOk P w K mg base CX0 1 fG dG ["self", "at"] (spGet C)) (bG : Binds K dG ["self", "at"] []) : FnOk P w K mg base CX0 4 f fd ["calendar", "other"] (spUnl C) := by
  refine F.ok scUnlike (fun vs H Q E h => ?_) (fun cdv A outer s H vs Q E hr h => ?_)
  · obtain ⟨a, b, l, d, l', d', ps, qs, ms, ns, rfl, _⟩ := h
    rfl
  · obtain ⟨a, b, l, d, l', d', ps, qs, ms, ns, rfl, c1, c2, ll, l0, l1, lm, k⟩ := h
    have hr2 : Room 2 _ := hr.mono (by decide)
    have hr3 : Room 3 _ := hr.mono (by decide)
    refine ⟨_, pss_cons (ps_expr (pe_call Cw.ok hr3 (by rfl) Cw.at_ Cw.kp Cw.bi .nil pass0 (pa_cons (pv 0) (pa_cons (pv 1) pa_nil))))
      (pss_cons (ps_set (i := 2) scUnlike.nd rfl (.inl rfl) (pe_callR Ch.ok hr3 (by rfl) Ch.at_ Ch.kp pass0 (pa_cons (pv 0) (pa_cons (pv 1) pa_nil))))
      (pss_cons (ps_set (i := 3) scUnlike.nd rfl (.inl rfl) (pe_op op_mul (pe_op op_add (pe_callB call_len_seq (by rfl) T.len PySem.boot_len (pa_cons (pv 2) pa_nil)) pe_int) (pe_prop (pv 0) Z.cl W1.of W1.ok hr2 W1.bi .nil pass0 rfl)))
      (pss_cons (ps_set (i := 4) scUnlike.nd rfl (.inl rfl) (pe_op op_cat (pe_listRg rfl (by rfl) T.list (prg_2 (by rfl) T.range (pe_un un_neg (pv 3)) (pv 3))) (pv 2)))
      (pss_one (ps_ret (pe_call Nt.ok hr3 (by rfl) Nt.at_ Nt.kp Nt.bi .nil pass0 (pa_cons (pe_lc (own := [("at", 5)]) (g := gName 5) rfl scUnlike.nd (pi_list (pv 4))
          (blkOk_by (N := ["calendar", "other", "changed", "reach", "moments", "at"]) (sc := defScope sUnlike) (by decide +kernel)) (fun _ _ _ _ _ => pg_name (i := 5) scUnlike.nd rfl (.inl rfl)) (fun _ _ _ _ _ => pts_one (pt_cmpR op_ne (ix_own oG Gg hr2 bG (pv 0) (pv 5)) (ix_own oG Gg hr2 bG (pv 1) (pv 5)) (nomark _)))
          (fun _ _ _ _ _ => (pv 5))) pa_nil))))))), ?_⟩
    obtain ⟨dx, hx⟩ := c1.ob
    obtain ⟨dy, hy⟩ := c2.ob
    refine ⟨_, rfl, _, rfl, ⟨a, b, l, d, l', d', ps, qs, ms, ns, rfl, c1, c2, ll, ?_⟩⟩
    refine ⟨_, rfl, _, rfl, ⟨a, b, l, d, l', d', ps, qs, ms, ns, rfl, c1, c2, lm, fun H1 q1 ks s1 nq1 asc mem lk hq1 => ?_⟩⟩
    have el : (((ks.map V.int).length : Nat) : Int) = (ks.length : Nat) := by rw [List.length_map]
    have hR : 0 ≤ ((((ks.map V.int).length : Nat) : Int) + 1) * ((ps.length : Nat) : Int) ∧ ((((ks.map V.int).length : Nat) : Int) + 1) * ((ps.length : Nat) : Int) ≤ 61 * 12 := by
      rw [el]
      exact ⟨Int.mul_nonneg (by omega) (by omega), Int.mul_le_mul (by omega) (by omega) (by omega) (by omega)⟩
    refine ⟨_, rfl, q1, _, rfl, .inl (SqL.of hq1), _, _, rfl, rfl, _, rfl, a, dx, _, rfl, s1 _ _ hx, ⟨a, l, d, ps, ms, rfl, c1.same s1, _, _, rfl, rfl, .inl ⟨by omega, by omega⟩, ?_⟩⟩
    refine ⟨_, rfl, _, rfl, _, rfl, _, _, rfl, rfl, ⟨by omega, by omega, by omega, by omega, by omega⟩, fun r nr1 => ?_⟩
    have eR : ((((ks.map V.int).length : Nat) : Int) + 1) * ((ps.length : Nat) : Int) = (((ks.length : Nat) : Int) + 1) * (ps.length : Nat) := by rw [el]
    generalize hRR : ((((ks.map V.int).length : Nat) : Int) + 1) * ((ps.length : Nat) : Int) = R at hR eR ⊢
    have s2 := same_new (o := .lst (rgV (-R) R)) nr1
    refine ⟨_, rfl, r, q1, _, _, rfl, rfl, upd_same, s2 _ _ hq1, by rw [List.length_map, rgV_length, sizeLine_eq]; omega, fun G nG => ?_⟩
    have s3 := same_new (o := .lst (rgV (-R) R ++ ks.map V.int)) nG
    have eG : rgV (-R) R ++ ks.map V.int = (((List.range (R - -R).toNat).map fun i : Nat => -R + (i : Int)) ++ ks).map V.int := by rw [rgV_ints, List.map_append]
    have hG := upd_same (H := upd H1 r (.lst (rgV (-R) R))) (a := G) (o := .lst (rgV (-R) R ++ ks.map V.int))
    rw [eG] at hG s3 ⊢
    have gm : ∀ m, NearP (UnlP ps qs ms ns) m → m ∈ ((List.range (R - -R).toNat).map fun i : Nat => -R + (i : Int)) ++ ks := fun m hm => by
      rcases unl_spot l0 ll.symm mem hm with h | ⟨h1, h2⟩
      · exact List.mem_append_right _ h
      · rw [Int.neg_mul, ← eR] at h1
        rw [← eR] at h2
        exact List.mem_append_left _ (List.mem_map.mpr ⟨(m - -R).toNat, List.mem_range.mpr (by omega), by omega⟩)
    have gl : (((List.range (R - -R).toNat).map fun i : Nat => -R + (i : Int)) ++ ks).length ≤ 2000 := by
      rw [List.length_append, List.length_map, List.length_range]
      omega
    generalize ((List.range (R - -R).toNat).map fun i : Nat => -R + (i : Int)) ++ ks = gs at hG s3 gm gl ⊢
    have s13 := (s1.trans s2).trans s3
    generalize upd (upd H1 r (.lst (rgV (-R) R))) G (.lst (gs.map V.int)) = H3 at hG s13 ⊢
    have c1' := c1.same s13
    have c2' := c2.same s13
    have hx' := s13 _ _ hx
    have hy' := s13 _ _ hy
    refine ⟨_, rfl, G, rfl, ⟨_, SqL.of hG⟩, fun D hD => lc_list (K := K) (a := G) (xs := gs.map V.int) (fun i J => J D = some (.lst (((gs.take i).filter fun x => decide (UnlP ps qs ms ns x)).map V.int)) ∧ Same H3 J)
      ⟨upd_same, same_new hD⟩ (fun i J _ h => SqL.of (h.2 _ _ hG)) ?_ ?_⟩
    · rintro i y J hi ⟨hJ, sJ⟩
      have hi2 : i < gs.length := by
        have := (List.getElem?_eq_some_iff.mp hi).1
        simpa using this
      rw [List.getElem?_map, List.getElem?_eq_getElem hi2] at hi
      obtain rfl := Option.some.inj hi
      have et : gs.take (i + 1) = gs.take i ++ [gs[i]] := by rw [List.take_add_one, List.getElem?_eq_getElem hi2]; rfl
      rw [et, List.filter_append]
      generalize gs[i] = t
      refine ⟨rfl, _, rfl, _, rfl, a, dx, _, rfl, sJ _ _ hx', ⟨a, l, d, ps, ms, t, rfl, c1'.same sJ, l0, _, rfl, _, rfl, b, dy, _, rfl, sJ _ _ hy', ⟨b, l', d', qs, ns, t, rfl, c2'.same sJ, by omega, ?_⟩⟩⟩
      refine ⟨rfl, _, rfl, ite2 (fun g => ?_) (fun g => ?_)⟩
      · have u : UnlP ps qs ms ns t := fun e => by
          rw [e, decide_eq_true rfl] at g
          cases g
        refine ⟨_, rfl, _, hJ, ?_, ?_, fun e o g => ?_⟩
        · rw [List.length_map]
          have := List.length_filter_le (fun x => decide (UnlP ps qs ms ns x)) (gs.take i)
          rw [List.length_take] at this
          rw [sizeLine_eq]
          omega
        · rw [upd_same, List.filter_cons, if_pos (decide_eq_true u), List.map_append]
          rfl
        · rw [upd_ne (ne_of_none g hD)]
          exact sJ e o g
      · have u : ¬ UnlP ps qs ms ns t := fun u => g (by
          rw [decide_eq_false (fun e => u (V.int.inj e))]
          rfl)
        rw [List.filter_cons, if_neg (by rw [decide_eq_false u]; exact Bool.false_ne_true), List.filter_nil, List.append_nil]
        exact ⟨hJ, sJ⟩
    · rintro J ⟨hJ, sJ⟩
      rw [List.length_map, List.take_length] at hJ
      obtain ⟨k0, k1⟩ := near_fin (p := UnlP ps qs ms ns) (sp := gs) gm (Q := fun r => Q r J) (fun r hr => k r J (s13.trans sJ) hr)
      exact ⟨D, _, rfl, hJ, k0, k1⟩
end

theorem real_asc {ps : List Int} {ms : List (Int × Int)} (asc : ms.Pairwise fun a b => a.1 < b.1) : (realOf ps ms).Pairwise fun a b => a.1 < b.1 := asc.filter _
theorem realFit {ps : List Int} {ms : List (Int × Int)} (h : Fit ms) : Fit (realOf ps ms) := ⟨real_asc h.asc, fun m hm => h.val m (List.mem_filter.mp hm).1, Nat.le_trans (List.length_filter_le _ _) h.len⟩

/-! ### data without a heap -/
inductive OV where
  | rul (bs : List Int) (cs : List (Int × Int))
  | cal (ps : List Int) (ms : List (Int × Int))
  | cls
inductive DV where
  | int (i : Int) | bl (b : Bool) | non | str (s : Str) | tup (xs : List DV) | lst (xs : List DV) | obj (o : OV) | pool
mutual
def DV.py : DV → PyData
  | .int i => .int i
  | .bl b => .bool b
  | .non => .none
  | .str s => .str s
  | .tup xs => .tuple (DV.pyAll xs)
  | .lst xs => .list (DV.pyAll xs)
  | .obj _ => .none
  | .pool => .none
def DV.pyAll : List DV → List PyData
  | [] => []
  | x :: xs => x.py :: DV.pyAll xs
end
mutual
def DV.pu : DV → Bool
  | .tup xs => DV.puAll xs
  | .lst xs => DV.puAll xs
  | .obj _ => false
  | .pool => false
  | _ => true
def DV.puAll : List DV → Bool
  | [] => true
  | x :: xs => x.pu && DV.puAll xs
end
def FrS (M : Addr → Prop) (H H' : Hp) : Prop := ∀ b o, H b = some o → ¬ M b → H' b = some o
theorem FrS.refl {M : Addr → Prop} {H : Hp} : FrS M H H := fun _ _ h _ => h
theorem FrS.trans {M : Addr → Prop} {H H1 H2 : Hp} (a : FrS M H H1) (b : FrS M H1 H2) : FrS M H H2 := fun c o h n => b c o (a c o h n) n
theorem FrS.mono {M M' : Addr → Prop} {H H' : Hp} (a : FrS M H H') (h : ∀ b, M b → M' b) : FrS M' H H' := fun c o e n => a c o e fun z => n (h c z)
theorem FrS.of {M : Addr → Prop} {H H' : Hp} (a : Same H H') : FrS M H H' := fun c o e _ => a c o e
theorem FrS.upd {M : Addr → Prop} {H H' : Hp} {q : Addr} {o : HO} (a : FrS M H H') (h : H q = none ∨ M q) : FrS M H (upd H' q o) := fun c u e n => by
  rw [upd_ne]
  · exact a c u e n
  · intro z
    subst z
    rcases h with h | h
    · rw [h] at e
      cases e
    · exact n h
structure Wo where
  p : Option Addr
  ob : (Addr → Prop) → Hp → Addr → OV → Prop
  mono : ∀ {M H H' x o}, ob M H x o → FrS M H H' → ob M H' x o
  sub : ∀ {M M' H x o}, ob M H x o → (∀ a, M' a → M a ∨ H a = none) → ob M' H x o
def pl (W : Wo) : Addr → Prop := fun a => W.p = some a
def Pl (W : Wo) (H : Hp) (n : Nat) : Prop := ∀ p, W.p = some p → Well H p n
inductive Rep (W : Wo) (M : Addr → Prop) (H : Hp) : V → DV → Prop
  | int (i : Int) : Rep W M H (.int i) (.int i)
  | bl (b : Bool) : Rep W M H (.bl b) (.bl b)
  | non : Rep W M H .non .non
  | str (s : Str) : Rep W M H (.str s) (.str s)
  | lst {q : Addr} {vs : List V} {ds : List DV} : H q = some (.lst vs) → ¬ M q → vs.length = ds.length → (∀ (i : Nat) (v : V) (d : DV), vs[i]? = some v → ds[i]? = some d → Rep W M H v d) → Rep W M H (.ref q) (.lst ds)
  | tup {q : Addr} {vs : List V} {ds : List DV} : H q = some (.tup vs) → ¬ M q → vs.length = ds.length → (∀ (i : Nat) (v : V) (d : DV), vs[i]? = some v → ds[i]? = some d → Rep W M H v d) → Rep W M H (.ref q) (.tup ds)
  | obj {x : Addr} {o : OV} : W.ob M H x o → Rep W M H (.ref x) (.obj o)
  | pool {p : Addr} : W.p = some p → Rep W M H (.ref p) .pool
def RepA (W : Wo) (M : Addr → Prop) (H : Hp) (vs : List V) (ds : List DV) : Prop := vs.length = ds.length ∧ ∀ (i : Nat) (v : V) (d : DV), vs[i]? = some v → ds[i]? = some d → Rep W M H v d
section
variable {W : Wo} {M M' : Addr → Prop} {H H' : Hp}
theorem Rep.mono {v : V} {d : DV} (h : Rep W M H v d) (f : FrS M H H') : Rep W M H' v d := by
  induction h with
  | int i => exact .int i
  | bl b => exact .bl b
  | non => exact .non
  | str s => exact .str s
  | lst h1 h2 h3 h4 ih => exact .lst (f _ _ h1 h2) h2 h3 fun i v d e1 e2 => ih i v d e1 e2
  | tup h1 h2 h3 h4 ih => exact .tup (f _ _ h1 h2) h2 h3 fun i v d e1 e2 => ih i v d e1 e2
  | obj h => exact .obj (W.mono h f)
  | pool h => exact .pool h
theorem Rep.sub {v : V} {d : DV} (h : Rep W M H v d) (s : ∀ a, M' a → M a ∨ H a = none) : Rep W M' H v d := by
  have nn : ∀ {q o}, H q = some o → ¬ M q → ¬ M' q := fun e n z => by
    rcases s _ z with z | z
    · exact n z
    · rw [z] at e
      cases e
  induction h with
  | int i => exact .int i
  | bl b => exact .bl b
  | non => exact .non
  | str s => exact .str s
  | lst h1 h2 h3 h4 ih => exact .lst h1 (nn h1 h2) h3 fun i v d e1 e2 => ih i v d e1 e2
  | tup h1 h2 h3 h4 ih => exact .tup h1 (nn h1 h2) h3 fun i v d e1 e2 => ih i v d e1 e2
  | obj h => exact .obj (W.sub h s)
  | pool h => exact .pool h
theorem RepA.mono {vs : List V} {ds : List DV} (h : RepA W M H vs ds) (f : FrS M H H') : RepA W M H' vs ds := ⟨h.1, fun i v d e1 e2 => (h.2 i v d e1 e2).mono f⟩
theorem RepA.sub {vs : List V} {ds : List DV} (h : RepA W M H vs ds) (s : ∀ a, M' a → M a ∨ H a = none) : RepA W M' H vs ds := ⟨h.1, fun i v d e1 e2 => (h.2 i v d e1 e2).sub s⟩
theorem RepA.nil : RepA W M H [] [] := ⟨rfl, fun i v d e => by simp at e⟩
theorem RepA.cons {v : V} {d : DV} {vs : List V} {ds : List DV} (h : Rep W M H v d) (t : RepA W M H vs ds) : RepA W M H (v :: vs) (d :: ds) := by
  refine ⟨by simp [t.1], fun i u e h1 h2 => ?_⟩
  cases i with
  | zero =>
    obtain rfl : v = u := by simpa using h1
    obtain rfl : d = e := by simpa using h2
    exact h
  | succ i => exact t.2 i u e (by simpa using h1) (by simpa using h2)
theorem RepA.head {v : V} {d : DV} {vs : List V} {ds : List DV} (h : RepA W M H (v :: vs) (d :: ds)) : Rep W M H v d ∧ RepA W M H vs ds :=
  ⟨h.2 0 v d rfl rfl, by have := h.1; simpa using this, fun i u e h1 h2 => h.2 (i + 1) u e (by simpa using h1) (by simpa using h2)⟩
theorem RepA.append {vs us : List V} {ds es : List DV} (h : RepA W M H vs ds) (t : RepA W M H us es) : RepA W M H (vs ++ us) (ds ++ es) := by
  induction vs generalizing ds with
  | nil =>
    cases ds with
    | nil => exact t
    | cons d ds => have := h.1; simp at this
  | cons v vs ih =>
    cases ds with
    | nil => have := h.1; simp at this
    | cons d ds => exact .cons h.head.1 (ih h.head.2)
theorem RepA.nil_inv {vs : List V} (h : RepA W M H vs []) : vs = [] := List.length_eq_zero_iff.mp h.1
theorem RepA.one_inv {vs : List V} {d : DV} (h : RepA W M H vs [d]) : ∃ v, vs = [v] ∧ Rep W M H v d := by
  match vs, h.1 with
  | [v], _ => exact ⟨v, rfl, h.head.1⟩
theorem RepA.cons_inv {vs : List V} {d : DV} {ds : List DV} (h : RepA W M H vs (d :: ds)) : ∃ v us, vs = v :: us ∧ Rep W M H v d ∧ RepA W M H us ds := by
  match vs, h.1 with
  | v :: us, _ => exact ⟨v, us, rfl, h.head⟩
theorem RepA.get {vs : List V} {ds : List DV} {i : Nat} {d : DV} (h : RepA W M H vs ds) (e : ds[i]? = some d) : ∃ v, vs[i]? = some v ∧ Rep W M H v d := by
  obtain ⟨hi, _⟩ := List.getElem?_eq_some_iff.mp e
  have hv : i < vs.length := by rw [h.1]; exact hi
  exact ⟨vs[i], List.getElem?_eq_getElem hv, h.2 i _ _ (List.getElem?_eq_getElem hv) e⟩
theorem RepA.of {vs : List V} {ds : List DV} (h : vs.length = ds.length) (g : ∀ (i : Nat) (v : V) (d : DV), vs[i]? = some v → ds[i]? = some d → Rep W M H v d) : RepA W M H vs ds := ⟨h, g⟩
theorem RepA.take {vs : List V} {ds : List DV} (h : RepA W M H vs ds) (n : Nat) : RepA W M H (vs.take n) (ds.take n) := by
  refine ⟨by simp [h.1], fun i v d e1 e2 => ?_⟩
  rw [List.getElem?_take] at e1 e2
  split at e1
  · exact h.2 i v d e1 (by simpa [*] using e2)
  · cases e1
theorem RepA.drop {vs : List V} {ds : List DV} (h : RepA W M H vs ds) (n : Nat) : RepA W M H (vs.drop n) (ds.drop n) := by
  refine ⟨by simp [h.1], fun i v d e1 e2 => ?_⟩
  rw [List.getElem?_drop] at e1 e2
  exact h.2 _ v d e1 e2
theorem RepA.set {vs : List V} {ds : List DV} {v : V} {d : DV} (h : RepA W M H vs ds) (r : Rep W M H v d) (n : Nat) : RepA W M H (vs.set n v) (ds.set n d) := by
  refine ⟨by simp [h.1], fun i u e e1 e2 => ?_⟩
  rw [List.getElem?_set] at e1 e2
  have := h.1
  split at e1
  · rename_i hn
    rw [if_pos hn] at e2
    split at e1
    · obtain rfl := Option.some.inj e1
      split at e2
      · obtain rfl := Option.some.inj e2
        exact r
      · cases e2
    · cases e1
  · rename_i hn
    rw [if_neg hn] at e2
    exact h.2 i u e e1 e2
theorem RepA.reverse {vs : List V} {ds : List DV} (h : RepA W M H vs ds) : RepA W M H vs.reverse ds.reverse := by
  induction vs generalizing ds with
  | nil =>
    cases ds with
    | nil => exact .nil
    | cons d ds => have := h.1; simp at this
  | cons v vs ih =>
    cases ds with
    | nil => have := h.1; simp at this
    | cons d ds =>
      rw [List.reverse_cons, List.reverse_cons]
      exact (ih h.head.2).append (.cons h.head.1 .nil)
theorem RepA.rep {vs : List V} {ds : List DV} (h : RepA W M H vs ds) (n : Nat) : RepA W M H (List.replicate n vs).flatten (List.replicate n ds).flatten := by
  induction n with
  | zero => exact .nil
  | succ n ih =>
    rw [List.replicate_succ, List.replicate_succ, List.flatten_cons, List.flatten_cons]
    exact h.append ih
theorem Rep.int_inv {v : V} {i : Int} (h : Rep W M H v (.int i)) : v = .int i := by cases h; rfl
theorem Rep.bl_inv {v : V} {b : Bool} (h : Rep W M H v (.bl b)) : v = .bl b := by cases h; rfl
theorem Rep.str_inv {v : V} {s : Str} (h : Rep W M H v (.str s)) : v = .str s := by cases h; rfl
theorem Rep.lst_inv {v : V} {ds : List DV} (h : Rep W M H v (.lst ds)) : ∃ q vs, v = .ref q ∧ H q = some (.lst vs) ∧ ¬ M q ∧ RepA W M H vs ds := by
  cases h with
  | lst a b c d => exact ⟨_, _, rfl, a, b, c, d⟩
theorem Rep.tup_inv {v : V} {ds : List DV} (h : Rep W M H v (.tup ds)) : ∃ q vs, v = .ref q ∧ H q = some (.tup vs) ∧ ¬ M q ∧ RepA W M H vs ds := by
  cases h with
  | tup a b c d => exact ⟨_, _, rfl, a, b, c, d⟩
theorem RepA.ints {vs : List V} {xs : List Int} (h : RepA W M H vs (xs.map DV.int)) : vs = xs.map V.int := by
  induction xs generalizing vs with
  | nil => exact h.nil_inv
  | cons x xs ih =>
    obtain ⟨v, us, rfl, h1, h2⟩ := h.cons_inv
    rw [h1.int_inv, ih h2]
    rfl
theorem repA_ints (xs : List Int) : RepA W M H (xs.map V.int) (xs.map DV.int) := by
  induction xs with
  | nil => exact .nil
  | cons x xs ih => exact .cons (.int x) ih
theorem pyAll_map (ds : List DV) : DV.pyAll ds = ds.map DV.py := by
  induction ds with
  | nil => rfl
  | cons d ds ih => rw [DV.pyAll, ih]; rfl
theorem puAll_iff (ds : List DV) : DV.puAll ds = true ↔ ∀ d ∈ ds, d.pu = true := by
  induction ds with
  | nil => simp [DV.puAll]
  | cons d ds ih => simp [DV.puAll, ih]
theorem dpAll_of {K : PySem.W.Frag} {vs : List V} {ds : List DV} (l : vs.length = ds.length) (h : ∀ (i : Nat) (v : V) (d : DV), vs[i]? = some v → ds[i]? = some d → Dp K H v d.py) : DpAll K H vs (DV.pyAll ds) := by
  induction vs generalizing ds with
  | nil =>
    cases ds with
    | nil => exact .nil
    | cons d ds => simp at l
  | cons v vs ih =>
    cases ds with
    | nil => simp at l
    | cons d ds => exact .cons (h 0 v d rfl rfl) (ih (by simpa using l) fun i u e h1 h2 => h (i + 1) u e (by simpa using h1) (by simpa using h2))
theorem Rep.dp {K : PySem.W.Frag} {v : V} {d : DV} (h : Rep W M H v d) (p : d.pu = true) : Dp K H v d.py := by
  induction h with
  | int i => exact .int i
  | bl b => exact .bl b
  | non => exact .non
  | str s => exact .str s
  | lst h1 h2 h3 h4 ih => exact .lst (SqL.of h1) (dpAll_of h3 fun i v d e1 e2 => ih i v d e1 e2 ((puAll_iff _).mp p d (List.mem_of_getElem? e2)))
  | tup h1 h2 h3 h4 ih => exact .tup (SqT.of h1) (dpAll_of h3 fun i v d e1 e2 => ih i v d e1 e2 ((puAll_iff _).mp p d (List.mem_of_getElem? e2)))
  | obj h => exact nomatch p
  | pool h => exact nomatch p
end
def IsL (H : Hp) (a : Addr) : Prop := ∃ vs, H a = some (.lst vs)
theorem IsL.ne {H : Hp} {a : Addr} (h : IsL H a) : H a ≠ none := by
  obtain ⟨vs, e⟩ := h
  rw [e]
  simp
/-! ### the state of a def -/
inductive SV where
  | dat (d : DV) | own (ds : List DV)
abbrev En := List (Option SV)
def Later (W : Wo) (B : Addr → Prop) (M : Addr → Prop) (H : Hp) (M' : Addr → Prop) (H' : Hp) : Prop :=
  (∀ b o, H b = some o → ¬ (M b ∧ ¬ B b) → W.p ≠ some b → H' b = some o) ∧ (∀ a, M' a → M a ∨ H a = none) ∧ (∀ a, B a → M' a)
structure Ok (W : Wo) (B : Addr → Prop) (Φ : (Addr → Prop) → Hp → Prop) (M : Addr → Prop) (σ : L2.St) (H : Hp) (δ : En) (n : Nat) : Prop where
  len : σ.length = δ.length
  dat : ∀ (i : Nat) (d : DV), δ[i]? = some (some (.dat d)) → ∃ v, σ[i]? = some (some v) ∧ Rep W M H v d
  own : ∀ (i : Nat) (ds : List DV), δ[i]? = some (some (.own ds)) → ∃ q vs, σ[i]? = some (some (.ref q)) ∧ M q ∧ ¬ B q ∧ H q = some (.lst vs) ∧ RepA W M H vs ds
  apart : ∀ (i j : Nat) (ds es : List DV) (q : Addr), δ[i]? = some (some (.own ds)) → δ[j]? = some (some (.own es)) → σ[i]? = some (some (.ref q)) → σ[j]? = some (some (.ref q)) → i = j
  base : ∀ a, B a → M a
  dom : ∀ a, M a → IsL H a
  pool : ∀ p, W.p = some p → B p ∧ Well H p n
  phi : Φ M H
  cl : ∀ M H M' H', Φ M H → Later W B M H M' H' → Φ M' H'
section
variable {W : Wo} {B M : Addr → Prop} {Φ : (Addr → Prop) → Hp → Prop} {σ : L2.St} {H H' : Hp} {δ : En} {n m : Nat}
theorem Ok.plM (k : Ok W B Φ M σ H δ n) : ∀ a, pl W a → M a := fun a h => k.base a (k.pool a h).1
theorem Ok.frM (k : Ok W B Φ M σ H δ n) {H1 H2 : Hp} (f : FrS (pl W) H1 H2) : FrS M H1 H2 := f.mono k.plM
theorem dom_fr (f : FrS (pl W) H H') (p : Pl W H' m) {a : Addr} (h : IsL H a) : IsL H' a := by
  obtain ⟨vs, e⟩ := h
  by_cases z : W.p = some a
  · obtain ⟨_, _, _, e2, _⟩ := p a z
    exact ⟨_, e2⟩
  · exact ⟨_, f a _ e z⟩
theorem Ok.expr (k : Ok W B Φ M σ H δ n) (f : FrS (pl W) H H') (p : Pl W H' m) : Ok W B Φ M σ H' δ m where
  len := k.len
  dat := fun i d e => let ⟨v, e1, r⟩ := k.dat i d e; ⟨v, e1, r.mono (k.frM f)⟩
  own := fun i ds e => by
    obtain ⟨q, vs, e1, h1, h2, h3, h4⟩ := k.own i ds e
    exact ⟨q, vs, e1, h1, h2, f _ _ h3 (fun z => h2 (k.pool q z).1), h4.mono (k.frM f)⟩
  apart := k.apart
  base := k.base
  dom := fun a h => dom_fr f p (k.dom a h)
  pool := fun q e => ⟨(k.pool q e).1, p q e⟩
  phi := k.cl _ _ _ _ k.phi ⟨fun b o e _ h => f b o e h, fun a h => .inl h, k.base⟩
  cl := k.cl
theorem Ok.plOf (k : Ok W B Φ M σ H δ n) : Pl W H n := fun p e => (k.pool p e).2
theorem get_set {α : Type} {l : List α} {i j : Nat} {x y : α} (h : (l.set i x)[j]? = some y) : (i = j ∧ y = x ∧ i < l.length) ∨ (i ≠ j ∧ l[j]? = some y) := by
  rw [List.getElem?_set] at h
  split at h
  · rename_i e
    split at h
    · exact .inl ⟨e, (Option.some.inj h).symm, by assumption⟩
    · cases h
  · exact .inr ⟨by assumption, h⟩
theorem Ok.set (k : Ok W B Φ M σ H δ n) {v : V} {d : DV} (r : Rep W M H v d) (i : Nat) : Ok W B Φ M (σ.set i (some v)) H (δ.set i (some (.dat d))) n where
  len := by simp [k.len]
  dat := fun j e h => by
    rcases get_set h with ⟨rfl, e1, hl⟩ | ⟨ne, h⟩
    · obtain rfl : e = d := by simpa using e1
      exact ⟨v, by rw [List.getElem?_set_self (by rw [k.len]; exact hl)], r⟩
    · obtain ⟨u, e1, r1⟩ := k.dat j e h
      exact ⟨u, by rw [List.getElem?_set_ne ne]; exact e1, r1⟩
  own := fun j e h => by
    rcases get_set h with ⟨rfl, e1, hl⟩ | ⟨ne, h⟩
    · simp at e1
    · obtain ⟨q, vs, e1, r1⟩ := k.own j e h
      exact ⟨q, vs, by rw [List.getElem?_set_ne ne]; exact e1, r1⟩
  apart := fun a b ds es q h1 h2 h3 h4 => by
    rcases get_set h1 with ⟨rfl, e1, hl⟩ | ⟨ne, h1⟩
    · simp at e1
    · rcases get_set h2 with ⟨rfl, e1, hl⟩ | ⟨ne2, h2⟩
      · simp at e1
      · rw [List.getElem?_set_ne ne] at h3
        rw [List.getElem?_set_ne ne2] at h4
        exact k.apart a b ds es q h1 h2 h3 h4
  base := k.base
  dom := k.dom
  pool := k.pool
  phi := k.phi
  cl := k.cl
/-- a new list that stays one's own -/
theorem Ok.setOwn (k : Ok W B Φ M σ H δ n) (f : FrS (pl W) H H') (p : Pl W H' m) {q : Addr} {vs : List V} {ds : List DV} (nq : H q = none) (hq : H' q = some (.lst vs)) (r : RepA W (fun a => M a ∨ a = q) H' vs ds) (i : Nat) :
    Ok W B Φ (fun a => M a ∨ a = q) (σ.set i (some (.ref q))) H' (δ.set i (some (.own ds))) m := by
  have nM : ¬ M q := fun z => (k.dom q z).ne nq
  have nB : ¬ B q := fun z => nM (k.base q z)
  have sub : ∀ a, (M a ∨ a = q) → M a ∨ H a = none := fun a h => h.imp id fun e => by rw [e]; exact nq
  have old : ∀ {v d}, Rep W M H v d → Rep W (fun a => M a ∨ a = q) H' v d := fun h => (h.sub sub).mono (fun b o e z => f b o e fun z2 => z (.inl (k.plM b z2)))
  have oldA : ∀ {vs ds}, RepA W M H vs ds → RepA W (fun a => M a ∨ a = q) H' vs ds := fun h => ⟨h.1, fun i v d e1 e2 => old (h.2 i v d e1 e2)⟩
  
  refine ⟨by simp [k.len], fun j e h => ?_, fun j e h => ?_, fun a b ds es t h1 h2 h3 h4 => ?_, fun a h => .inl (k.base a h), fun a h => ?_, fun t e => ⟨(k.pool t e).1, p t e⟩, k.cl _ _ _ _ k.phi ⟨fun b o e _ h => f b o e h, sub, fun a h => .inl (k.base a h)⟩, k.cl⟩
  · rcases get_set h with ⟨rfl, e1, hl⟩ | ⟨ne, h⟩
    · simp at e1
    · obtain ⟨v, e1, r1⟩ := k.dat j e h
      exact ⟨v, by rw [List.getElem?_set_ne ne]; exact e1, old r1⟩
  · rcases get_set h with ⟨rfl, e1, hl⟩ | ⟨ne, h⟩
    · obtain rfl : e = ds := by simpa using e1
      exact ⟨q, vs, by rw [List.getElem?_set_self (by rw [k.len]; exact hl)], .inr rfl, nB, hq, r⟩
    · obtain ⟨t, us, e1, h1, h2, h3, h4⟩ := k.own j e h
      exact ⟨t, us, by rw [List.getElem?_set_ne ne]; exact e1, .inl h1, h2, f _ _ h3 (fun z => h2 (k.pool t z).1), oldA h4⟩
  · have own1 : ∀ {j : Nat} {es : List DV}, δ[j]? = some (some (.own es)) → σ[j]? = some (some (.ref t)) → t ≠ q := fun {j es} h g z => by
      obtain ⟨t2, us, e1, _, _, h5, _⟩ := k.own j es h
      rw [e1] at g
      obtain rfl : t2 = t := by simpa using g
      rw [z, nq] at h5
      cases h5
    rcases get_set h1 with ⟨rfl, e1, hl⟩ | ⟨ne, h1⟩
    · rw [List.getElem?_set_self (by rw [k.len]; exact hl)] at h3
      obtain rfl : q = t := by simpa using h3
      rcases get_set h2 with ⟨e2, _, _⟩ | ⟨ne2, h2⟩
      · exact e2
      · rw [List.getElem?_set_ne ne2] at h4
        exact absurd rfl (own1 h2 h4)
    · rw [List.getElem?_set_ne ne] at h3
      rcases get_set h2 with ⟨rfl, e2, hl⟩ | ⟨ne2, h2⟩
      · rw [List.getElem?_set_self (by rw [k.len]; exact hl)] at h4
        obtain rfl : q = t := by simpa using h4
        exact absurd rfl (own1 h1 h3)
      · rw [List.getElem?_set_ne ne2] at h4
        exact k.apart a b _ _ t h1 h2 h3 h4
  · rcases h with h | h
    · exact dom_fr f p (k.dom a h)
    · rw [h]
      exact ⟨_, hq⟩
/-- one's own list at slot i is written -/
theorem Ok.write (k : Ok W B Φ M σ H δ n) {i : Nat} {q : Addr} {vs : List V} {ds ds' : List DV} (e : δ[i]? = some (some (.own ds))) (s : σ[i]? = some (some (.ref q))) (r : RepA W M H vs ds') :
    Ok W B Φ M σ (upd H q (.lst vs)) (δ.set i (some (.own ds'))) n := by
  obtain ⟨q2, us, e1, hM, hB, hq, r0⟩ := k.own i ds e
  rw [s] at e1
  obtain rfl : q = q2 := by simpa using e1
  have hi : i < δ.length := (List.getElem?_eq_some_iff.mp e).1
  have f : FrS M H (upd H q (.lst vs)) := FrS.refl.upd (.inr hM)
  refine ⟨by simp [k.len], fun j d h => ?_, fun j es h => ?_, fun a b ds es t h1 h2 h3 h4 => ?_, k.base, fun a h => ?_, fun t e => ⟨(k.pool t e).1, ?_⟩, k.cl _ _ _ _ k.phi ⟨fun b o e n _ => ?_, fun a h => .inl h, k.base⟩, k.cl⟩
  · rcases get_set h with ⟨rfl, e1, hl⟩ | ⟨ne, h⟩
    · simp at e1
    · obtain ⟨v, e1, r1⟩ := k.dat j d h
      exact ⟨v, e1, r1.mono f⟩
  · rcases get_set h with ⟨rfl, e1, hl⟩ | ⟨ne, h⟩
    · obtain rfl : es = ds' := by simpa using e1
      exact ⟨q, vs, s, hM, hB, upd_same, r.mono f⟩
    · obtain ⟨t, us, e1, h1, h2, h3, h4⟩ := k.own j es h
      have tq : t ≠ q := fun z => ne (k.apart i j ds es q e h s (by rw [e1, z]))
      exact ⟨t, us, e1, h1, h2, by rw [upd_ne tq]; exact h3, h4.mono f⟩
  · have back : ∀ {j : Nat} {es : List DV}, (δ.set i (some (SV.own ds')))[j]? = some (some (.own es)) → ∃ fs, δ[j]? = some (some (.own fs)) := fun {j es} h => by
      rcases get_set h with ⟨rfl, _, _⟩ | ⟨_, h⟩
      · exact ⟨_, e⟩
      · exact ⟨_, h⟩
    obtain ⟨_, h1⟩ := back h1
    obtain ⟨_, h2⟩ := back h2
    exact k.apart a b _ _ t h1 h2 h3 h4
  · by_cases z : a = q
    · rw [z]
      exact ⟨_, upd_same⟩
    · obtain ⟨us, e2⟩ := k.dom a h
      exact ⟨us, by rw [upd_ne z]; exact e2⟩
  · have tq : t ≠ q := fun z => hB (by rw [← z]; exact (k.pool t e).1)
    exact (k.pool t e).2.upd_ne tq
  · rw [upd_ne]
    · exact e
    · intro z
      exact n (by rw [z]; exact ⟨hM, hB⟩)
/-- one's own list is written no more -/
theorem Ok.frz (k : Ok W B Φ M σ H δ n) {i : Nat} {ds : List DV} (e : δ[i]? = some (some (.own ds))) : ∃ M', Ok W B Φ M' σ H (δ.set i (some (.dat (.lst ds)))) n := by
  obtain ⟨q, vs, s, hM, hB, hq, r⟩ := k.own i ds e
  have hi : i < δ.length := (List.getElem?_eq_some_iff.mp e).1
  have sub : ∀ a, (M a ∧ a ≠ q) → M a ∨ H a = none := fun a h => .inl h.1
  refine ⟨fun a => M a ∧ a ≠ q, by simp [k.len], fun j d h => ?_, fun j es h => ?_, fun a b fs es t h1 h2 h3 h4 => ?_, fun a h => ⟨k.base a h, fun z => hB (by rw [← z]; exact h)⟩, fun a h => k.dom a h.1, k.pool, k.cl _ _ _ _ k.phi ⟨fun b o e n _ => e, sub, fun a h => ⟨k.base a h, fun z => hB (by rw [← z]; exact h)⟩⟩, k.cl⟩
  · rcases get_set h with ⟨rfl, e1, hl⟩ | ⟨ne, h⟩
    · obtain rfl : d = .lst ds := by simpa using e1
      have r2 := r.sub sub
      exact ⟨.ref q, s, .lst hq (fun z => z.2 rfl) r2.1 r2.2⟩
    · obtain ⟨v, e1, r1⟩ := k.dat j d h
      exact ⟨v, e1, r1.sub sub⟩
  · rcases get_set h with ⟨rfl, e1, hl⟩ | ⟨ne, h⟩
    · simp at e1
    · obtain ⟨t, us, e1, h1, h2, h3, h4⟩ := k.own j es h
      have tq : t ≠ q := fun z => ne (k.apart i j ds es q e h s (by rw [e1, z]))
      exact ⟨t, us, e1, ⟨h1, tq⟩, h2, h3, h4.sub sub⟩
  · have back : ∀ {j : Nat} {es : List DV}, (δ.set i (some (SV.dat (.lst ds))))[j]? = some (some (.own es)) → δ[j]? = some (some (.own es)) := fun {j es} h => by
      rcases get_set h with ⟨rfl, e1, _⟩ | ⟨_, h⟩
      · simp at e1
      · exact h
    exact k.apart a b _ _ t (back h1) (back h2) h3 h4
/-- a wider wish about the heap -/
theorem Ok.more (k : Ok W B Φ M σ H δ n) (Ψ : (Addr → Prop) → Hp → Prop) (h : Ψ M H) (c : ∀ M H M' H', Ψ M H → Later W B M H M' H' → Ψ M' H') : Ok W B (fun M H => Φ M H ∧ Ψ M H) M σ H δ n :=
  ⟨k.len, k.dat, k.own, k.apart, k.base, k.dom, k.pool, ⟨k.phi, h⟩, fun M H M' H' q l => ⟨k.cl _ _ _ _ q.1 l, c _ _ _ _ q.2 l⟩⟩
theorem Ok.less {Ψ : (Addr → Prop) → Hp → Prop} (k : Ok W B (fun M H => Φ M H ∧ Ψ M H) M σ H δ n) (c : ∀ M H M' H', Φ M H → Later W B M H M' H' → Φ M' H') : Ok W B Φ M σ H δ n :=
  ⟨k.len, k.dat, k.own, k.apart, k.base, k.dom, k.pool, k.phi.1, c⟩
/-- what stood at some time, apart from what was then changing -/
def Sin (M1 : Addr → Prop) (H1 : Hp) : (Addr → Prop) → Hp → Prop := fun M H => FrS M1 H1 H ∧ (∀ a, M a → M1 a ∨ H1 a = none)
theorem sin_cl {M1 : Addr → Prop} {H1 : Hp} (b1 : ∀ a, B a → M1 a) (pb : ∀ a, W.p = some a → B a) : ∀ M H M' H', Sin M1 H1 M H → Later W B M H M' H' → Sin M1 H1 M' H' := fun M H M' H' ⟨f, s⟩ ⟨l1, l2, _⟩ =>
  ⟨fun b o e n => l1 b o (f b o e n) (fun z => by
      rcases s b z.1 with q | q
      · exact n q
      · rw [q] at e
        cases e) (fun z => n (b1 b (pb b z))), fun a h => by
    rcases l2 a h with q | q
    · exact s a q
    · by_cases z : M1 a
      · exact .inl z
      · refine .inr ?_
        cases e : H1 a with
        | none => rfl
        | some o =>
          rw [f a o e z] at q
          cases q⟩
end

/-! ### readings without a heap: expressions -/
abbrev TD := En → Nat → (DV → Nat → Prop) → Prop
abbrev TDA := En → Nat → (List DV → Nat → Prop) → Prop
abbrev TDT := En → Nat → (Bool → Nat → Prop) → Prop
abbrev WPhi := (Addr → Prop) → Hp → Prop
def TrE (W : Wo) (t : TE) (d : TD) : Prop := ∀ (B : Addr → Prop) (Φ : WPhi) (M : Addr → Prop) (σ : L2.St) (H : Hp) (δ : En) (n : Nat) (Q : VK) (K : DV → Nat → Prop), Ok W B Φ M σ H δ n →
  (∀ r m v H', FrS (pl W) H H' → Pl W H' m → Rep W M H' v r → K r m → Q v H') → d δ n K → t σ H Q
def TrA (W : Wo) (t : TA) (d : TDA) : Prop := ∀ (B : Addr → Prop) (Φ : WPhi) (M : Addr → Prop) (σ : L2.St) (H : Hp) (δ : En) (n : Nat) (Q : List V → Hp → Prop) (K : List DV → Nat → Prop), Ok W B Φ M σ H δ n →
  (∀ r m v H', FrS (pl W) H H' → Pl W H' m → RepA W M H' v r → K r m → Q v H') → d δ n K → t σ H Q
def TrT (W : Wo) (t : TT) (d : TDT) : Prop := ∀ (B : Addr → Prop) (Φ : WPhi) (M : Addr → Prop) (σ : L2.St) (H : Hp) (δ : En) (n : Nat) (Q : Bool → Hp → Prop) (K : Bool → Nat → Prop), Ok W B Φ M σ H δ n →
  (∀ b m H', FrS (pl W) H H' → Pl W H' m → K b m → Q b H') → d δ n K → t σ H Q
/-- a new list -/
def TrF (W : Wo) (t : TE) (d : TDA) : Prop := ∀ (B : Addr → Prop) (Φ : WPhi) (M : Addr → Prop) (σ : L2.St) (H : Hp) (δ : En) (n : Nat) (Q : VK) (K : List DV → Nat → Prop), Ok W B Φ M σ H δ n →
  (∀ r m q vs H', FrS (pl W) H H' → Pl W H' m → H q = none → H' q = some (.lst vs) → RepA W (fun a => M a ∨ a = q) H' vs r → K r m → Q (.ref q) H') → d δ n K → t σ H Q
/-- a list that is read -/
def TrQ (W : Wo) (t : TE) (d : TDA) : Prop := ∀ (B : Addr → Prop) (Φ : WPhi) (M : Addr → Prop) (σ : L2.St) (H : Hp) (δ : En) (n : Nat) (Q : VK) (K : List DV → Nat → Prop), Ok W B Φ M σ H δ n →
  (∀ r m q vs H', FrS (pl W) H H' → Pl W H' m → H' q = some (.lst vs) → ¬ B q → RepA W M H' vs r → K r m → Q (.ref q) H') → d δ n K → t σ H Q
structure DE (X : Cx) (W : Wo) (e : Expr) (t : TE) (d : TD) : Prop where
  pe : PE X e t
  tr : TrE W t d
structure DF (X : Cx) (W : Wo) (e : Expr) (t : TE) (d : TDA) : Prop where
  pe : PE X e t
  tr : TrF W t d
structure DQ (X : Cx) (W : Wo) (e : Expr) (t : TE) (d : TDA) : Prop where
  pe : PE X e t
  tr : TrQ W t d
structure DA (X : Cx) (W : Wo) (es : List Expr) (t : TA) (d : TDA) : Prop where
  pa : PA X es t
  tr : TrA W t d
structure DT (X : Cx) (W : Wo) (e : Expr) (t : TT) (d : TDT) : Prop where
  pt : PT X e t
  tr : TrT W t d
structure DW (X : Cx) (W : Wo) (e : Expr) (t : TT) (d : TDT) : Prop where
  pw : PW X e t
  tr : TrT W t d
def DV.asI : DV → (Int → Prop) → Prop
  | .int i, k => k i
  | _, _ => False
def DV.asB : DV → (Bool → Prop) → Prop
  | .bl i, k => k i
  | _, _ => False
def DV.asL : DV → (List DV → Prop) → Prop
  | .lst i, k => k i
  | _, _ => False
def DV.asT : DV → (List DV → Prop) → Prop
  | .tup i, k => k i
  | _, _ => False
theorem DV.asI_inv {d : DV} {k : Int → Prop} (h : d.asI k) : ∃ i, d = .int i ∧ k i := by cases d <;> first | exact ⟨_, rfl, h⟩ | exact h.elim
theorem DV.asB_inv {d : DV} {k : Bool → Prop} (h : d.asB k) : ∃ i, d = .bl i ∧ k i := by cases d <;> first | exact ⟨_, rfl, h⟩ | exact h.elim
theorem DV.asL_inv {d : DV} {k : List DV → Prop} (h : d.asL k) : ∃ i, d = .lst i ∧ k i := by cases d <;> first | exact ⟨_, rfl, h⟩ | exact h.elim
theorem DV.asT_inv {d : DV} {k : List DV → Prop} (h : d.asT k) : ∃ i, d = .tup i ∧ k i := by cases d <;> first | exact ⟨_, rfl, h⟩ | exact h.elim
def dvar (δ : En) (i : Nat) (k : DV → Prop) : Prop := match δ[i]? with
  | some (some (.dat d)) => k d
  | _ => False
def down (δ : En) (i : Nat) (k : List DV → Prop) : Prop := match δ[i]? with
  | some (some (.own ds)) => k ds
  | _ => False
theorem dvar_inv {δ : En} {i : Nat} {k : DV → Prop} (h : dvar δ i k) : ∃ d, δ[i]? = some (some (.dat d)) ∧ k d := by
  unfold dvar at h
  split at h
  · exact ⟨_, by assumption, h⟩
  · exact h.elim
theorem down_inv {δ : En} {i : Nat} {k : List DV → Prop} (h : down δ i k) : ∃ d, δ[i]? = some (some (.own d)) ∧ k d := by
  unfold down at h
  split at h
  · exact ⟨_, by assumption, h⟩
  · exact h.elim
def dVar (i : Nat) : TD := fun δ n K => dvar δ i fun d => K d n
def dOwn (i : Nat) : TDA := fun δ n K => down δ i fun d => K d n
def dC (d : DV) : TD := fun _ n K => K d n
def dL (d : TD) : TDA := fun δ n K => d δ n fun x m => x.asL fun ds => K ds m
def dFE (d : TDA) : TD := fun δ n K => d δ n fun ds m => K (.lst ds) m
def dNil : TDA := fun _ n K => K [] n
def dCons (a : TD) (b : TDA) : TDA := fun δ n K => a δ n fun x m => b δ m fun xs k => K (x :: xs) k
def dOp (f : DV → DV → (DV → Prop) → Prop) (a b : TD) : TD := fun δ n K => a δ n fun x m => b δ m fun y k => f x y fun z => K z k
def dUn (f : DV → (DV → Prop) → Prop) (a : TD) : TD := fun δ n K => a δ n fun x m => f x fun z => K z m
def dTup (a : TDA) : TD := fun δ n K => a δ n fun xs m => xs.length ≤ 1000 ∧ K (.tup xs) m
def dLst (a : TDA) : TDA := fun δ n K => a δ n fun xs m => xs.length ≤ 1000 ∧ K xs m
section
variable {X : Cx} {W : Wo} {e a b : Expr} {es : List Expr} {t ta tb : TE} {d da db : TD} {pos : Pos} {tA : TA} {dA : TDA}
theorem trE_var (i : Nat) : TrE W (tVar i) (dVar i) := fun B Φ M σ H δ n Q K ok c h => by
  obtain ⟨d, e, h⟩ := dvar_inv h
  obtain ⟨v, e1, r⟩ := ok.dat i d e
  exact ⟨v, e1, c _ _ _ _ .refl ok.plOf r h⟩
theorem trE_c {v : V} {d : DV} (h : ∀ M H, Rep W M H v d) : TrE W (tC v) (dC d) := fun B Φ M σ H δ n Q K ok c q => c _ _ _ _ .refl ok.plOf (h M H) q
theorem trF_E {t : TE} {d : TDA} (h : TrF W t d) : TrE W t (dFE d) := fun B Φ M σ H δ n Q K ok c q =>
  h B Φ M σ H δ n Q _ ok (fun r m a vs H' f p n1 h1 ra k => c _ _ _ _ f p (.lst h1 (fun z => (ok.dom a z).ne n1) ra.1 (ra.sub fun b z => .inl (.inl z)).2) k) q
theorem trE_Q {t : TE} {d : TD} (h : TrE W t d) : TrQ W t (dL d) := fun B Φ M σ H δ n Q K ok c q =>
  h B Φ M σ H δ n Q _ ok (fun r m v H' f p ra k => by
    obtain ⟨ds, rfl, k⟩ := DV.asL_inv k
    obtain ⟨a, vs, rfl, h1, h2, h3⟩ := ra.lst_inv
    exact c _ _ _ _ _ f p h1 (fun z => h2 (ok.base a z)) h3 k) q
theorem trQ_own (i : Nat) : TrQ W (tVar i) (dOwn i) := fun B Φ M σ H δ n Q K ok c h => by
  obtain ⟨d, e, h⟩ := down_inv h
  obtain ⟨q, vs, e1, h1, h2, h3, h4⟩ := ok.own i d e
  exact ⟨.ref q, e1, c _ _ _ _ _ .refl ok.plOf h3 h2 h4 h⟩
theorem dv (i : Nat) {x : Str} {pos : Pos} (hN : X.N[i]? = some x := by rfl) (hv : Vis X.env.scope x := by first | exact Or.inl rfl | exact Or.inr (Or.inl rfl) | exact Or.inr (Or.inr rfl)) (hd : (x == ("__debug__" : Str)) = false := by decide)
    (hcd : (x == ("__classdict__" : Str)) = false := by decide) : DE X W (.Name x pos) (tVar i) (dVar i) := ⟨pe_var hN hv hd hcd, trE_var i⟩
theorem do_ (i : Nat) {x : Str} {pos : Pos} (hN : X.N[i]? = some x := by rfl) (hv : Vis X.env.scope x := by first | exact Or.inl rfl | exact Or.inr (Or.inl rfl) | exact Or.inr (Or.inr rfl)) (hd : (x == ("__debug__" : Str)) = false := by decide)
    (hcd : (x == ("__classdict__" : Str)) = false := by decide) : DQ X W (.Name x pos) (tVar i) (dOwn i) := ⟨pe_var hN hv hd hcd, trQ_own i⟩
theorem de_int {i j pos} : DE X W (.Constant (.int i) j pos) (tC (.int i)) (dC (.int i)) := ⟨pe_int, trE_c fun _ _ => .int i⟩
theorem de_bl {b j pos} : DE X W (.Constant (.bool b) j pos) (tC (.bl b)) (dC (.bl b)) := ⟨pe_bl, trE_c fun _ _ => .bl b⟩
theorem de_non {j pos} : DE X W (.Constant .none j pos) (tC .non) (dC .non) := ⟨pe_non, trE_c fun _ _ => .non⟩
theorem de_str {x j pos} : DE X W (.Constant (.str x) j pos) (tC (.str x)) (dC (.str x)) := ⟨pe_str, trE_c fun _ _ => .str x⟩
theorem de_f {t : TE} {d : TDA} (h : DF X W e t d) : DE X W e t (dFE d) := ⟨h.pe, trF_E h.tr⟩
theorem dq {t : TE} {d : TD} (h : DE X W e t d) : DQ X W e t (dL d) := ⟨h.pe, trE_Q h.tr⟩
theorem da_nil : DA X W [] tNil dNil := ⟨pa_nil, fun B Φ M σ H δ n Q K ok c h => c _ _ _ _ .refl ok.plOf .nil h⟩
theorem da_cons (ha : DE X W e t d) (hr : DA X W es tA dA) (hs : starEach (e :: es) X.env = (false, eval e X.env) :: starEach es X.env := by rfl) : DA X W (e :: es) (tCons t tA) (dCons d dA) :=
  ⟨pa_cons ha.pe hr.pa hs, fun B Φ M σ H δ n Q K ok c h => ha.tr B Φ M σ H δ n _ _ ok (fun r m v H1 f p ra h => hr.tr B Φ M σ H1 δ m _ _ (ok.expr f p) (fun rs k vs H2 f2 p2 rb h =>
    c _ _ _ _ (f.trans f2) p2 (.cons (ra.mono (ok.frM f2)) rb) h) h) h⟩
theorem repA_new {M : Addr → Prop} {H : Hp} {q : Addr} {o : HO} {vs : List V} {ds : List DV} (r : RepA W M H vs ds) (h : H q = none) : RepA W (fun a => M a ∨ a = q) (upd H q o) vs ds :=
  (r.sub fun a z => z.imp id fun e => by rw [e]; exact h).mono (FrS.refl.upd (.inl h))
theorem pl_new {H : Hp} {q : Addr} {o : HO} {n : Nat} (p : Pl W H n) (h : H q = none) : Pl W (upd H q o) n := fun a e => (p a e).new h
theorem none_fr {H H' : Hp} {n : Nat} {q : Addr} (f : FrS (pl W) H H') (p : Pl W H' n) (h : H' q = none) : H q = none := by
  cases e : H q with
  | none => rfl
  | some o =>
    by_cases z : W.p = some q
    · obtain ⟨a, b, c, hw, _⟩ := p q z
      rw [hw] at h
      cases h
    · rw [f q o e z] at h
      cases h
theorem le_size {n : Nat} (h : n ≤ 1000) : n ≤ sizeLine := Nat.le_trans h (by decide)
theorem df_lst (h : DA X W es tA dA) : DF X W (.List es pos) (tLst tA) (dLst dA) := ⟨pe_lst h.pa, fun B Φ M σ H δ n Q K ok c q => h.tr B Φ M σ H δ n _ _ ok (fun r m v H' f p ra k =>
  ⟨by rw [ra.1]; exact le_size k.1, fun a na => c _ _ _ _ _ (f.upd (.inl (none_fr f p na))) (pl_new p na) (none_fr f p na) upd_same (repA_new ra na) k.2⟩) q⟩
theorem de_tup {x1} (h : DA X W es tA dA) : DE X W (.Tuple es x1 pos) (tTup tA) (dTup dA) := ⟨pe_tup h.pa, fun B Φ M σ H δ n Q K ok c q => h.tr B Φ M σ H δ n _ _ ok (fun r m v H' f p ra k => by
  refine ⟨by rw [ra.1]; exact le_size k.1, fun a na => ?_⟩
  have na0 := none_fr f p na
  have r2 := ra.mono (H' := upd H' a (.tup v)) (FrS.refl.upd (.inl na))
  exact c _ _ _ _ (f.upd (.inl na0)) (pl_new p na) (.tup upd_same (fun z => (ok.dom a z).ne na0) r2.1 r2.2) k.2) q⟩
def RdOp (W : Wo) (r : R2) (f : DV → DV → (DV → Prop) → Prop) : Prop := ∀ (M : Addr → Prop) (H : Hp) (x y : V) (dx dy : DV) (Q : VK) (K : DV → Prop), (∀ a, M a → IsL H a) → Rep W M H x dx → Rep W M H y dy →
  (∀ z v H', Same H H' → Rep W M H' v z → K z → Q v H') → f dx dy K → r x y H Q
theorem pl_same {H H' : Hp} {n : Nat} (p : Pl W H n) (s : Same H H') : Pl W H' n := fun a e => (p a e).same s
theorem trE_op {r : R2} {f : DV → DV → (DV → Prop) → Prop} (hr : RdOp W r f) (ha : TrE W ta da) (hb : TrE W tb db) : TrE W (tOp r ta tb) (dOp f da db) := fun B Φ M σ H δ n Q K ok c h =>
  ha B Φ M σ H δ n _ _ ok (fun x m v H1 f1 p1 r1 h => hb B Φ M σ H1 δ m _ _ (ok.expr f1 p1) (fun y k u H2 f2 p2 r2 h =>
    hr M H2 v u x y Q (fun z => K z k) (fun a z => dom_fr (f1.trans f2) p2 (ok.dom a z)) (r1.mono (ok.frM f2)) r2 (fun z w H3 s r3 q => c _ _ _ _ ((f1.trans f2).trans (.of s)) (pl_same p2 s) r3 q) h) h) h
theorem de_op {op : Operator} {r : R2} {f : DV → DV → (DV → Prop) → Prop} (ho : OpR X (binaryOp op) r) (hr : RdOp W r f) (ha : DE X W a ta da) (hb : DE X W b tb db) : DE X W (.BinOp a op b pos) (tOp r ta tb) (dOp f da db) :=
  ⟨pe_op ho ha.pe hb.pe, trE_op hr ha.tr hb.tr⟩
theorem de_cmp {op : CmpOp} {r : R2} {f : DV → DV → (DV → Prop) → Prop} (ho : OpR X (compareOp op) r) (hr : RdOp W r f) (ha : DE X W a ta da) (hb : DE X W b tb db) (hm : behindInMarks op b = false := by exact nomark _) : DE X W (.Compare a [op] [b] pos) (tOp r ta tb) (dOp f da db) :=
  ⟨pe_cmpR ho ha.pe hb.pe hm, trE_op hr ha.tr hb.tr⟩
def RdUn (W : Wo) (r : V → Hp → VK → Prop) (f : DV → (DV → Prop) → Prop) : Prop := ∀ (M : Addr → Prop) (H : Hp) (x : V) (dx : DV) (Q : VK) (K : DV → Prop), (∀ a, M a → IsL H a) → Rep W M H x dx →
  (∀ z v H', Same H H' → Rep W M H' v z → K z → Q v H') → f dx K → r x H Q
theorem de_un {op : UnaryOp} {r : V → Hp → VK → Prop} {f : DV → (DV → Prop) → Prop} (ho : UnR X (unaryOp op) r) (hr : RdUn W r f) (ha : DE X W a ta da) : DE X W (.UnaryOp op a pos) (tUn r ta) (dUn f da) :=
  ⟨pe_un ho ha.pe, fun B Φ M σ H δ n Q K ok c h => ha.tr B Φ M σ H δ n _ _ ok (fun x m v H1 f1 p1 r1 h =>
    hr M H1 v x Q (fun z => K z m) (fun a z => dom_fr f1 p1 (ok.dom a z)) r1 (fun z w H3 s r3 q => c _ _ _ _ (f1.trans (.of s)) (pl_same p1 s) r3 q) h) h⟩
/-- two ints in -/
def fI (C : Int → Int → Prop) (g : Int → Int → DV) : DV → DV → (DV → Prop) → Prop := fun x y K => x.asI fun i => y.asI fun j => C i j ∧ K (g i j)
def fI0 (g : Int → Int → DV) : DV → DV → (DV → Prop) → Prop := fun x y K => x.asI fun i => y.asI fun j => K (g i j)
theorem rd_I {C : Int → Int → Prop} {g : Int → Int → Int} : RdOp W (rI C fun i j => .int (g i j)) (fI C fun i j => .int (g i j)) := fun M H x y dx dy Q K _ hx hy c h => by
  obtain ⟨i, rfl, h1⟩ := DV.asI_inv h
  obtain ⟨j, rfl, h⟩ := DV.asI_inv h1
  exact ⟨i, j, hx.int_inv, hy.int_inv, h.1, c _ _ _ (fun _ _ e => e) (.int _) h.2⟩
theorem rd_I0 {g : Int → Int → Int} : RdOp W (rI0 fun i j => .int (g i j)) (fI0 fun i j => .int (g i j)) := fun M H x y dx dy Q K _ hx hy c h => by
  obtain ⟨i, rfl, h1⟩ := DV.asI_inv h
  obtain ⟨j, rfl, h⟩ := DV.asI_inv h1
  exact ⟨i, j, hx.int_inv, hy.int_inv, c _ _ _ (fun _ _ e => e) (.int _) h⟩
theorem rd_B0 {g : Int → Int → Bool} : RdOp W (rI0 fun i j => .bl (g i j)) (fI0 fun i j => .bl (g i j)) := fun M H x y dx dy Q K _ hx hy c h => by
  obtain ⟨i, rfl, h1⟩ := DV.asI_inv h
  obtain ⟨j, rfl, h⟩ := DV.asI_inv h1
  exact ⟨i, j, hx.int_inv, hy.int_inv, c _ _ _ (fun _ _ e => e) (.bl _) h⟩
def fU (g : Int → Int) : DV → (DV → Prop) → Prop := fun x K => x.asI fun i => K (.int (g i))
theorem rd_U {g : Int → Int} : RdUn W (rU fun i => .int (g i)) (fU g) := fun M H x dx Q K _ hx c h => by
  obtain ⟨i, rfl, h⟩ := DV.asI_inv h
  exact ⟨i, hx.int_inv, c _ _ _ (fun _ _ e => e) (.int _) h⟩
/-- scalars compared -/
def DV.sc : DV → Option V
  | .int i => some (.int i)
  | .bl b => some (.bl b)
  | .str s => some (.str s)
  | .non => some .non
  | _ => none
def fEq : DV → DV → (DV → Prop) → Prop := fun x y K => match x.sc, y.sc with
  | some u, some v => scal u v = true ∧ K (.bl (decide (u = v)))
  | _, _ => False
def fNe : DV → DV → (DV → Prop) → Prop := fun x y K => match x.sc, y.sc with
  | some u, some v => scal u v = true ∧ K (.bl (!decide (u = v)))
  | _, _ => False
theorem Rep.sc_inv {M : Addr → Prop} {H : Hp} {v : V} {d : DV} {u : V} (h : Rep W M H v d) (e : d.sc = some u) : v = u := by
  cases h <;> simp [DV.sc] at e <;> exact e
theorem rd_Eq : RdOp W rEq fEq := fun M H x y dx dy Q K _ hx hy c h => by
  unfold fEq at h
  split at h
  · rename_i u v e1 e2
    rw [hx.sc_inv e1, hy.sc_inv e2]
    exact ⟨h.1, c _ _ _ (fun _ _ e => e) (.bl _) h.2⟩
  · exact h.elim
theorem rd_Ne : RdOp W rNe fNe := fun M H x y dx dy Q K _ hx hy c h => by
  unfold fNe at h
  split at h
  · rename_i u v e1 e2
    rw [hx.sc_inv e1, hy.sc_inv e2]
    exact ⟨h.1, c _ _ _ (fun _ _ e => e) (.bl _) h.2⟩
  · exact h.elim
def DV.isN : DV → Bool
  | .non => true
  | _ => false
def fIsN : DV → DV → (DV → Prop) → Prop := fun x y K => y.isN = true ∧ K (.bl x.isN)
def fNotN : DV → DV → (DV → Prop) → Prop := fun x y K => y.isN = true ∧ K (.bl (!x.isN))
theorem Rep.isN {M : Addr → Prop} {H : Hp} {v : V} {d : DV} (h : Rep W M H v d) : decide (v = .non) = d.isN := by cases h <;> rfl
theorem rd_IsN : RdOp W (fun x y H Q => y = .non ∧ Q (.bl (decide (x = .non))) H) fIsN := fun M H x y dx dy Q K _ hx hy c h => by
  refine ⟨of_decide_eq_true (by rw [hy.isN]; exact h.1), ?_⟩
  rw [hx.isN]
  exact c _ _ _ (fun _ _ e => e) (.bl _) h.2
theorem rd_NotN : RdOp W (fun x y H Q => y = .non ∧ Q (.bl (!decide (x = .non))) H) fNotN := fun M H x y dx dy Q K _ hx hy c h => by
  refine ⟨of_decide_eq_true (by rw [hy.isN]; exact h.1), ?_⟩
  rw [hx.isN]
  exact c _ _ _ (fun _ _ e => e) (.bl _) h.2
/-! index, length and the like -/
theorem atI_rel {M : Addr → Prop} {H : Hp} {vs : List V} {ds : List DV} {i : Int} {d : DV} (h : RepA W M H vs ds) (e : atI ds i = some d) : ∃ v, atI vs i = some v ∧ Rep W M H v d := by
  unfold atI at e ⊢
  rw [h.1]
  cases z : ixN ds.length i with
  | none => rw [z] at e; cases e
  | some j =>
    rw [z] at e
    exact h.get e
def dIxL (a : TDA) (b : TD) : TD := fun δ n K => a δ n fun ds m => b δ m fun y k => y.asI fun i => ∃ z, atI ds i = some z ∧ K z k
def dIxT (a b : TD) : TD := fun δ n K => a δ n fun x m => b δ m fun y k => x.asT fun ds => y.asI fun i => ∃ z, atI ds i = some z ∧ K z k
theorem de_ixL {dQ : TDA} (ha : DQ X W a ta dQ) (hb : DE X W b tb db) (hs : PlainIx b := by exact fun _ _ => rfl) : DE X W (.Subscript a b pos) (tOp (rIxL X.K) ta tb) (dIxL dQ db) :=
  ⟨pe_ix ix_list ha.pe hb.pe hs, fun B Φ M σ H δ n Q K ok c h => ha.tr B Φ M σ H δ n _ _ ok (fun ds m q vs H1 f1 p1 hq nb ra h => hb.tr B Φ M σ H1 δ m _ _ (ok.expr f1 p1) (fun y k u H2 f2 p2 r2 h => by
    obtain ⟨i, rfl, z, e, h⟩ := DV.asI_inv h
    have hq2 : H2 q = some (.lst vs) := f2 _ _ hq fun z => nb (ok.pool q z).1
    obtain ⟨v, e1, r1⟩ := atI_rel (ra.mono (ok.frM f2)) e
    exact ⟨q, vs, i, v, rfl, r2.int_inv, SqL.of hq2, e1, c _ _ _ _ (f1.trans f2) p2 r1 h⟩) h) h⟩
theorem de_ixT (ha : DE X W a ta da) (hb : DE X W b tb db) (hs : PlainIx b := by exact fun _ _ => rfl) : DE X W (.Subscript a b pos) (tOp (rIxT X.K) ta tb) (dIxT da db) :=
  ⟨pe_ix ix_tup ha.pe hb.pe hs, fun B Φ M σ H δ n Q K ok c h => ha.tr B Φ M σ H δ n _ _ ok (fun x m v H1 f1 p1 ra h => hb.tr B Φ M σ H1 δ m _ _ (ok.expr f1 p1) (fun y k u H2 f2 p2 r2 h => by
    obtain ⟨ds, rfl, h1⟩ := DV.asT_inv h
    obtain ⟨i, rfl, z, e, h⟩ := DV.asI_inv h1
    obtain ⟨q, vs, rfl, hq, nq, r3⟩ := (ra.mono (ok.frM f2)).tup_inv
    obtain ⟨v, e1, r1⟩ := atI_rel r3 e
    exact ⟨q, vs, i, v, rfl, r2.int_inv, SqT.of hq, e1, c _ _ _ _ (f1.trans f2) p2 r1 h⟩) h) h⟩
/-- a built-in over one list -/
def RdQ (W : Wo) (r : List V → Hp → VK → Prop) (f : List DV → (DV → Prop) → Prop) : Prop := ∀ (M : Addr → Prop) (H : Hp) (q : Addr) (vs : List V) (ds : List DV) (Q : VK) (K : DV → Prop), (∀ a, M a → IsL H a) → H q = some (.lst vs) → RepA W M H vs ds →
  (∀ z v H', Same H H' → Rep W M H' v z → K z → Q v H') → f ds K → r [.ref q] H Q
/-- .. that gives a new list -/
def RdQF (W : Wo) (r : List V → Hp → VK → Prop) (f : List DV → (List DV → Prop) → Prop) : Prop := ∀ (M : Addr → Prop) (H : Hp) (q : Addr) (vs : List V) (ds : List DV) (Q : VK) (K : List DV → Prop), (∀ a, M a → IsL H a) → H q = some (.lst vs) → RepA W M H vs ds →
  (∀ zs us p, H p = none → RepA W M H us zs → K zs → Q (.ref p) (upd H p (.lst us))) → f ds K → r [.ref q] H Q
/-- a built-in over values -/
def RdC (W : Wo) (r : List V → Hp → VK → Prop) (f : List DV → (DV → Prop) → Prop) : Prop := ∀ (M : Addr → Prop) (H : Hp) (vs : List V) (ds : List DV) (Q : VK) (K : DV → Prop), (∀ a, M a → IsL H a) → RepA W M H vs ds →
  (∀ z v H', Same H H' → Rep W M H' v z → K z → Q v H') → f ds K → r vs H Q
def dCQ (f : List DV → (DV → Prop) → Prop) (a : TDA) : TD := fun δ n K => a δ n fun ds m => f ds fun z => K z m
def dCQF (f : List DV → (List DV → Prop) → Prop) (a : TDA) : TDA := fun δ n K => a δ n fun ds m => f ds fun z => K z m
theorem trE_Q1 {r : List V → Hp → VK → Prop} {f : List DV → (DV → Prop) → Prop} (hr : RdQ W r f) (ha : TrQ W ta dA) : TrE W (tCB r (tCons ta tNil)) (dCQ f dA) := fun B Φ M σ H δ n Q K ok c h =>
  ha B Φ M σ H δ n _ _ ok (fun ds m q vs H1 f1 p1 hq nb ra h => hr M H1 q vs ds Q _ (fun a z => dom_fr f1 p1 (ok.dom a z)) hq ra (fun z v H' s r1 k => c _ _ _ _ (f1.trans (.of s)) (pl_same p1 s) r1 k) h) h
theorem trF_Q1 {r : List V → Hp → VK → Prop} {f : List DV → (List DV → Prop) → Prop} (hr : RdQF W r f) (ha : TrQ W ta dA) : TrF W (tCB r (tCons ta tNil)) (dCQF f dA) := fun B Φ M σ H δ n Q K ok c h =>
  ha B Φ M σ H δ n _ _ ok (fun ds m q vs H1 f1 p1 hq nb ra h => hr M H1 q vs ds Q _ (fun a z => dom_fr f1 p1 (ok.dom a z)) hq ra
    (fun zs us p np r1 k => c _ _ _ _ _ (f1.upd (.inl (none_fr f1 p1 np))) (pl_new p1 np) (none_fr f1 p1 np) upd_same (repA_new r1 np) k) h) h
theorem trE_C {r : List V → Hp → VK → Prop} {f : List DV → (DV → Prop) → Prop} (hr : RdC W r f) (ha : TrA W tA dA) : TrE W (tCB r tA) (dCQ f dA) := fun B Φ M σ H δ n Q K ok c h =>
  ha B Φ M σ H δ n _ _ ok (fun ds m vs H1 f1 p1 ra h => hr M H1 vs ds Q _ (fun a z => dom_fr f1 p1 (ok.dom a z)) ra (fun z v H' s r1 k => c _ _ _ _ (f1.trans (.of s)) (pl_same p1 s) r1 k) h) h
section
variable {id x : Str} {ids : String} {r : List V → Hp → VK → Prop} {p : Pos}
theorem de_bQ {f : List DV → (DV → Prop) → Prop} (hc : CallR X (.builtin ids) r) (hg : Gl X x) (hm : X.mg x = none) (hv : bootBuiltins x = some (.builtin ids)) (hr : RdQ W r f) (ha : DQ X W a ta dA) (hn : x ≠ "__name__" := by decide) (hdb : (x == ("__debug__" : Str)) = false := by decide)
    (hs : starEach [a] X.env = (false, eval a X.env) :: starEach [] X.env := by rfl) (hpl : (backTo pos (starEach [] X.env)).any (·.1) = false := by rfl) : DE X W (.Call (.Name x p) [a] [] pos) (tCB r (tCons ta tNil)) (dCQ f dA) :=
  ⟨pe_callB hc hg hm hv (pa_cons ha.pe pa_nil hs) hn hdb hs hpl, trE_Q1 hr ha.tr⟩
theorem df_bQ {f : List DV → (List DV → Prop) → Prop} (hc : CallR X (.builtin ids) r) (hg : Gl X x) (hm : X.mg x = none) (hv : bootBuiltins x = some (.builtin ids)) (hr : RdQF W r f) (ha : DQ X W a ta dA) (hn : x ≠ "__name__" := by decide) (hdb : (x == ("__debug__" : Str)) = false := by decide)
    (hs : starEach [a] X.env = (false, eval a X.env) :: starEach [] X.env := by rfl) (hpl : (backTo pos (starEach [] X.env)).any (·.1) = false := by rfl) : DF X W (.Call (.Name x p) [a] [] pos) (tCB r (tCons ta tNil)) (dCQF f dA) :=
  ⟨pe_callB hc hg hm hv (pa_cons ha.pe pa_nil hs) hn hdb hs hpl, trF_Q1 hr ha.tr⟩
theorem df_tQ {f : List DV → (List DV → Prop) → Prop} (hc : CallR X (.type ids) r) (hg : Gl X x) (hm : X.mg x = none) (hv : bootBuiltins x = some (.type ids)) (hr : RdQF W r f) (ha : DQ X W a ta dA) (hn : x ≠ "__name__" := by decide) (hdb : (x == ("__debug__" : Str)) = false := by decide)
    (hs : starEach [a] X.env = (false, eval a X.env) :: starEach [] X.env := by rfl) (hpl : (backTo pos (starEach [] X.env)).any (·.1) = false := by rfl) : DF X W (.Call (.Name x p) [a] [] pos) (tCB r (tCons ta tNil)) (dCQF f dA) :=
  ⟨pe_callTy hc hg hm hv (pa_cons ha.pe pa_nil hs) hn hdb hs hpl, trF_Q1 hr ha.tr⟩
theorem de_b {f : List DV → (DV → Prop) → Prop} (hc : CallR X (.builtin ids) r) (hg : Gl X x) (hm : X.mg x = none) (hv : bootBuiltins x = some (.builtin ids)) (hr : RdC W r f) (ha : DA X W (a :: es) tA dA) (hn : x ≠ "__name__" := by decide) (hdb : (x == ("__debug__" : Str)) = false := by decide)
    (hs : starEach (a :: es) X.env = (false, eval a X.env) :: starEach es X.env := by rfl) (hpl : (backTo pos (starEach es X.env)).any (·.1) = false := by rfl) : DE X W (.Call (.Name x p) (a :: es) [] pos) (tCB r tA) (dCQ f dA) :=
  ⟨pe_callB hc hg hm hv ha.pa hn hdb hs hpl, trE_C hr ha.tr⟩
theorem de_t {f : List DV → (DV → Prop) → Prop} (hc : CallR X (.type ids) r) (hg : Gl X x) (hm : X.mg x = none) (hv : bootBuiltins x = some (.type ids)) (hr : RdC W r f) (ha : DA X W (a :: es) tA dA) (hn : x ≠ "__name__" := by decide) (hdb : (x == ("__debug__" : Str)) = false := by decide)
    (hs : starEach (a :: es) X.env = (false, eval a X.env) :: starEach es X.env := by rfl) (hpl : (backTo pos (starEach es X.env)).any (·.1) = false := by rfl) : DE X W (.Call (.Name x p) (a :: es) [] pos) (tCB r tA) (dCQ f dA) :=
  ⟨pe_callTy hc hg hm hv ha.pa hn hdb hs hpl, trE_C hr ha.tr⟩
end
def fLen : List DV → (DV → Prop) → Prop := fun ds K => K (.int (ds.length : Nat))
theorem rd_len {K0 : PySem.W.Frag} : RdQ W (fun xs H Q => ∃ p ys, xs = [.ref p] ∧ (SqL K0 H p ys ∨ SqT K0 H p ys) ∧ Q (.int ys.length) H) fLen := fun M H q vs ds Q K _ hq ra c h =>
  ⟨q, vs, rfl, .inl (SqL.of hq), by rw [ra.1]; exact c _ _ _ (fun _ _ e => e) (.int _) h⟩
def fLenT : List DV → (DV → Prop) → Prop := fun ds K => match ds with
  | [.tup xs] => K (.int (xs.length : Nat))
  | _ => False
def fList : List DV → (List DV → Prop) → Prop := fun ds K => K ds
theorem rd_list {K0 : PySem.W.Frag} : RdQF W (fun xs H Q => ∃ p ys, xs = [.ref p] ∧ (SqL K0 H p ys ∨ SqT K0 H p ys) ∧ ∀ l, H l = none → Q (.ref l) (upd H l (.lst ys))) fList := fun M H q vs ds Q K _ hq ra c h =>
  ⟨q, vs, rfl, .inl (SqL.of hq), fun l nl => c _ _ _ nl ra h⟩
/-- a list of ints -/
def DV.intsOf (ds : List DV) (k : List Int → Prop) : Prop := ∃ xs : List Int, ds = xs.map DV.int ∧ k xs
def fSum : List DV → (DV → Prop) → Prop := fun ds K => DV.intsOf ds fun xs => K (.int xs.sum)
theorem rd_sum {K0 : PySem.W.Frag} : RdQ W (rSum K0) fSum := fun M H q vs ds Q K _ hq ra c h => by
  obtain ⟨xs, rfl, h⟩ := h
  rw [ra.ints] at hq
  exact ⟨q, xs, rfl, SqL.of hq, c _ _ _ (fun _ _ e => e) (.int _) h⟩
def fMax : List DV → (DV → Prop) → Prop := fun ds K => DV.intsOf ds fun xs => 0 < xs.length ∧ ∀ m, m ∈ xs → (∀ y, y ∈ xs → y ≤ m) → K (.int m)
def fMin : List DV → (DV → Prop) → Prop := fun ds K => DV.intsOf ds fun xs => 0 < xs.length ∧ ∀ m, m ∈ xs → (∀ y, y ∈ xs → m ≤ y) → K (.int m)
theorem rd_max {K0 : PySem.W.Frag} : RdQ W (rMax K0) fMax := fun M H q vs ds Q K _ hq ra c h => by
  obtain ⟨xs, rfl, l, h⟩ := h
  rw [ra.ints] at hq
  exact ⟨q, xs, rfl, SqL.of hq, l, fun m h1 h2 => c _ _ _ (fun _ _ e => e) (.int _) (h m h1 h2)⟩
theorem rd_min {K0 : PySem.W.Frag} : RdQ W (rMin K0) fMin := fun M H q vs ds Q K _ hq ra c h => by
  obtain ⟨xs, rfl, l, h⟩ := h
  rw [ra.ints] at hq
  exact ⟨q, xs, rfl, SqL.of hq, l, fun m h1 h2 => c _ _ _ (fun _ _ e => e) (.int _) (h m h1 h2)⟩
def fSorted : List DV → (List DV → Prop) → Prop := fun ds K => DV.intsOf ds fun xs => xs.length < 64 ∧ ∀ ys : List Int, ys.Perm xs → ys.Pairwise (· ≤ ·) → K (ys.map DV.int)
theorem rd_sorted {K0 : PySem.W.Frag} : RdQF W (rSorted K0) fSorted := fun M H q vs ds Q K _ hq ra c h => by
  obtain ⟨xs, rfl, l, h⟩ := h
  rw [ra.ints] at hq
  exact ⟨q, xs, rfl, SqL.of hq, l, fun ys p h1 h2 np => c _ _ _ np (repA_ints ys) (h ys h1 h2)⟩
def fC1 (g : Int → Int) : List DV → (DV → Prop) → Prop := fun ds K => match ds with
  | [x] => x.asI fun i => K (.int (g i))
  | _ => False
def fC2 (g : Int → Int → Int) : List DV → (DV → Prop) → Prop := fun ds K => match ds with
  | [x, y] => x.asI fun i => y.asI fun j => K (.int (g i j))
  | _ => False
theorem rd_C1 {g : Int → Int} : RdC W (fun xs H Q => ∃ i, xs = [.int i] ∧ Q (.int (g i)) H) (fC1 g) := fun M H vs ds Q K _ ra c h => by
  unfold fC1 at h
  split at h
  · obtain ⟨i, rfl, h⟩ := DV.asI_inv h
    obtain ⟨v, rfl, r⟩ := ra.one_inv
    exact ⟨i, by rw [r.int_inv], c _ _ _ (fun _ _ e => e) (.int _) h⟩
  · exact h.elim
theorem rd_C2 {g : Int → Int → Int} : RdC W (fun xs H Q => ∃ i j, xs = [.int i, .int j] ∧ Q (.int (g i j)) H) (fC2 g) := fun M H vs ds Q K _ ra c h => by
  unfold fC2 at h
  split at h
  · obtain ⟨i, rfl, h1⟩ := DV.asI_inv h
    obtain ⟨j, rfl, h⟩ := DV.asI_inv h1
    obtain ⟨v, us, rfl, r, rs⟩ := ra.cons_inv
    obtain ⟨u, rfl, r2⟩ := rs.one_inv
    exact ⟨i, j, by rw [r.int_inv, r2.int_inv], c _ _ _ (fun _ _ e => e) (.int _) h⟩
  · exact h.elim
def fInt : List DV → (DV → Prop) → Prop := fun ds K => match ds with
  | [.int i] => K (.int i)
  | [.bl k] => K (.int (if k then 1 else 0))
  | _ => False
theorem rd_int : RdC W (fun xs H Q => (∃ i, xs = [.int i] ∧ Q (.int i) H) ∨ ∃ k, xs = [.bl k] ∧ Q (.int (if k then 1 else 0)) H) fInt := fun M H vs ds Q K _ ra c h => by
  unfold fInt at h
  split at h
  · obtain ⟨v, rfl, r⟩ := ra.one_inv
    exact .inl ⟨_, by rw [r.int_inv], c _ _ _ (fun _ _ e => e) (.int _) h⟩
  · obtain ⟨v, rfl, r⟩ := ra.one_inv
    exact .inr ⟨_, by rw [r.bl_inv], c _ _ _ (fun _ _ e => e) (.int _) h⟩
  · exact h.elim
/-! list + list, list * int, slices -/
def dCat (a b : TDA) : TDA := fun δ n K => a δ n fun xs m => b δ m fun ys k => xs.length + ys.length ≤ 100000 ∧ K (xs ++ ys) k
def dRep (a : TDA) (b : TD) : TDA := fun δ n K => a δ n fun xs m => b δ m fun y k => y.asI fun i => -(2 ^ 63) ≤ i ∧ i < 2 ^ 63 ∧ xs.length * i.toNat ≤ 100000 ∧ K (List.replicate i.toNat xs).flatten k
theorem le_size2 {n : Nat} (h : n ≤ 100000) : n ≤ sizeLine := Nat.le_trans h (by decide)
theorem df_cat {qa qb : TDA} (ha : DQ X W a ta qa) (hb : DQ X W b tb qb) : DF X W (.BinOp a .Add b pos) (tOp rCat ta tb) (dCat qa qb) :=
  ⟨pe_op op_cat ha.pe hb.pe, fun B Φ M σ H δ n Q K ok c h => ha.tr B Φ M σ H δ n _ _ ok (fun xs m q vs H1 f1 p1 hq nb ra h => hb.tr B Φ M σ H1 δ m _ _ (ok.expr f1 p1) (fun ys k q2 us H2 f2 p2 hq2 nb2 rb h => by
    have f12 := f1.trans f2
    have hq1 : H2 q = some (.lst vs) := f2 _ _ hq fun z => nb (ok.pool q z).1
    refine ⟨q, q2, vs, us, rfl, rfl, hq1, hq2, by rw [ra.1, rb.1]; exact le_size2 h.1, fun p np => ?_⟩
    exact c _ _ _ _ _ (f12.upd (.inl (none_fr f12 p2 np))) (pl_new p2 np) (none_fr f12 p2 np) upd_same (repA_new ((ra.mono (ok.frM f2)).append rb) np) h.2) h) h⟩
theorem df_rep {qa : TDA} (ha : DQ X W a ta qa) (hb : DE X W b tb db) : DF X W (.BinOp a .Mult b pos) (tOp rRep ta tb) (dRep qa db) :=
  ⟨pe_op op_rep ha.pe hb.pe, fun B Φ M σ H δ n Q K ok c h => ha.tr B Φ M σ H δ n _ _ ok (fun xs m q vs H1 f1 p1 hq nb ra h => hb.tr B Φ M σ H1 δ m _ _ (ok.expr f1 p1) (fun y k u H2 f2 p2 r2 h => by
    obtain ⟨i, rfl, h1, h2, h3, h⟩ := DV.asI_inv h
    have f12 := f1.trans f2
    have hq1 : H2 q = some (.lst vs) := f2 _ _ hq fun z => nb (ok.pool q z).1
    refine ⟨q, i, vs, rfl, r2.int_inv, hq1, h1, h2, by rw [ra.1]; exact le_size2 h3, fun p np => ?_⟩
    exact c _ _ _ _ _ (f12.upd (.inl (none_fr f12 p2 np))) (pl_new p2 np) (none_fr f12 p2 np) upd_same (repA_new ((ra.mono (ok.frM f2)).rep _) np) h) h) h⟩
abbrev TDO := En → Nat → (Option Int → Nat → Prop) → Prop
def TrO (W : Wo) (t : TO) (d : TDO) : Prop := ∀ (B : Addr → Prop) (Φ : WPhi) (M : Addr → Prop) (σ : L2.St) (H : Hp) (δ : En) (n : Nat) (Q : Option Int → Hp → Prop) (K : Option Int → Nat → Prop), Ok W B Φ M σ H δ n →
  (∀ b m H', FrS (pl W) H H' → Pl W H' m → K b m → Q b H') → d δ n K → t σ H Q
structure DO (X : Cx) (W : Wo) (e : Option Expr) (t : TO) (d : TDO) : Prop where
  po : PO X e t
  tr : TrO W t d
def dNoPart : TDO := fun _ n K => K none n
def dPart (d : TD) : TDO := fun δ n K => d δ n fun x m => x.asI fun i => K (some i) m
theorem do_none : DO X W none tNoPart dNoPart := ⟨po_none, fun B Φ M σ H δ n Q K ok c h => c _ _ _ .refl ok.plOf h⟩
theorem do_some (h : DE X W e t d) : DO X W (some e) (tPart t) (dPart d) := ⟨po_some h.pe, fun B Φ M σ H δ n Q K ok c q => h.tr B Φ M σ H δ n _ _ ok (fun r m v H' f p ra k => by
  obtain ⟨i, rfl, k⟩ := DV.asI_inv k
  exact ⟨i, ra.int_inv, c _ _ _ f p k⟩) q⟩
def cutD (xs : List DV) (lo hi : Option Int) : List DV := (xs.drop (HT.sIx xs.length 0 lo)).take (HT.sIx xs.length xs.length hi - HT.sIx xs.length 0 lo)
def dSl (a : TDA) (l h : TDO) : TDA := fun δ n K => a δ n fun xs m => l δ m fun lo k => h δ k fun hi j => K (cutD xs lo hi) j
theorem df_sl {lo hi : Option Expr} {tl th : TO} {dl dh : TDO} {p2 : Pos} (ha : DQ X W a ta dA) (hl : DO X W lo tl dl) (hh : DO X W hi th dh) : DF X W (.Subscript a (.Slice lo hi none p2) pos) (tSl (rSlL X.K) ta tl th) (dSl dA dl dh) :=
  ⟨pe_slice sl_list ha.pe hl.po hh.po, fun B Φ M σ H δ n Q K ok c h => ha.tr B Φ M σ H δ n _ _ ok (fun xs m q vs H1 f1 p1 hq nb ra h => hl.tr B Φ M σ H1 δ m _ _ (ok.expr f1 p1) (fun lo k H2 f2 p2 h =>
    hh.tr B Φ M σ H2 δ k _ _ ((ok.expr f1 p1).expr f2 p2) (fun hi j H3 f3 p3 h => by
      have f23 := f2.trans f3
      have f13 := f1.trans f23
      have hq1 : H3 q = some (.lst vs) := f23 _ _ hq fun z => nb (ok.pool q z).1
      refine ⟨q, vs, rfl, SqL.of hq1, fun p np => ?_⟩
      have r3 := ra.mono (ok.frM f23)
      refine c _ _ _ _ _ (f13.upd (.inl (none_fr f13 p3 np))) (pl_new p3 np) (none_fr f13 p3 np) upd_same (repA_new ?_ np) h
      unfold cutV cutD
      rw [r3.1]
      exact (r3.drop _).take _) h) h) h⟩
def dRev (a : TDA) : TDA := fun δ n K => a δ n fun xs m => K xs.reverse m
theorem df_rev {k : Nat} {p1 p2 p3 : Pos} (ha : DQ X W a ta dA) : DF X W (.Subscript a (.Slice none none (some (.UnaryOp .USub (.Constant (.int 1) k p1) p2)) p3) pos) (tRevL X.K ta) (dRev dA) :=
  ⟨pe_revL ha.pe, fun B Φ M σ H δ n Q K ok c h => ha.tr B Φ M σ H δ n _ _ ok (fun xs m q vs H1 f1 p1 hq nb ra h =>
    ⟨q, vs, rfl, SqL.of hq, fun p np => c _ _ _ _ _ (f1.upd (.inl (none_fr f1 p1 np))) (pl_new p1 np) (none_fr f1 p1 np) upd_same (repA_new ra.reverse np) h⟩) h⟩
/-! tests -/
def dB (d : TD) : TDT := fun δ n K => d δ n fun x m => x.asB fun b => K b m
def dAnd (a b : TDT) : TDT := fun δ n K => a δ n fun x m => (x = true → b δ m K) ∧ (x = false → K false m)
def dOr (a b : TDT) : TDT := fun δ n K => a δ n fun x m => (x = true → K true m) ∧ (x = false → b δ m K)
def dNot (a : TDT) : TDT := fun δ n K => a δ n fun x m => K (!x) m
def dYes : TDT := fun _ n K => K true n
variable {t1 t2 : TT} {d1 d2 : TDT}
theorem trT_B (h : TrE W t d) : TrT W (tB t) (dB d) := fun B Φ M σ H δ n Q K ok c q => h B Φ M σ H δ n _ _ ok (fun r m v H' f p ra k => by
  obtain ⟨b, rfl, k⟩ := DV.asB_inv k
  exact ⟨b, ra.bl_inv, c _ _ _ f p k⟩) q
theorem dt_val (h : DE X W e t d) (he : ∀ whole, isTrue e X.env whole = (do let v ← whole; standAt e.pos; holding [v] (truthy v)) := by intro _; rfl) : DT X W e (tB t) (dB d) := ⟨pt_val h.pe he, trT_B h.tr⟩
theorem dt_cmp {op : CmpOp} {r : R2} {f : DV → DV → (DV → Prop) → Prop} (ho : OpR X (compareOp op) r) (hr : RdOp W r f) (ha : DE X W a ta da) (hb : DE X W b tb db) (hm : behindInMarks op b = false := by exact nomark _) : DT X W (.Compare a [op] [b] pos) (tTest (tOp r ta tb)) (dB (dOp f da db)) :=
  ⟨pt_cmpR ho ha.pe hb.pe hm, trT_B (trE_op hr ha.tr hb.tr)⟩
theorem ite_split {c : Bool} {A A' : Prop} (h1 : c = true → A) (h2 : c = false → A') : if c = true then A else A' := by cases c <;> simp_all
theorem trT_and (h1 : TrT W t1 d1) (h2 : TrT W t2 d2) : TrT W (tAnd t1 t2) (dAnd d1 d2) := fun B Φ M σ H δ n Q K ok c q => h1 B Φ M σ H δ n _ _ ok (fun b m H' f p k =>
  ite_split (fun z => h2 B Φ M σ H' δ m _ _ (ok.expr f p) (fun b2 m2 H2 f2 p2 k2 => c _ _ _ (f.trans f2) p2 k2) (k.1 z)) (fun z => c _ _ _ f p (k.2 z))) q
theorem trT_or (h1 : TrT W t1 d1) (h2 : TrT W t2 d2) : TrT W (tOr t1 t2) (dOr d1 d2) := fun B Φ M σ H δ n Q K ok c q => h1 B Φ M σ H δ n _ _ ok (fun b m H' f p k =>
  ite_split (fun z => c _ _ _ f p (k.1 z)) (fun z => h2 B Φ M σ H' δ m _ _ (ok.expr f p) (fun b2 m2 H2 f2 p2 k2 => c _ _ _ (f.trans f2) p2 k2) (k.2 z))) q
variable {rest : List Expr}
theorem dw_and1 (ha : DT X W a t1 d1) : DW X W (.BoolOp .And [a] pos) t1 d1 := ⟨pw_and1 ha.pt, ha.tr⟩
theorem dw_or1 (ha : DT X W a t1 d1) : DW X W (.BoolOp .Or [a] pos) t1 d1 := ⟨pw_or1 ha.pt, ha.tr⟩
theorem dw_and (ha : DT X W a t1 d1) (hb : DW X W (.BoolOp .And (b :: rest) pos) t2 d2) : DW X W (.BoolOp .And (a :: b :: rest) pos) (tAnd t1 t2) (dAnd d1 d2) := ⟨pw_and ha.pt hb.pw, trT_and ha.tr hb.tr⟩
theorem dw_or (ha : DT X W a t1 d1) (hb : DW X W (.BoolOp .Or (b :: rest) pos) t2 d2) : DW X W (.BoolOp .Or (a :: b :: rest) pos) (tOr t1 t2) (dOr d1 d2) := ⟨pw_or ha.pt hb.pw, trT_or ha.tr hb.tr⟩
theorem DW.dt (h : DW X W e t1 d1) : DT X W e t1 d1 := ⟨h.pw.pt, h.tr⟩
theorem dt_not (h : DT X W a t1 d1) : DT X W (.UnaryOp .Not a pos) (tNot t1) (dNot d1) := ⟨pt_not h.pt, fun B Φ M σ H δ n Q K ok c q => h.tr B Φ M σ H δ n _ _ ok (fun b m H' f p k => c _ _ _ f p k) q⟩
def dAndV (a b : TD) : TD := fun δ n K => a δ n fun x m => x.asB fun c => (c = true → b δ m K) ∧ (c = false → K (.bl false) m)
def dOrV (a b : TD) : TD := fun δ n K => a δ n fun x m => x.asB fun c => (c = true → K (.bl true) m) ∧ (c = false → b δ m K)
def dNotV (a : TD) : TD := fun δ n K => a δ n fun x m => x.asB fun c => K (.bl (!c)) m
theorem de_one {op} (h : DE X W a ta da) : DE X W (.BoolOp op [a] pos) ta da := ⟨pe_one h.pe, h.tr⟩
theorem de_and (ha : DE X W a ta da) (hb : DE X W (.BoolOp .And (b :: rest) pos) tb db) : DE X W (.BoolOp .And (a :: b :: rest) pos) (tAndV ta tb) (dAndV da db) :=
  ⟨pe_and ha.pe hb.pe, fun B Φ M σ H δ n Q K ok c q => ha.tr B Φ M σ H δ n _ _ ok (fun x m v H' f p r k => by
    obtain ⟨b, rfl, k⟩ := DV.asB_inv k
    exact ⟨b, r.bl_inv, ite_split (fun z => hb.tr B Φ M σ H' δ m _ _ (ok.expr f p) (fun x2 m2 v2 H2 f2 p2 r2 k2 => c _ _ _ _ (f.trans f2) p2 r2 k2) (k.1 z)) (fun z => c _ _ _ _ f p (.bl _) (k.2 z))⟩) q⟩
theorem de_or (ha : DE X W a ta da) (hb : DE X W (.BoolOp .Or (b :: rest) pos) tb db) : DE X W (.BoolOp .Or (a :: b :: rest) pos) (tOrV ta tb) (dOrV da db) :=
  ⟨pe_or ha.pe hb.pe, fun B Φ M σ H δ n Q K ok c q => ha.tr B Φ M σ H δ n _ _ ok (fun x m v H' f p r k => by
    obtain ⟨b, rfl, k⟩ := DV.asB_inv k
    exact ⟨b, r.bl_inv, ite_split (fun z => c _ _ _ _ f p (.bl _) (k.1 z)) (fun z => hb.tr B Φ M σ H' δ m _ _ (ok.expr f p) (fun x2 m2 v2 H2 f2 p2 r2 k2 => c _ _ _ _ (f.trans f2) p2 r2 k2) (k.2 z))⟩) q⟩
theorem de_not (ha : DE X W a ta da) : DE X W (.UnaryOp .Not a pos) (tNotV ta) (dNotV da) :=
  ⟨pe_not ha.pe, fun B Φ M σ H δ n Q K ok c q => ha.tr B Φ M σ H δ n _ _ ok (fun x m v H' f p r k => by
    obtain ⟨b, rfl, k⟩ := DV.asB_inv k
    exact ⟨b, r.bl_inv, c _ _ _ _ f p (.bl _) k⟩) q⟩
def dIf (c : TDT) (a b : TD) : TD := fun δ n K => c δ n fun x m => (x = true → a δ m K) ∧ (x = false → b δ m K)
theorem de_if {c : Expr} (hc : DT X W c t1 d1) (ha : DE X W a ta da) (hb : DE X W b tb db) : DE X W (.IfExp c a b pos) (tIf t1 ta tb) (dIf d1 da db) :=
  ⟨pe_ifExp hc.pt ha.pe hb.pe, fun B Φ M σ H δ n Q K ok c q => hc.tr B Φ M σ H δ n _ _ ok (fun x m H' f p k =>
    ite_split (fun z => ha.tr B Φ M σ H' δ m _ _ (ok.expr f p) (fun x2 m2 v2 H2 f2 p2 r2 k2 => c _ _ _ _ (f.trans f2) p2 r2 k2) (k.1 z)) (fun z => hb.tr B Φ M σ H' δ m _ _ (ok.expr f p) (fun x2 m2 v2 H2 f2 p2 r2 k2 => c _ _ _ _ (f.trans f2) p2 r2 k2) (k.2 z))) q⟩
/-! repr -/
def fRepr : List DV → (DV → Prop) → Prop := fun ds K => match ds with
  | [.lst xs] => (∃ n k, Rp (DV.lst xs).py n k ∧ k ≤ 60 ∧ n ≤ 300000) ∧ (DV.lst xs).pu = true ∧ K (.str (DV.lst xs).py.shown)
  | [.tup xs] => (∃ n k, Rp (DV.tup xs).py n k ∧ k ≤ 60 ∧ n ≤ 300000) ∧ (DV.tup xs).pu = true ∧ K (.str (DV.tup xs).py.shown)
  | _ => False
theorem rd_repr {K0 : PySem.W.Frag} : RdC W (rRep2 K0) fRepr := fun M H vs ds Q K _ ra c h => by
  unfold fRepr at h
  split at h
  · obtain ⟨⟨n, k, h1, h2, h3⟩, h4, h⟩ := h
    obtain ⟨v, rfl, r⟩ := ra.one_inv
    obtain ⟨q, us, rfl, _⟩ := r.lst_inv
    exact ⟨q, _, n, k, rfl, r.dp h4, h1, h2, h3, c _ _ _ (fun _ _ e => e) (.str _) h⟩
  · obtain ⟨⟨n, k, h1, h2, h3⟩, h4, h⟩ := h
    obtain ⟨v, rfl, r⟩ := ra.one_inv
    obtain ⟨q, us, rfl, _⟩ := r.tup_inv
    exact ⟨q, _, n, k, rfl, r.dp h4, h1, h2, h3, c _ _ _ (fun _ _ e => e) (.str _) h⟩
  · exact h.elim
end

/-! ### readings without a heap: targets, statements, loops -/
structure DEn where
  nx : En → Nat → Prop
  rt : DV → Nat → Prop
  bk : En → Nat → Prop := fun _ _ => False
  ct : En → Nat → Prop := fun _ _ => False
abbrev TDS := DEn → En → Nat → Prop
structure Sim (W : Wo) (B : Addr → Prop) (Φ : WPhi) (DD : DEn) (D : Ends) : Prop where
  nx : ∀ M σ H δ n, Ok W B Φ M σ H δ n → DD.nx δ n → D.nx σ H
  rt : ∀ M H v r n, Φ M H → (∀ a, B a → M a) → Pl W H n → Rep W M H v r → DD.rt r n → D.rt v H
  bk : ∀ M σ H δ n, Ok W B Φ M σ H δ n → DD.bk δ n → D.bk σ H
  ct : ∀ M σ H δ n, Ok W B Φ M σ H δ n → DD.ct δ n → D.ct σ H
def TrS (W : Wo) (t : TS) (d : TDS) : Prop := ∀ (B : Addr → Prop) (Φ : WPhi) (M : Addr → Prop) (σ : L2.St) (H : Hp) (δ : En) (n : Nat) (D : Ends) (DD : DEn), Ok W B Φ M σ H δ n → Sim W B Φ DD D → d DD δ n → t D σ H
structure DS (X : Cx) (W : Wo) (s : Stmt) (t : TS) (d : TDS) : Prop where
  ps : PS X s t
  tr : TrS W t d
structure DSs (X : Cx) (W : Wo) (s : List Stmt) (t : TS) (d : TDS) : Prop where
  pss : PSs X s t
  tr : TrS W t d
abbrev TDG := DV → En → (En → Prop) → Prop
abbrev TDGs := List DV → En → (En → Prop) → Prop
def TrG (W : Wo) (vs : List Nat) (g : TG) (d : TDG) : Prop := ∀ (B : Addr → Prop) (Φ : WPhi) (M : Addr → Prop) (σ : L2.St) (H : Hp) (δ : En) (n : Nat) (v : V) (r : DV) (Q : L2.St → Hp → Prop) (K : En → Prop), Ok W B Φ M σ H δ n → Rep W M H v r →
  (∀ σ' δ', Ok W B Φ M σ' H δ' n → wipe σ' vs = wipe σ vs → K δ' → Q σ' H) → d r δ K → g v σ H Q
def TrGs (W : Wo) (vs : List Nat) (g : TGs) (d : TDGs) : Prop := ∀ (B : Addr → Prop) (Φ : WPhi) (M : Addr → Prop) (σ : L2.St) (H : Hp) (δ : En) (n : Nat) (v : List V) (r : List DV) (Q : L2.St → Hp → Prop) (K : En → Prop), Ok W B Φ M σ H δ n → RepA W M H v r →
  (∀ σ' δ', Ok W B Φ M σ' H δ' n → wipe σ' vs = wipe σ vs → K δ' → Q σ' H) → d r δ K → g v σ H Q
structure DG (X : Cx) (W : Wo) (vs : List Nat) (e : Expr) (g : TG) (d : TDG) : Prop where
  pg : PG X e g
  tr : TrG W vs g d
structure DGs (X : Cx) (W : Wo) (vs : List Nat) (e : List Expr) (g : TGs) (d : TDGs) : Prop where
  pgs : PGs X e g
  tr : TrGs W vs g d
def dgN (i : Nat) : TDG := fun r δ K => K (δ.set i (some (.dat r)))
def dgT (d : TDGs) : TDG := fun r δ K => r.asT fun xs => d xs δ K
def dgNil : TDGs := fun rs δ K => match rs with
  | [] => K δ
  | _ => False
def dgCons (a : TDG) (b : TDGs) : TDGs := fun rs δ K => match rs with
  | r :: rs => a r δ fun δ2 => b rs δ2 K
  | _ => False
theorem wipe_set {σ : L2.St} {i : Nat} {x : Option V} : ∀ {vs : List Nat}, i ∈ vs → wipe (σ.set i x) vs = wipe σ vs
  | v :: vs, h => by
    unfold wipe
    by_cases e : i ∈ vs
    · rw [wipe_set e]
    · have e2 : i = v := by
        rcases List.mem_cons.mp h with h | h
        · exact h
        · exact absurd h e
      subst e2
      have : ∀ {ws : List Nat}, i ∉ ws → wipe (σ.set i x) ws = (wipe σ ws).set i x := by
        intro ws hw
        induction ws with
        | nil => rfl
        | cons w ws ih =>
          unfold wipe
          rw [ih fun z => hw (List.mem_cons_of_mem _ z)]
          rw [List.set_comm]
          intro z
          exact hw (by rw [z]; exact List.mem_cons_self)
      rw [this e, List.set_set]
section
variable {X : Cx} {W : Wo} {e : Expr} {es : List Expr} {vs : List Nat} {g : TG} {gs : TGs} {dg : TDG} {dgs : TDGs} {pos : Pos}
theorem trG_name {i : Nat} (hi : i ∈ vs) : TrG W vs (gName i) (dgN i) := fun B Φ M σ H δ n v r Q K ok ra c h => c _ _ (ok.set ra i) (wipe_set hi) h
theorem trG_tup {K0 : PySem.W.Frag} {k : Nat} (h : TrGs W vs gs dgs) (len : ∀ xs δ K, dgs xs δ K → xs.length = k) : TrG W vs (gTup K0 k gs) (dgT dgs) := fun B Φ M σ H δ n v r Q K ok ra c q => by
  obtain ⟨xs, rfl, q⟩ := DV.asT_inv q
  obtain ⟨a, us, rfl, h1, h2, h3⟩ := ra.tup_inv
  exact ⟨a, us, rfl, SqT.of h1, by rw [h3.1]; exact len _ _ _ q, h B Φ M σ H δ n _ _ _ _ ok h3 c q⟩
theorem trGs_nil : TrGs W vs gNil dgNil := fun B Φ M σ H δ n v r Q K ok ra c q => by
  unfold dgNil at q
  split at q
  · exact ⟨ra.nil_inv, c _ _ ok rfl q⟩
  · exact q.elim
theorem trGs_cons (h1 : TrG W vs g dg) (h2 : TrGs W vs gs dgs) : TrGs W vs (gCons g gs) (dgCons dg dgs) := fun B Φ M σ H δ n v r Q K ok ra c q => by
  unfold dgCons at q
  split at q
  · obtain ⟨u, us, rfl, r1, r2⟩ := ra.cons_inv
    refine ⟨u, us, rfl, h1 B Φ M σ H δ n _ _ _ _ ok r1 (fun σ' δ' ok' e k => ?_) q⟩
    exact h2 B Φ M σ' H δ' n _ _ _ _ ok' r2 (fun σ2 δ2 ok2 e2 k2 => c _ _ ok2 (e2.trans e) k2) k
  · exact q.elim
theorem dg_name {i : Nat} {x : Str} (hN : X.N.Nodup) (hi : X.N[i]? = some x) (hx : Loc X.env.scope x) (hv : i ∈ vs := by decide) (hf : X.fn x = true ∨ X.env.scope.names.lookup x = some .local := by first | exact .inl rfl | exact .inr rfl | assumption) : DG X W vs (.Name x pos) (gName i) (dgN i) :=
  ⟨pg_name hN hi hx hf, trG_name hv⟩
theorem dgs_nil : DGs X W vs [] gNil dgNil := ⟨pgs_nil, trGs_nil⟩
theorem dgs_cons (h1 : DG X W vs e g dg) (h2 : DGs X W vs es gs dgs) (hs : (assignEach (e :: es) X.env).map (·.2) = assign e X.env :: (assignEach es X.env).map (·.2) := by rfl) : DGs X W vs (e :: es) (gCons g gs) (dgCons dg dgs) :=
  ⟨pgs_cons h1.pg h2.pgs hs, trGs_cons h1.tr h2.tr⟩
end
section
variable {X : Cx} {W : Wo} {e : Expr} {vs : List Nat} {t : TE} {d : TD} {dA : TDA} {g : TG} {gs : TGs} {dg : TDG} {dgs : TDGs} {pos : Pos} {s : Stmt} {rest : List Stmt} {t1 t2 : TS} {d1 d2 : TDS}
/-- how many targets there are -/
inductive GLen : TDGs → Nat → Prop
  | nil : GLen dgNil 0
  | cons {i : Nat} {b : TDGs} {k : Nat} : GLen b k → GLen (dgCons (dgN i) b) (k + 1)
  | tup {c b : TDGs} {k j : Nat} : GLen c j → GLen b k → GLen (dgCons (dgT c) b) (k + 1)
theorem GLen.len {b : TDGs} {k : Nat} (h : GLen b k) : ∀ xs δ K, b xs δ K → xs.length = k := by
  induction h with
  | nil =>
    intro xs δ K q
    unfold dgNil at q
    split at q
    · rfl
    · exact q.elim
  | cons hb ih =>
    intro xs δ K q
    unfold dgCons at q
    split at q
    · rw [List.length_cons, ih _ _ _ q]
    · exact q.elim
  | tup hc hb ih1 ih2 =>
    intro xs δ K q
    unfold dgCons at q
    split at q
    · obtain ⟨ys, rfl, q⟩ := DV.asT_inv q
      have : ∀ {c : TDGs} {j : Nat}, GLen c j → ∀ {ys : List DV} {δ : En} {K : En → Prop}, c ys δ K → ∃ δ2, K δ2 := by
        intro c j h
        induction h with
        | nil =>
          intro ys δ K q
          unfold dgNil at q
          split at q
          · exact ⟨_, q⟩
          · exact q.elim
        | cons hb ih =>
          intro ys δ K q
          unfold dgCons at q
          split at q
          · exact ih q
          · exact q.elim
        | tup hc hb ih1 ih2 =>
          intro ys δ K q
          unfold dgCons at q
          split at q
          · obtain ⟨zs, rfl, q⟩ := DV.asT_inv q
            obtain ⟨_, q⟩ := ih1 q
            exact ih2 q
          · exact q.elim
      obtain ⟨δ2, q⟩ := this hc q
      rw [List.length_cons, ih2 _ _ _ q]
    · exact q.elim
theorem dg_tup {es : List Expr} {k : Nat} {n : Nat} (hc : X.calm = true) (h : DGs X W vs es gs dgs) (hl : GLen dgs n) (hn : (assignEach es X.env).length = n := by rfl) (hst : (assignEach es X.env).findIdx? (·.1) = none := by rfl) : DG X W vs (.Tuple es k pos) (gTup X.K n gs) (dgT dgs) :=
  ⟨pg_tup hc h.pgs hn hst, trG_tup h.tr hl.len⟩
/-! statements -/
def dSet (i : Nat) (d : TD) : TDS := fun DD δ n => d δ n fun x m => DD.nx (δ.set i (some (.dat x))) m
def dSetO (i : Nat) (d : TDA) : TDS := fun DD δ n => d δ n fun x m => DD.nx (δ.set i (some (.own x))) m
def dSetG (d : TD) (g : TDG) : TDS := fun DD δ n => d δ n fun x m => g x δ fun δ2 => DD.nx δ2 m
def dSeq (a b : TDS) : TDS := fun DD δ n => a { DD with nx := b DD } δ n
def dNext : TDS := fun DD δ n => DD.nx δ n
def dDrop (d : TD) : TDS := fun DD δ n => d δ n fun _ m => DD.nx δ m
def dRet (d : TD) : TDS := fun DD δ n => d δ n DD.rt
def dIfS (c : TDT) (a b : TDS) : TDS := fun DD δ n => c δ n fun x m => (x = true → a DD δ m) ∧ (x = false → b DD δ m)
def dFrz (i : Nat) (a : TDS) : TDS := fun DD δ n => down δ i fun ds => a DD (δ.set i (some (.dat (.lst ds)))) n
theorem trS_set (i : Nat) (h : TrE W t d) : TrS W (tAsg t (gName i)) (dSet i d) := fun B Φ M σ H δ n D DD ok sm q => h B Φ M σ H δ n _ _ ok (fun r m v H' f p ra k => sm.nx _ _ _ _ _ ((ok.expr f p).set ra i) k) q
theorem ds_set {i : Nat} {x : Str} {pos' : Pos} (hN : X.N.Nodup) (hi : X.N[i]? = some x) (hx : Loc X.env.scope x) (he : DE X W e t d) (hs : swapsWith e (some (.Name x pos')) pos.line X.env = pure false := by rfl) (hf : X.fn x = true ∨ X.env.scope.names.lookup x = some .local := by first | exact .inl rfl | exact .inr rfl | assumption) :
    DS X W (.Assign [.Name x pos'] e pos) (tAsg t (gName i)) (dSet i d) := ⟨ps_set hN hi hx he.pe hs hf, trS_set i he.tr⟩
theorem trS_setO (i : Nat) (h : TrF W t dA) : TrS W (tAsg t (gName i)) (dSetO i dA) := fun B Φ M σ H δ n D DD ok sm q => h B Φ M σ H δ n _ _ ok (fun r m a vs H' f p n1 h1 ra k => sm.nx _ _ _ _ _ (ok.setOwn f p n1 h1 ra i) k) q
theorem ds_setO {i : Nat} {x : Str} {pos' : Pos} (hN : X.N.Nodup) (hi : X.N[i]? = some x) (hx : Loc X.env.scope x) (he : DF X W e t dA) (hs : swapsWith e (some (.Name x pos')) pos.line X.env = pure false := by rfl) (hf : X.fn x = true ∨ X.env.scope.names.lookup x = some .local := by first | exact .inl rfl | exact .inr rfl | assumption) :
    DS X W (.Assign [.Name x pos'] e pos) (tAsg t (gName i)) (dSetO i dA) := ⟨ps_set hN hi hx he.pe hs hf, trS_setO i he.tr⟩
theorem trS_setG (h : TrE W t d) (hg : TrG W vs g dg) : TrS W (tAsg t g) (dSetG d dg) := fun B Φ M σ H δ n D DD ok sm q => h B Φ M σ H δ n _ _ ok (fun r m v H' f p ra k =>
  hg B Φ M σ H' δ m _ _ _ _ (ok.expr f p) ra (fun σ' δ' ok' _ k' => sm.nx _ _ _ _ _ ok' k') k) q
theorem ds_asg {tg : Expr} (vs : List Nat) (he : DE X W e t d) (hg : DG X W vs tg g dg) (hs : swapsWithSole [tg] e pos.line X.env = pure false := by rfl) (hw : swappedStores [tg] e X.env = pure none := by rfl)
    (h1 : (assignEach [tg] X.env).map (·.2) = [assign tg X.env] := by rfl) : DS X W (.Assign [tg] e pos) (tAsg t g) (dSetG d dg) := ⟨ps_asg he.pe hg.pg hs hw h1, trS_setG he.tr hg.tr⟩
theorem Sim.nxt {B : Addr → Prop} {Φ : WPhi} {DD : DEn} {D : Ends} (h : Sim W B Φ DD D) {p : L2.St → Hp → Prop} {q : En → Nat → Prop} (g : ∀ M σ H δ n, Ok W B Φ M σ H δ n → q δ n → p σ H) : Sim W B Φ { DD with nx := q } { D with nx := p } := ⟨g, h.rt, h.bk, h.ct⟩
theorem dss_nil : DSs X W [] tNext dNext := ⟨pss_nil, fun B Φ M σ H δ n D DD ok sm q => sm.nx _ _ _ _ _ ok q⟩
theorem dss_cons (h1 : DS X W s t1 d1) (h2 : DSs X W rest t2 d2) : DSs X W (s :: rest) (tSeq t1 t2) (dSeq d1 d2) := ⟨pss_cons h1.ps h2.pss, fun B Φ M σ H δ n D DD ok sm q =>
  h1.tr B Φ M σ H δ n _ _ ok (sm.nxt fun M' σ' H' δ' n' ok' q' => h2.tr B Φ M' σ' H' δ' n' _ _ ok' sm q') q⟩
theorem dss_one (h1 : DS X W s t1 d1) : DSs X W [s] t1 d1 := ⟨pss_one h1.ps, h1.tr⟩
/-- a statement with one meeting point behind it -/
def dCut (a b : TDS) : TDS := fun DD δ n => ∃ Mid : En → Nat → Prop, a { DD with nx := Mid } δ n ∧ ∀ δ' n', Mid δ' n' → b DD δ' n'
theorem dss_cut (h1 : DS X W s t1 d1) (h2 : DSs X W rest t2 d2) : DSs X W (s :: rest) (tSeq t1 t2) (dCut d1 d2) := ⟨pss_cons h1.ps h2.pss, fun B Φ M σ H δ n D DD ok sm ⟨Mid, q, qm⟩ =>
  h1.tr B Φ M σ H δ n _ _ ok (sm.nxt fun M' σ' H' δ' n' ok' q' => h2.tr B Φ M' σ' H' δ' n' _ _ ok' sm (qm _ _ q')) q⟩
theorem dss_frz (i : Nat) {sts : List Stmt} (h : DSs X W sts t1 d1) : DSs X W sts t1 (dFrz i d1) := ⟨h.pss, fun B Φ M σ H δ n D DD ok sm q => by
  obtain ⟨ds, e, q⟩ := down_inv q
  obtain ⟨M', ok'⟩ := ok.frz e
  exact h.tr B Φ M' σ H _ n _ _ ok' sm q⟩
theorem ds_expr (he : DE X W e t d) (hs : swapsWith e none pos.line X.env = pure false := by rfl) : DS X W (.Expr e pos) (tDrop t) (dDrop d) := ⟨ps_expr he.pe hs, fun B Φ M σ H δ n D DD ok sm q =>
  he.tr B Φ M σ H δ n _ _ ok (fun r m v H' f p ra k => sm.nx _ _ _ _ _ (ok.expr f p) k) q⟩
theorem ds_ret (he : DE X W e t d) : DS X W (.Return (some e) pos) (tRet t) (dRet d) := ⟨ps_ret he.pe, fun B Φ M σ H δ n D DD ok sm q =>
  he.tr B Φ M σ H δ n _ _ ok (fun r m v H' f p ra k => sm.rt M H' v r m (ok.expr f p).phi ok.base p ra k) q⟩
theorem ds_if {c : Expr} {a b : List Stmt} {tc : TT} {dc : TDT} (hc : DT X W c tc dc) (ha : DSs X W a t1 d1) (hb : DSs X W b t2 d2) : DS X W (.If c a b pos) (tIfS tc t1 t2) (dIfS dc d1 d2) := ⟨ps_if hc.pt ha.pss hb.pss, fun B Φ M σ H δ n D DD ok sm q =>
  hc.tr B Φ M σ H δ n _ _ ok (fun b m H' f p k => ite_split (fun z => ha.tr B Φ M σ H' δ m _ _ (ok.expr f p) sm (k.1 z)) (fun z => hb.tr B Φ M σ H' δ m _ _ (ok.expr f p) sm (k.2 z))) q⟩
def dNever : TDS := fun _ _ _ => False
theorem ds_never : DS X W s tNever dNever := ⟨ps_never, fun _ _ _ _ _ _ _ _ _ _ _ h => h.elim⟩
def dBreak : TDS := fun DD δ n => DD.bk δ n
def dCont : TDS := fun DD δ n => DD.ct δ n
theorem ds_break : DS X W (.Break pos) tBreak dBreak := ⟨ps_break, fun B Φ M σ H δ n D DD ok sm q => sm.bk _ _ _ _ _ ok q⟩
theorem ds_continue : DS X W (.Continue pos) tCont dCont := ⟨ps_continue, fun B Φ M σ H δ n D DD ok sm q => sm.ct _ _ _ _ _ ok q⟩
/-! a, b = x, y -/
def dPar (i j : Nat) (a : TDA) : TDS := fun DD δ n => a δ n fun xs m => match xs with
  | [x, y] => DD.nx ((δ.set i (some (.dat x))).set j (some (.dat y))) m
  | _ => False
theorem ds_par {i j : Nat} {x y : Str} {a b : Expr} {ta : TA} {da : TDA} {px py pt : Pos} {kt k2 pt2} (hc : X.calm = true) (hN : X.N.Nodup) (hi : X.N[i]? = some x) (hj : X.N[j]? = some y) (hij : i ≠ j)
    (hx : X.env.scope.names.lookup x = some .local) (hy : X.env.scope.names.lookup y = some .local) (ha : DA X W [a, b] ta da)
    (hw : swappedStores [.Tuple [.Name x px, .Name y py] kt pt] (.Tuple [a, b] k2 pt2) X.env = pure (some [x, y]))
    (hs : swapsWithSole [.Tuple [.Name x px, .Name y py] kt pt] (.Tuple [a, b] k2 pt2) pos.line X.env = pure false := by rfl) :
    DS X W (.Assign [.Tuple [.Name x px, .Name y py] kt pt] (.Tuple [a, b] k2 pt2) pos) (tPar i j ta) (dPar i j da) := ⟨ps_par hc hN hi hj hij hx hy ha.pa hw hs, fun B Φ M σ H δ n D DD ok sm q =>
  ha.tr B Φ M σ H δ n _ _ ok (fun r m v H' f p ra k => by
    match r, k with
    | [x, y], k =>
      obtain ⟨u, us, rfl, r1, rs⟩ := ra.cons_inv
      obtain ⟨w, rfl, r2⟩ := rs.one_inv
      exact ⟨u, w, rfl, sm.nx _ _ _ _ _ (((ok.expr f p).set r1 i).set r2 j) k⟩) q⟩
def dPar3 (i j l : Nat) (a : TDA) : TDS := fun DD δ n => a δ n fun xs m => match xs with
  | [x, y, z] => DD.nx (((δ.set i (some (.dat x))).set j (some (.dat y))).set l (some (.dat z))) m
  | _ => False
theorem ds_par3 {i j l : Nat} {x y z : Str} {a b c : Expr} {ta : TA} {da : TDA} {px py pz pt pos : Pos} {kt k2 pt2} (hc : X.calm = true) (hN : X.N.Nodup) (hi : X.N[i]? = some x) (hj : X.N[j]? = some y) (hl : X.N[l]? = some z) (hij : i ≠ j) (hil : i ≠ l) (hjl : j ≠ l)
    (hx : X.env.scope.names.lookup x = some .local) (hy : X.env.scope.names.lookup y = some .local) (hz : X.env.scope.names.lookup z = some .local) (ha : DA X W [a, b, c] ta da)
    (hw : swappedStores [.Tuple [.Name x px, .Name y py, .Name z pz] kt pt] (.Tuple [a, b, c] k2 pt2) X.env = pure (some [x, y, z]))
    (hs : swapsWithSole [.Tuple [.Name x px, .Name y py, .Name z pz] kt pt] (.Tuple [a, b, c] k2 pt2) pos.line X.env = pure false := by rfl) :
    DS X W (.Assign [.Tuple [.Name x px, .Name y py, .Name z pz] kt pt] (.Tuple [a, b, c] k2 pt2) pos) (tPar3 i j l ta) (dPar3 i j l da) := ⟨ps_par3 hc hN hi hj hl hij hil hjl hx hy hz ha.pa hw hs, fun B Φ M σ H δ n D DD ok sm q =>
  ha.tr B Φ M σ H δ n _ _ ok (fun r m v H' f p ra k => by
    match r, k with
    | [x, y, z], k =>
      obtain ⟨u, us, rfl, r1, rs⟩ := ra.cons_inv
      obtain ⟨w, ws, rfl, r2, rs⟩ := rs.cons_inv
      obtain ⟨w2, rfl, r3⟩ := rs.one_inv
      exact ⟨u, w, w2, rfl, sm.nx _ _ _ _ _ ((((ok.expr f p).set r1 i).set r2 j).set r3 l) k⟩) q⟩
def dApp (i : Nat) (a : TD) : TDS := fun DD δ n => down δ i fun ds => a δ n fun x m => ds.length < 100000 ∧ DD.nx (δ.set i (some (.own (ds ++ [x])))) m
theorem lt_size2 {n : Nat} (h : n < 100000) : n < sizeLine := Nat.lt_of_lt_of_le h (by decide)
/-- xs.append(e), xs one's own -/
theorem trS_app {K0 : PySem.W.Frag} (i : Nat) (h : TrE W t d) : TrS W (tDrop (tBM K0 "list" rAppend (tVar i) (tCons t tNil))) (dApp i d) := fun B Φ M σ H δ n D DD ok sm q => by
  obtain ⟨ds, e, q⟩ := down_inv q
  obtain ⟨l, us, s, hM, hB, hl, r0⟩ := ok.own i ds e
  refine ⟨.ref l, s, .inl ⟨rfl, us, SqL.of hl⟩, h B Φ M σ H δ n _ _ ok (fun x m v H' f p ra k => ?_) q⟩
  have ok' := ok.expr f p
  have hl' : H' l = some (.lst us) := f _ _ hl fun z => hB (ok.pool l z).1
  exact ⟨l, us, v, rfl, rfl, hl', by rw [r0.1]; exact lt_size2 k.1, sm.nx _ _ _ _ _ (ok'.write e s ((r0.mono (ok.frM f)).append (.cons ra .nil))) k.2⟩
theorem ds_app {x : Str} {e : Expr} {p2 p3 p4 : Pos} (i : Nat) (hi : X.N[i]? = some x := by rfl) (hv : Vis X.env.scope x := by first | exact Or.inl rfl | exact Or.inr (Or.inl rfl)) (he : DE X W e t d)
    (hbase : attributeBase (.Name x p2) "append" X.env (eval (.Name x p2) X.env) = eval (.Name x p2) X.env := by rfl)
    (hfew : ((backTo p4 (starEach [e] X.env)).all (fun x => !x.1) && (backToKw p4 (keywordEach [] X.env)).all (fun x => x.1.isSome) && decide ([e].length + ([] : List Keyword).length + (if ([] : List Keyword).isEmpty then 0 else 1) < 30)) = true := by rfl)
    (hline : (p3.endLine == p4.line) = true := by rfl) (hs : starEach [e] X.env = (false, eval e X.env) :: starEach [] X.env := by rfl) (hplain : (backTo p4 (starEach [] X.env)).any (·.1) = false := by rfl)
    (hsw : swapsWith (.Call (.Attribute (.Name x p2) "append" p3) [e] [] p4) none pos.line X.env = pure false := by rfl) (hd : (x == ("__debug__" : Str)) = false := by decide) (hcd : (x == ("__classdict__" : Str)) = false := by decide) :
    DS X W (.Expr (.Call (.Attribute (.Name x p2) "append" p3) [e] [] p4) pos) (tDrop (tBM X.K "list" rAppend (tVar i) (tCons t tNil))) (dApp i d) :=
  ⟨ps_expr (pe_bm PySem.F.plainAttrs_list PySem.F.slot_list_append PySem.F.type_list_append mt_append (pe_var hi hv hd hcd) (pa_cons he.pe pa_nil hs) hbase hfew hline hs hplain) hsw, trS_app i he.tr⟩
/-- xs[k] = v, xs one's own -/
def dSto (i : Nat) (v k : TD) : TDS := fun DD δ n => down δ i fun ds => v δ n fun x m => k δ m fun y j => y.asI fun z => ∃ p, ixN ds.length z = some p ∧ DD.nx (δ.set i (some (.own (ds.set p x)))) j
theorem trS_sto {tv tk : TE} {v k : TD} (i : Nat) (hv : TrE W tv v) (hk : TrE W tk k) : TrS W (tAsg tv (gSub (tVar i) tk rSetL)) (dSto i v k) := fun B Φ M σ H δ n D DD ok sm q => by
  obtain ⟨ds, e, q⟩ := down_inv q
  obtain ⟨l, us, s, hM, hB, hl, r0⟩ := ok.own i ds e
  refine hv B Φ M σ H δ n _ _ ok (fun x m u H1 f1 p1 r1 q => ⟨.ref l, s, ?_⟩) q
  refine hk B Φ M σ H1 δ m _ _ (ok.expr f1 p1) (fun y j w H2 f2 p2 r2 q => ?_) q
  obtain ⟨z, rfl, p, hp, q⟩ := DV.asI_inv q
  have f12 := f1.trans f2
  have ok' := (ok.expr f1 p1).expr f2 p2
  have hl' : H2 l = some (.lst us) := f12 _ _ hl fun z => hB (ok.pool l z).1
  refine ⟨l, us, z, p, rfl, r2.int_inv, hl', by rw [r0.1]; exact hp, sm.nx _ _ _ _ _ (ok'.write e s ?_) q⟩
  exact (r0.mono (ok.frM f12)).set (r1.mono (ok.frM f2)) p
theorem ds_sto {x : Str} {e k : Expr} {tk : TE} {dk : TD} {p2 p3 : Pos} (i : Nat) (hi : X.N[i]? = some x := by rfl) (hv : Vis X.env.scope x := by first | exact Or.inl rfl | exact Or.inr (Or.inl rfl)) (he : DE X W e t d) (hk : DE X W k tk dk)
    (ha : ∀ v, assign (.Subscript (.Name x p2) k p3) X.env v = (do
      let ov ← holding [v] (eval (.Name x p2) X.env)
      let iv ← holding [v, ov] (eval k X.env)
      standAt p3
      holding [v, ov, iv] (setItem ov iv v)
      release [v, ov, iv] []) := by intro _; rfl)
    (hs : swapsWithSole [.Subscript (.Name x p2) k p3] e pos.line X.env = pure false := by rfl) (hw : swappedStores [.Subscript (.Name x p2) k p3] e X.env = pure none := by rfl)
    (h1 : (assignEach [.Subscript (.Name x p2) k p3] X.env).map (·.2) = [assign (.Subscript (.Name x p2) k p3) X.env] := by rfl) (hd : (x == ("__debug__" : Str)) = false := by decide) (hcd : (x == ("__classdict__" : Str)) = false := by decide) :
    DS X W (.Assign [.Subscript (.Name x p2) k p3] e pos) (tAsg t (gSub (tVar i) tk rSetL)) (dSto i d dk) :=
  ⟨ps_asg he.pe (pg_sub (pe_var hi hv hd hcd) hk.pe set_list ha) hs hw h1, trS_sto i he.tr hk.tr⟩
/-! ### what is walked -/
abbrev TDI := En → Nat → (Nat → (Nat → DV) → Nat → Prop) → Prop
structure WalkD (W : Wo) (M : Addr → Prop) (H1 : Hp) (J : It) (N : Nat) (f : Nat → DV) (G : Hp → Prop) (Y : Nat → Hp → V → Hp → Prop) : Prop where
  wk : Walk J N G Y
  gd : ∀ (M' : Addr → Prop) (H' : Hp), FrS M H1 H' → (∀ a, M' a → M a ∨ H1 a = none) → G H'
  yd : ∀ (M' : Addr → Prop) (i : Nat) (H : Hp) (v : V) (H' : Hp), i < N → FrS M H1 H → (∀ a, M' a → M a ∨ H1 a = none) → (∀ a, M' a → IsL H a) → Y i H v H' → Same H H' ∧ Rep W M' H' v (f i)
def TrI (W : Wo) (wi : TI) (d : TDI) : Prop := ∀ (B : Addr → Prop) (Φ : WPhi) (M : Addr → Prop) (σ : L2.St) (H : Hp) (δ : En) (n : Nat) (R : It → Hp → Prop) (K : Nat → (Nat → DV) → Nat → Prop), Ok W B Φ M σ H δ n →
  (∀ N f m J H1 G Y, FrS (pl W) H H1 → Pl W H1 m → WalkD W M H1 J N f G Y → K N f m → R J H1) → d δ n K → wi σ H R
structure DI (X : Cx) (W : Wo) (tg e : Expr) (wi : TI) (d : TDI) : Prop where
  pi : PI X tg e wi
  tr : TrI W wi d
def diL (a : TD) : TDI := fun δ n K => a δ n fun x m => x.asL fun ds => K ds.length (fun i => ds.getD i .non) m
def diR1 (a : TDA) : TDI := fun δ n K => a δ n fun xs m => match xs with
  | [x] => x.asI fun j => -(2 ^ 62) ≤ j ∧ j < 2 ^ 62 ∧ K j.toNat (fun i => .int (0 + (i : Int))) m
  | _ => False
def diR2 (a : TDA) : TDI := fun δ n K => a δ n fun xs m => match xs with
  | [x, y] => x.asI fun i => y.asI fun j => (-(2 ^ 62) ≤ i ∧ i < 2 ^ 62 ∧ -(2 ^ 62) ≤ j ∧ j < 2 ^ 62) ∧ K (j - i).toNat (fun k => .int (i + (k : Int))) m
  | _ => False
def diE (a : TDA) : TDI := fun δ n K => a δ n fun xs m => match xs with
  | [x] => x.asL fun ds => K ds.length (fun i => .tup [.int (i : Nat), ds.getD i .non]) m
  | _ => False
def diZ (a : TDA) : TDI := fun δ n K => a δ n fun xs m => match xs with
  | [x, y] => x.asL fun ds => y.asL fun es => K (min ds.length es.length) (fun i => .tup [ds.getD i .non, es.getD i .non]) m
  | _ => False
theorem getD_get {α : Type} {l : List α} {i : Nat} {z : α} (h : i < l.length) : l[i]? = some (l.getD i z) := by
  rw [List.getD_eq_getElem?_getD, List.getElem?_eq_getElem h]
  rfl
theorem sq_fr {K0 : PySem.W.Frag} {M : Addr → Prop} {H1 H' : Hp} {q : Addr} {vs : List V} (h : H1 q = some (.lst vs)) (n : ¬ M q) (f : FrS M H1 H') : SqL K0 H' q vs := SqL.of (f _ _ h n)
theorem rep_later {M M' : Addr → Prop} {H1 H : Hp} {v : V} {d : DV} (r : Rep W M H1 v d) (f : FrS M H1 H) (s : ∀ a, M' a → M a ∨ H1 a = none) : Rep W M' H v d :=
  ((r.sub (M' := fun a => M a ∨ M' a) fun a z => z.elim .inl (s a)).mono (f.mono fun b hb => .inl hb)).sub fun a z => .inl (.inr z)
theorem walkD_list {K0 : PySem.W.Frag} {M : Addr → Prop} {H1 : Hp} {q : Addr} {vs : List V} {ds : List DV} (h : H1 q = some (.lst vs)) (n : ¬ M q) (r : RepA W M H1 vs ds) :
    WalkD W M H1 (Itl K0 q) ds.length (fun i => ds.getD i .non) (fun H => SqL K0 H q vs) (YAt vs) := by
  rw [← r.1]
  refine ⟨walk_list, fun M' H' f _ => sq_fr h n f, fun M' i H v H' hi f s _ y => ?_⟩
  obtain ⟨rfl, y⟩ := y
  exact ⟨fun _ _ e => e, rep_later (r.2 i v _ y (getD_get (by rw [← r.1]; exact hi))) f s⟩
theorem walkD_range {M : Addr → Prop} {H1 : Hp} {lo : Int} {N : Nat} : WalkD W M H1 (Itr lo N) N (fun i => .int (lo + (i : Int))) (fun _ => True) (YFn fun i => .int (lo + i)) :=
  ⟨walk_range, fun _ _ _ _ => trivial, fun M' i H v H' hi f s _ y => by
    obtain ⟨rfl, rfl⟩ := y
    exact ⟨fun _ _ e => e, .int _⟩⟩
theorem rep_pair {M : Addr → Prop} {H : Hp} {T : Addr} {x y : V} {a b : DV} (dom : ∀ a, M a → IsL H a) (nT : H T = none) (h1 : Rep W M H x a) (h2 : Rep W M H y b) : Rep W M (upd H T (.tup [x, y])) (.ref T) (.tup [a, b]) := by
  have f : FrS M H (upd H T (.tup [x, y])) := FrS.refl.upd (.inl nT)
  have r : RepA W M (upd H T (.tup [x, y])) [x, y] [a, b] := .cons (h1.mono f) (.cons (h2.mono f) .nil)
  exact .tup upd_same (fun z => (dom T z).ne nT) r.1 r.2
theorem walkD_enum {K0 : PySem.W.Frag} {M : Addr → Prop} {H1 : Hp} {q : Addr} {vs : List V} {ds : List DV} (h : H1 q = some (.lst vs)) (n : ¬ M q) (r : RepA W M H1 vs ds) :
    WalkD W M H1 (Ite K0 q) ds.length (fun i => .tup [.int (i : Nat), ds.getD i .non]) (fun H => SqL K0 H q vs) (YPair (fun i => some (.int (i : Nat))) (fun i => vs[i]?)) := by
  rw [← r.1]
  refine ⟨walk_enum, fun M' H' f _ => sq_fr h n f, fun M' i H v H' hi f s dm y => ?_⟩
  obtain ⟨T, x, y, rfl, nT, rfl, e1, e2⟩ := y
  obtain rfl := Option.some.inj e1
  exact ⟨same_new nT, rep_pair dm nT (.int _) (rep_later (r.2 i y _ e2 (getD_get (by rw [← r.1]; exact hi))) f s)⟩
theorem walkD_zip {K0 : PySem.W.Frag} {M : Addr → Prop} {H1 : Hp} {q p : Addr} {vs us : List V} {ds es : List DV} (h : H1 q = some (.lst vs)) (n : ¬ M q) (r : RepA W M H1 vs ds) (h2 : H1 p = some (.lst us)) (n2 : ¬ M p) (r2 : RepA W M H1 us es) :
    WalkD W M H1 (Itz K0 q p) (min ds.length es.length) (fun i => .tup [ds.getD i .non, es.getD i .non]) (fun H => SqL K0 H q vs ∧ SqL K0 H p us) (YPair (fun i => vs[i]?) (fun i => us[i]?)) := by
  refine ⟨walk_zip (by rw [r.1, r2.1]), fun M' H' f _ => ⟨sq_fr h n f, sq_fr h2 n2 f⟩, fun M' i H v H' hi f s dm y => ?_⟩
  obtain ⟨T, x, y, rfl, nT, rfl, e1, e2⟩ := y
  exact ⟨same_new nT, rep_pair dm nT (rep_later (r.2 i x _ e1 (getD_get (by omega))) f s) (rep_later (r2.2 i y _ e2 (getD_get (by omega))) f s)⟩
theorem di_list {l tg : Expr} (hl : DE X W l t d) : DI X W tg l (iList X.K t) (diL d) := ⟨pi_list hl.pe, fun B Φ M σ H δ n R K ok c q => hl.tr B Φ M σ H δ n _ _ ok (fun r m v H' f p ra k => by
  obtain ⟨ds, rfl, k⟩ := DV.asL_inv k
  obtain ⟨a, vs, rfl, h1, h2, h3⟩ := ra.lst_inv
  exact ⟨a, rfl, ⟨vs, SqL.of h1⟩, c _ _ _ _ _ _ _ f p (walkD_list h1 h2 h3) k⟩) q⟩
theorem di_range1 {a tg : Expr} {ta : TA} {da : TDA} {p pos : Pos} (hg : Gl X "range") (hm : X.mg "range" = none) (ha : DA X W [a] ta da) (hs : starEach [a] X.env = [(false, eval a X.env)] := by rfl) : DI X W tg (.Call (.Name "range" p) [a] [] pos) (iRng1 ta) (diR1 da) :=
  ⟨pi_range1 hg hm ha.pa hs, fun B Φ M σ H δ n R K ok c q => ha.tr B Φ M σ H δ n _ _ ok (fun r m v H' f p ra k => by
    match r, k with
    | [x], k =>
      obtain ⟨j, rfl, h1, h2, k⟩ := DV.asI_inv k
      obtain ⟨u, rfl, r1⟩ := ra.one_inv
      exact ⟨j, by rw [r1.int_inv], h1, h2, c _ _ _ _ _ _ _ f p walkD_range k⟩) q⟩
theorem di_range2 {a b tg : Expr} {ta : TA} {da : TDA} {p pos : Pos} (hg : Gl X "range") (hm : X.mg "range" = none) (ha : DA X W [a, b] ta da) (hs : starEach [a, b] X.env = [(false, eval a X.env), (false, eval b X.env)] := by rfl) (hs2 : starEach [b] X.env = [(false, eval b X.env)] := by rfl) :
    DI X W tg (.Call (.Name "range" p) [a, b] [] pos) (iRng2 ta) (diR2 da) :=
  ⟨pi_range2 hg hm ha.pa hs hs2, fun B Φ M σ H δ n R K ok c q => ha.tr B Φ M σ H δ n _ _ ok (fun r m v H' f p ra k => by
    match r, k with
    | [x, y], k =>
      obtain ⟨i, rfl, k1⟩ := DV.asI_inv k
      obtain ⟨j, rfl, h, k2⟩ := DV.asI_inv k1
      obtain ⟨u, us, rfl, r1, rs⟩ := ra.cons_inv
      obtain ⟨w, rfl, r2⟩ := rs.one_inv
      exact ⟨i, j, by rw [r1.int_inv, r2.int_inv], h, c _ _ _ _ _ _ _ f p walkD_range k2⟩) q⟩
theorem di_enum {e : Expr} {ta : TA} {da : TDA} {p pos tpos : Pos} {elts : List Expr} {kk : Nat} (hg : Gl X "enumerate") (hm : X.mg "enumerate" = none) (ha : DA X W [e] ta da) (hs : starEach [e] X.env = [(false, eval e X.env)] := by rfl) :
    DI X W (.Tuple elts kk tpos) (.Call (.Name "enumerate" p) [e] [] pos) (iEnum X.K ta) (diE da) :=
  ⟨pi_enum hg hm ha.pa hs, fun B Φ M σ H δ n R K ok c q => ha.tr B Φ M σ H δ n _ _ ok (fun r m v H' f p ra k => by
    match r, k with
    | [x], k =>
      obtain ⟨ds, rfl, k⟩ := DV.asL_inv k
      obtain ⟨u, rfl, r1⟩ := ra.one_inv
      obtain ⟨a, vs, rfl, h1, h2, h3⟩ := r1.lst_inv
      exact ⟨a, vs, rfl, SqL.of h1, c _ _ _ _ _ _ _ f p (walkD_enum h1 h2 h3) k⟩) q⟩
theorem di_zip {e e2 : Expr} {ta : TA} {da : TDA} {p pos tpos : Pos} {elts : List Expr} {kk : Nat} (hg : Gl X "zip") (hm : X.mg "zip" = none) (ha : DA X W [e, e2] ta da)
    (hs : starEach [e, e2] X.env = (false, eval e X.env) :: starEach [e2] X.env := by rfl) (hpl : (backTo pos (starEach [e2] X.env)).any (·.1) = false := by rfl) :
    DI X W (.Tuple elts kk tpos) (.Call (.Name "zip" p) [e, e2] [] pos) (iZip X.K ta) (diZ da) :=
  ⟨pi_zip hg hm ha.pa hs hpl, fun B Φ M σ H δ n R K ok c q => ha.tr B Φ M σ H δ n _ _ ok (fun r m v H' f p ra k => by
    match r, k with
    | [x, y], k =>
      obtain ⟨ds, rfl, k1⟩ := DV.asL_inv k
      obtain ⟨es, rfl, k2⟩ := DV.asL_inv k1
      obtain ⟨u, us, rfl, r1, rs⟩ := ra.cons_inv
      obtain ⟨w, rfl, r2⟩ := rs.one_inv
      obtain ⟨a, vs, rfl, h1, h2, h3⟩ := r1.lst_inv
      obtain ⟨b, ws, rfl, g1, g2, g3⟩ := r2.lst_inv
      exact ⟨a, b, vs, ws, rfl, SqL.of h1, SqL.of g1, c _ _ _ _ _ _ _ f p (walkD_zip h1 h2 h3 g1 g2 g3) k2⟩) q⟩
/-! ### for -/
def dFor (it : TDI) (g : TDG) (b : TDS) : TDS := fun DD δ n => it δ n fun N f m => ∃ I : Nat → En → Nat → Prop, I 0 δ m ∧ (∀ i δ' m', i < N → I i δ' m' → g (f i) δ' fun δ2 => b { DD with nx := I (i + 1), ct := I (i + 1), bk := DD.nx } δ2 m') ∧ ∀ δ' m', I N δ' m' → DD.nx δ' m'
theorem trS_for {wi : TI} {it : TDI} (hi : TrI W wi it) (hg : TrG W vs g dg) (hb : TrS W t1 d1) : TrS W (tFor wi g t1) (dFor it dg d1) := fun B Φ M0 σ H δ n D DD ok sm q => by
  refine hi B Φ M0 σ H δ n _ _ ok (fun N f m J H1 G Y f1 p1 w ⟨I, i0, is, id⟩ => ?_) q
  have ok1 := ok.expr f1 p1
  have pb : ∀ a, W.p = some a → B a := fun a e => (ok.pool a e).1
  have cl0 := ok.cl
  refine for_it w.wk (fun i σ H => ∃ M' δ' m', Ok W B (fun M H => Φ M H ∧ Sin M0 H1 M H) M' σ H δ' m' ∧ I i δ' m') ?_ ?_ ?_ ?_
  · exact ⟨M0, δ, m, ok1.more (Sin M0 H1) ⟨.refl, fun a z => .inl z⟩ (sin_cl ok.base pb), i0⟩
  · rintro i σ H hi ⟨M', δ', m', ok', _⟩
    exact w.gd M' H ok'.phi.2.1 ok'.phi.2.2
  · rintro i x σ H H' hi ⟨M', δ', m', ok', inv⟩ y
    obtain ⟨s, r⟩ := w.yd M' i H x H' hi ok'.phi.2.1 ok'.phi.2.2 ok'.dom y
    refine hg B _ M' σ H' δ' m' x (f i) _ _ (ok'.expr (.of s) (pl_same ok'.plOf s)) r (fun σ2 δ2 ok3 _ k => hb B _ M' σ2 H' δ2 m' _ _ ok3 ⟨?_, ?_, ?_, ?_⟩ k) (is i δ' m' hi inv)
    · exact fun M σ H δ n ok inv => ⟨M, δ, n, ok, inv⟩
    · exact fun M H v r n ph => sm.rt M H v r n ph.1
    · exact fun M σ H δ n ok k => sm.nx _ _ _ _ _ (ok.less cl0) k
    · exact fun M σ H δ n ok inv => ⟨M, δ, n, ok, inv⟩
  · rintro σ H ⟨M', δ', m', ok', inv⟩
    exact sm.nx _ _ _ _ _ (ok'.less cl0) (id _ _ inv)
theorem ds_for {iter tg : Expr} {body : List Stmt} {wi : TI} {it : TDI} (vs : List Nat) (hp : PassesOwn (model X.prog X.w) X.A X.env X.xe) (hc : X.calm = true) (hi : DI X W tg iter wi it) (hg : DG X W vs tg g dg) (hb : DSs X W body t1 d1)
    (hs : ∀ x, foldedSetIterable iter X.env x = pure x := by intro _; rfl) : DS X W (.For tg iter body [] pos) (tFor wi g t1) (dFor it dg d1) := ⟨ps_for hp hc hi.pi hg.pg hb.pss hs, trS_for hi.tr hg.tr hb.tr⟩
/-! ### while -/
def dWhile (c : TDT) (b : TDS) : TDS := fun DD δ n => ∃ I : Nat → En → Nat → Prop, (∃ k, I k δ n) ∧ ∀ k δ' n', I k δ' n' → c δ' n' fun x m => (x = true → b { DD with nx := fun δ2 n2 => ∃ j, j < k ∧ I j δ2 n2, ct := fun δ2 n2 => ∃ j, j < k ∧ I j δ2 n2, bk := DD.nx } δ' m) ∧ (x = false → DD.nx δ' m)
theorem trS_while {tc : TT} {dc : TDT} (hc : TrT W tc dc) (hb : TrS W t1 d1) : TrS W (tWhile tc t1) (dWhile dc d1) := fun B Φ M σ H δ n D DD ok sm ⟨I, ⟨k0, i0⟩, is⟩ => by
  refine ⟨fun k σ H => ∃ M δ n, Ok W B Φ M σ H δ n ∧ I k δ n, ⟨k0, M, δ, n, ok, i0⟩, ?_⟩
  rintro k σ H ⟨M, δ, n, ok, inv⟩
  refine hc B Φ M σ H δ n _ _ ok (fun b m H' f p q => ite_split (fun z => ?_) (fun z => sm.nx _ _ _ _ _ (ok.expr f p) (q.2 z))) (is k δ n inv)
  refine ⟨fun σ' H' => ∃ j, j < k ∧ ∃ M δ n, Ok W B Φ M σ' H' δ n ∧ I j δ n, fun σ' H' h => h, hb B Φ M σ H' δ m _ _ (ok.expr f p) ⟨?_, ?_, ?_, ?_⟩ (q.1 z)⟩
  · exact fun M σ H δ n ok ⟨j, hj, inv⟩ => ⟨j, hj, M, δ, n, ok, inv⟩
  · exact sm.rt
  · exact sm.nx
  · exact fun M σ H δ n ok ⟨j, hj, inv⟩ => ⟨j, hj, M, δ, n, ok, inv⟩
theorem ds_while {c : Expr} {body : List Stmt} {tc : TT} {dc : TDT} (hp : PassesOwn (model X.prog X.w) X.A X.env X.xe) (hc : DT X W c tc dc) (hb : DSs X W body t1 d1) : DS X W (.While c body [] pos) (tWhile tc t1) (dWhile dc d1) := ⟨ps_while hp hc.pt hb.pss, trS_while hc.tr hb.tr⟩
/-! ### comprehensions -/
def dwipe (δ : En) : List Nat → En
  | [] => δ
  | v :: vs => (dwipe δ vs).set v none
theorem Ok.unset {B M : Addr → Prop} {Φ : WPhi} {σ : L2.St} {H : Hp} {δ : En} {n : Nat} (k : Ok W B Φ M σ H δ n) (i : Nat) : Ok W B Φ M (σ.set i none) H (δ.set i none) n where
  len := by simp [k.len]
  dat := fun j e h => by
    rcases get_set h with ⟨rfl, e1, hl⟩ | ⟨ne, h⟩
    · simp at e1
    · obtain ⟨u, e1, r1⟩ := k.dat j e h
      exact ⟨u, by rw [List.getElem?_set_ne ne]; exact e1, r1⟩
  own := fun j e h => by
    rcases get_set h with ⟨rfl, e1, hl⟩ | ⟨ne, h⟩
    · simp at e1
    · obtain ⟨q, vs, e1, r1⟩ := k.own j e h
      exact ⟨q, vs, by rw [List.getElem?_set_ne ne]; exact e1, r1⟩
  apart := fun a b ds es q h1 h2 h3 h4 => by
    rcases get_set h1 with ⟨rfl, e1, hl⟩ | ⟨ne, h1⟩
    · simp at e1
    · rcases get_set h2 with ⟨rfl, e1, hl⟩ | ⟨ne2, h2⟩
      · simp at e1
      · rw [List.getElem?_set_ne ne] at h3
        rw [List.getElem?_set_ne ne2] at h4
        exact k.apart a b ds es q h1 h2 h3 h4
  base := k.base
  dom := k.dom
  pool := k.pool
  phi := k.phi
  cl := k.cl
theorem Ok.wipe {B M : Addr → Prop} {Φ : WPhi} {σ : L2.St} {H : Hp} {δ : En} {n : Nat} (k : Ok W B Φ M σ H δ n) : ∀ vs : List Nat, Ok W B Φ M (L2.wipe σ vs) H (dwipe δ vs) n
  | [] => k
  | v :: vs => (Ok.wipe k vs).unset v
theorem Ok.any {B M : Addr → Prop} {Φ : WPhi} {σ : L2.St} {H : Hp} {δ : En} {n : Nat} (k : Ok W B Φ M σ H δ n) : Ok W B (fun _ _ => True) M σ H δ n := ⟨k.len, k.dat, k.own, k.apart, k.base, k.dom, k.pool, trivial, fun _ _ _ _ _ _ => trivial⟩
theorem wipe_in {σ : L2.St} {i : Nat} : ∀ {vs : List Nat}, i ∈ vs → (L2.wipe σ vs)[i]? = if i < σ.length then some none else none
  | v :: vs, h => by
    unfold L2.wipe
    rw [List.getElem?_set, wipe_length]
    by_cases e : v = i
    · rw [if_pos e, e]
    · rw [if_neg e]
      exact wipe_in ((List.mem_cons.mp h).resolve_left fun z => e z.symm)
theorem wipe_idem (σ : L2.St) (vs : List Nat) : L2.wipe (L2.wipe σ vs) vs = L2.wipe σ vs := by
  apply List.ext_getElem?
  intro i
  by_cases h : i ∈ vs
  · rw [wipe_in h, wipe_in h, wipe_length]
  · rw [wipe_out h]
/-- a new list that no slot holds -/
theorem Ok.grow {B M : Addr → Prop} {Φ : WPhi} {σ : L2.St} {H : Hp} {δ : En} {n : Nat} (k : Ok W B Φ M σ H δ n) {q : Addr} (nq : H q = none) : Ok W B Φ (fun a => M a ∨ a = q) σ (upd H q (.lst [])) δ n := by
  have := k.setOwn (H' := upd H q (.lst [])) (FrS.refl.upd (.inl nq)) (pl_new k.plOf nq) (vs := []) (ds := []) nq upd_same .nil σ.length
  rw [List.set_eq_of_length_le (Nat.le_refl _), List.set_eq_of_length_le (by rw [k.len]; exact Nat.le_refl _)] at this
  exact this
/-- a list that no slot holds is written -/
theorem Ok.put {B M : Addr → Prop} {σ : L2.St} {H : Hp} {δ : En} {n : Nat} (k : Ok W B (fun _ _ => True) M σ H δ n) {q : Addr} {us0 : List V} (hM : M q) (hB : ¬ B q) (hs : ∀ (i : Nat) (ds : List DV), δ[i]? = some (some (SV.own ds)) → σ[i]? ≠ some (some (.ref q))) :
    Ok W B (fun _ _ => True) M σ (upd H q (.lst us0)) δ n := by
  have f : FrS M H (upd H q (.lst us0)) := FrS.refl.upd (.inr hM)
  refine ⟨k.len, fun i d e => ?_, fun i ds e => ?_, k.apart, k.base, fun a h => ?_, fun p e => ⟨(k.pool p e).1, ?_⟩, trivial, fun _ _ _ _ _ _ => trivial⟩
  · obtain ⟨v, e1, r⟩ := k.dat i d e
    exact ⟨v, e1, r.mono f⟩
  · obtain ⟨t, us, e1, h1, h2, h3, h4⟩ := k.own i ds e
    have tq : t ≠ q := fun z => hs i ds e (by rw [e1, z])
    exact ⟨t, us, e1, h1, h2, by rw [upd_ne tq]; exact h3, h4.mono f⟩
  · by_cases z : a = q
    · rw [z]
      exact ⟨_, upd_same⟩
    · obtain ⟨us, e2⟩ := k.dom a h
      exact ⟨us, by rw [upd_ne z]; exact e2⟩
  · have pq : p ≠ q := fun z => hB (by rw [← z]; exact (k.pool p e).1)
    exact (k.pool p e).2.upd_ne pq
def dLc (it : TDI) (g : TDG) (c : TDT) (e : TD) (vs : List Nat) : TDA := fun δ n K => it δ n fun N f m => N ≤ 100000 ∧ ∃ I : Nat → List DV → Nat → Prop, I 0 [] m ∧
  (∀ i acc m', i < N → I i acc m' → g (f i) (dwipe δ vs) fun δ2 => c δ2 m' fun b m2 => (b = true → e δ2 m2 fun y m3 => I (i + 1) (acc ++ [y]) m3) ∧ (b = false → I (i + 1) acc m2)) ∧ ∀ acc m', I N acc m' → K acc m'
theorem trF_lc {wi : TI} {it : TDI} {tt : TT} {dt : TDT} {te : TE} {de : TD} (vs : List Nat) (hi : TrI W wi it) (hg : TrG W vs g dg) (ht : TrT W tt dt) (he : TrE W te de) : TrF W (tLc wi g tt te vs) (dLc it dg dt de vs) := fun B Φ M σ H δ n Q K ok c q => by
  refine hi B Φ M σ H δ n _ _ ok (fun N f m J H1 G Y f1 p1 w ⟨hN, I, i0, is, id⟩ D nD => ?_) q
  have ok1 := (ok.expr f1 p1).wipe vs
  have nM : ¬ M D := fun z => (ok1.dom D z).ne nD
  have nB : ¬ B D := fun z => nM (ok.base D z)
  have nP : W.p ≠ some D := fun z => nB (ok.pool D z).1
  have sub2 : ∀ a, (M a ∨ a = D) → M a ∨ H1 a = none := fun a z => z.imp (fun h => h) fun e => by rw [e]; exact nD
  have hs0 : ∀ (i : Nat) (ds : List DV), (dwipe δ vs)[i]? = some (some (SV.own ds)) → (L2.wipe σ vs)[i]? ≠ some (some (.ref D)) := fun i ds e z => by
    obtain ⟨t, us, e1, h1, _⟩ := ok1.own i ds e
    rw [z] at e1
    obtain rfl : D = t := by simpa using e1
    exact nM h1
  refine lc_it w.wk (fun i H => ∃ m accv acc, Ok W B (fun _ _ => True) (fun a => M a ∨ a = D) (L2.wipe σ vs) H (dwipe δ vs) m ∧ FrS (pl W) H1 H ∧ H D = some (.lst accv) ∧ RepA W (fun a => M a ∨ a = D) H accv acc ∧ acc.length ≤ i ∧ I i acc m) ?_ ?_ ?_ ?_
  · exact ⟨m, [], [], (ok1.grow nD).any, FrS.refl.upd (.inl nD), upd_same, .nil, Nat.le_refl _, i0⟩
  · rintro i H hi ⟨m', accv, acc, ok', fr, _⟩
    exact w.gd _ H (ok.frM fr) (fun a (z : M a) => .inl z)
  · rintro i x H H' hi ⟨m', accv, acc, ok', fr, hD, ra, hl, inv⟩ y
    obtain ⟨s, r⟩ := w.yd (fun a => M a ∨ a = D) i H x H' hi (ok.frM fr) sub2 ok'.dom y
    have ok2 := ok'.expr (.of s) (pl_same ok'.plOf s)
    refine hg B _ _ _ H' _ m' x (f i) _ _ ok2 r (fun σ2 δ2 ok3 ew k => ⟨ew.trans (wipe_idem σ vs), ?_⟩) (is i acc m' hi inv)
    have frH : FrS (pl W) H H' := .of s
    have Dk : ∀ {Ha Hb : Hp} {o : HO}, FrS (pl W) Ha Hb → Ha D = some o → Hb D = some o := fun f e => f _ _ e nP
    refine ht B _ _ σ2 H' δ2 m' _ _ ok3 (fun b m2 H3 f3 p3 q => ite_split (fun z => ?_) (fun z => ?_)) k
    · refine he B _ _ σ2 H3 δ2 m2 _ _ (ok3.expr f3 p3) (fun y m3 v H4 f4 p4 ry q => ?_) (q.1 z)
      have f34 := (frH.trans f3).trans f4
      have ok4 := (ok2.expr f3 p3).expr f4 p4
      have fM : FrS (fun a => M a ∨ a = D) H H4 := ok'.frM f34
      refine ⟨accv, Dk f34 hD, by rw [ra.1]; exact lt_size2 (by omega), m3, accv ++ [v], acc ++ [y], ok4.put (.inr rfl) nB hs0, (fr.trans f34).upd (.inl nD), upd_same, ?_, by rw [List.length_append]; show acc.length + 1 ≤ i + 1; omega, q⟩
      exact ((ra.mono fM).append (.cons ry .nil)).mono (FrS.refl.upd (.inr (.inr rfl)))
    · have f23 := frH.trans f3
      exact ⟨m2, accv, acc, ok2.expr f3 p3, fr.trans f23, Dk f23 hD, ra.mono (ok'.frM f23), by omega, q.2 z⟩
  · rintro H ⟨m', accv, acc, ok', fr, hD, ra, hl, inv⟩
    exact c _ _ _ _ _ (f1.trans fr) ok'.plOf (none_fr f1 p1 nD) hD ra (id _ _ inv)
structure DTs (X : Cx) (W : Wo) (e : List Expr) (t : TT) (d : TDT) : Prop where
  pts : PTs X e t
  tr : TrT W t d
theorem dts_nil : DTs X W [] tYes dYes := ⟨pts_nil, fun B Φ M σ H δ n Q K ok c h => c _ _ _ .refl ok.plOf h⟩
theorem dts_one {c : Expr} {t : TT} {d : TDT} (h : DT X W c t d) : DTs X W [c] t d := ⟨pts_one h.pt, h.tr⟩
section
variable {elt tg iter : Expr} {ifs : List Expr} {scope : Scope} {own : List (Str × Nat)} {wi : TI} {it : TDI} {tt : TT} {dt : TDT} {te : TE} {de : TD}
theorem df_lc (hc : X.calm = true) (hN : X.N.Nodup) (hi : DI X W tg iter wi it) (ok : BlkOk X.N X.env.scope scope own)
    (hg : ∀ (s : Shared) (H : Hp) (C : Addr) (cl : List (Str × Addr)) (fp : List Addr), DG (X.blk s H scope (compEnvC scope cl C X.env) fp) W (own.map (·.2)) tg g dg) (ht : ∀ (s : Shared) (H : Hp) (C : Addr) (cl : List (Str × Addr)) (fp : List Addr), DTs (X.blk s H scope (compEnvC scope cl C X.env) fp) W ifs tt dt)
    (he : ∀ (s : Shared) (H : Hp) (C : Addr) (cl : List (Str × Addr)) (fp : List Addr), DE (X.blk s H scope (compEnvC scope cl C X.env) fp) W elt te de) (hs : ∀ x, foldedSetIterable iter X.env x = pure x := by intro _; rfl) :
    DF X W (.ListComp elt [⟨tg, iter, ifs, 0⟩] scope pos) (tLc wi g tt te (own.map (·.2))) (dLc it dg dt de (own.map (·.2))) :=
  ⟨pe_lc hc hN hi.pi ok (fun s H C cl fp => (hg s H C cl fp).pg) (fun s H C cl fp => (ht s H C cl fp).pts) (fun s H C cl fp => (he s H C cl fp).pe) hs,
    trF_lc _ hi.tr (hg X.s_0 X.H_0 0 [] []).tr (ht X.s_0 X.H_0 0 [] []).tr (he X.s_0 X.H_0 0 [] []).tr⟩
theorem ds_setLc {i : Nat} {y : Str} {py : Pos} {spos : Pos} (hc : X.calm = true) (hN : X.N.Nodup) (hy : X.N[i]? = some y) (hyl : X.env.scope.names.lookup y = some .local)
    (hsw : swapsWith (.ListComp elt [⟨tg, iter, ifs, 0⟩] scope pos) (some (.Name y py)) spos.line X.env = pure true) (hi : DI X W tg iter wi it) (ok : BlkOk X.N X.env.scope scope own)
    (hg : ∀ (s : Shared) (H : Hp) (C : Addr) (cl : List (Str × Addr)) (fp : List Addr), DG (X.blk s H scope (compEnvC scope cl C X.env) fp) W (own.map (·.2)) tg g dg) (ht : ∀ (s : Shared) (H : Hp) (C : Addr) (cl : List (Str × Addr)) (fp : List Addr), DTs (X.blk s H scope (compEnvC scope cl C X.env) fp) W ifs tt dt)
    (he : ∀ (s : Shared) (H : Hp) (C : Addr) (cl : List (Str × Addr)) (fp : List Addr), DE (X.blk s H scope (compEnvC scope cl C X.env) fp) W elt te de) (hs : ∀ x, foldedSetIterable iter X.env x = pure x := by intro _; rfl) :
    DS X W (.Assign [.Name y py] (.ListComp elt [⟨tg, iter, ifs, 0⟩] scope pos) spos) (tAsg (tLc wi g tt te (own.map (·.2))) (gName i)) (dSet i (dFE (dLc it dg dt de (own.map (·.2))))) :=
  ⟨ps_setLc hc hN hy hyl hsw hi.pi ok (fun s H C cl fp => (hg s H C cl fp).pg) (fun s H C cl fp => (ht s H C cl fp).pts) (fun s H C cl fp => (he s H C cl fp).pe) hs,
    trS_set i (trF_E (trF_lc _ hi.tr (hg X.s_0 X.H_0 0 [] []).tr (ht X.s_0 X.H_0 0 [] []).tr (he X.s_0 X.H_0 0 [] []).tr))⟩
theorem ds_setLcO {i : Nat} {y : Str} {py : Pos} {spos : Pos} (hc : X.calm = true) (hN : X.N.Nodup) (hy : X.N[i]? = some y) (hyl : X.env.scope.names.lookup y = some .local)
    (hsw : swapsWith (.ListComp elt [⟨tg, iter, ifs, 0⟩] scope pos) (some (.Name y py)) spos.line X.env = pure true) (hi : DI X W tg iter wi it) (ok : BlkOk X.N X.env.scope scope own)
    (hg : ∀ (s : Shared) (H : Hp) (C : Addr) (cl : List (Str × Addr)) (fp : List Addr), DG (X.blk s H scope (compEnvC scope cl C X.env) fp) W (own.map (·.2)) tg g dg) (ht : ∀ (s : Shared) (H : Hp) (C : Addr) (cl : List (Str × Addr)) (fp : List Addr), DTs (X.blk s H scope (compEnvC scope cl C X.env) fp) W ifs tt dt)
    (he : ∀ (s : Shared) (H : Hp) (C : Addr) (cl : List (Str × Addr)) (fp : List Addr), DE (X.blk s H scope (compEnvC scope cl C X.env) fp) W elt te de) (hs : ∀ x, foldedSetIterable iter X.env x = pure x := by intro _; rfl) :
    DS X W (.Assign [.Name y py] (.ListComp elt [⟨tg, iter, ifs, 0⟩] scope pos) spos) (tAsg (tLc wi g tt te (own.map (·.2))) (gName i)) (dSetO i (dLc it dg dt de (own.map (·.2)))) :=
  ⟨ps_setLc hc hN hy hyl hsw hi.pi ok (fun s H C cl fp => (hg s H C cl fp).pg) (fun s H C cl fp => (ht s H C cl fp).pts) (fun s H C cl fp => (he s H C cl fp).pe) hs,
    trS_setO i (trF_lc _ hi.tr (hg X.s_0 X.H_0 0 [] []).tr (ht X.s_0 X.H_0 0 [] []).tr (he X.s_0 X.H_0 0 [] []).tr)⟩
end
end

/-! ### readings without a heap: calls, and what a def is worth -/
abbrev Wo.at (W : Wo) (p : Option Addr) : Wo := { W with p := p }
abbrev FD := List DV → Nat → (DV → Nat → Prop) → Prop
/-- a def that is worth f -/
def spD (W : Wo) (f : FD) : Sp := fun vs H Q _ => ∃ (p : Option Addr) (M : Addr → Prop) (ds : List DV) (n : Nat) (K : DV → Nat → Prop), (∀ a, M a → IsL H a) ∧ (∀ a, p = some a → M a ∧ Well H a n) ∧ RepA (W.at p) M H vs ds ∧
  (∀ r m v H', FrS (pl (W.at p)) H H' → Pl (W.at p) H' m → Rep (W.at p) M H' v r → K r m → Q v H') ∧ f ds n K
/-- .. as a callee's promise -/
def RdFn (W : Wo) (sp : Sp) (f : FD) : Prop := ∀ (M : Addr → Prop) (H : Hp) (vs : List V) (ds : List DV) (n : Nat) (Q : VK) (E : XK) (K : DV → Nat → Prop), (∀ a, M a → IsL H a) → (∀ a, W.p = some a → M a ∧ Well H a n) → RepA W M H vs ds →
  (∀ r m v H', FrS (pl W) H H' → Pl W H' m → Rep W M H' v r → K r m → Q v H') → f ds n K → sp vs H Q E
theorem rd_spD {W0 W : Wo} {f : FD} (h : W0.at W.p = W) : RdFn W (spD W0 f) f := fun M H vs ds n Q E K d p r c q => ⟨W.p, M, ds, n, K, d, p, by rw [h]; exact r, by rw [h]; exact c, q⟩
def dCall (f : FD) (a : TDA) : TD := fun δ n K => a δ n fun xs m => f xs m K
def dstart (N : List Str) (ds : List DV) : En := ds.map (fun d => some (SV.dat d)) ++ List.replicate (N.length - ds.length) none
theorem start_get {N : List Str} {vs : List V} {i : Nat} {v : V} (h : vs[i]? = some v) : (L2.start N vs)[i]? = some (some v) := by
  unfold L2.start
  have hi := (List.getElem?_eq_some_iff.mp h).1
  rw [List.getElem?_append_left (by simpa using hi), List.getElem?_map, h]
  rfl
theorem dstart_get {N : List Str} {ds : List DV} {i : Nat} {s : SV} (h : (dstart N ds)[i]? = some (some s)) : ∃ d, ds[i]? = some d ∧ s = .dat d := by
  unfold dstart at h
  by_cases hi : i < ds.length
  · rw [List.getElem?_append_left (by simpa using hi), List.getElem?_map, List.getElem?_eq_getElem hi] at h
    have h2 : some (SV.dat ds[i]) = some s := Option.some.inj h
    exact ⟨ds[i], List.getElem?_eq_getElem hi, (Option.some.inj h2).symm⟩
  · rw [List.getElem?_append_right (by simpa using hi), List.getElem?_replicate] at h
    split at h
    · cases h
    · cases h
theorem ok_start {W : Wo} {M : Addr → Prop} {H : Hp} {vs : List V} {ds : List DV} {n : Nat} {N : List Str} (dm : ∀ a, M a → IsL H a) (p : ∀ a, W.p = some a → M a ∧ Well H a n) (r : RepA W M H vs ds) :
    Ok W M (fun M' H' => (∀ a, M' a → M a ∨ H a = none) ∧ FrS (pl W) H H') M (L2.start N vs) H (dstart N ds) n := by
  refine ⟨?_, fun i d e => ?_, fun i es e => ?_, fun i j es fs q e => ?_, fun a h => h, dm, p, ⟨fun a h => .inl h, .refl⟩, ?_⟩
  · unfold L2.start dstart
    simp [r.1]
  · obtain ⟨d2, e1, e2⟩ := dstart_get e
    obtain rfl : d = d2 := by simpa using e2
    obtain ⟨v, e3, r3⟩ := r.get e1
    exact ⟨v, start_get e3, r3⟩
  · obtain ⟨d2, e1, e2⟩ := dstart_get e
    cases e2
  · obtain ⟨d2, e1, e2⟩ := dstart_get e
    cases e2
  · rintro M1 H1 M2 H2 ⟨s1, f1⟩ ⟨l1, l2, l3⟩
    have up : ∀ a, H1 a = none → M a ∨ H a = none := fun a h => by
      by_cases z : W.p = some a
      · exact .inl (p a z).1
      · right
        cases e : H a with
        | none => rfl
        | some o =>
          rw [f1 a o e z] at h
          cases h
    refine ⟨fun a h => (l2 a h).elim (s1 a) (up a), fun b o e n => l1 b o (f1 b o e n) (fun z => ?_) n⟩
    rcases s1 b z.1 with q | q
    · exact z.2 q
    · rw [q] at e
      cases e
section
variable {P : Program} {w : World} {K : PySem.W.Frag} {mg : Str → Option Value} {base : Heap}
theorem okD {x qual : Str} {st : Stmt} {f : Addr} {fd : FuncData} {N ps : List Str} {k : Nat} (F : Fun K x qual st f fd) (S : FnScope N ps (defScope st)) (W : Wo) (g : FD) (len : ∀ ds n K, g ds n K → ds.length = ps.length)
    (body : ∀ (p : Option Addr) (cdv : Value) (A : Around) (outer : List Env) (s : Shared) (H : Hp) (E : XK), Room k (A.deeper (envOfC qual (defScope st) s.heap.objs.size f cdv)) →
      ∃ t d, DSs (cxOf CX0 P w K mg base N qual (defScope st) f cdv A outer s H E).nox (W.at p) (defBody st) t d ∧ ∀ ds n K, g ds n K → d { nx := fun _ m => K .non m, rt := K } (dstart N ds) n) : FnOk P w K mg base CX0 (k + 1) f fd ps (spD W g) := by
  refine F.ok S (fun vs H Q E h => ?_) (fun cdv A outer s H vs Q E hr h => ?_)
  · obtain ⟨p, M, ds, n, K, _, _, r, _, q⟩ := h
    rw [r.1]
    exact len _ _ _ q
  · obtain ⟨p, M, ds, n, KK, dm, pp, r, c, q⟩ := h
    obtain ⟨t, d, D, g2⟩ := body p cdv A outer s H E hr
    refine ⟨t, D.pss, D.tr M _ M _ H _ n _ _ (ok_start dm pp r) ⟨?_, ?_, ?_, ?_⟩ (g2 ds n KK q)⟩
    · exact fun M' σ H' δ m ok k => c _ _ _ _ ok.phi.2 ok.plOf .non k
    · exact fun M' H' v r m ph bs p' ra k => c _ _ _ _ ph.2 p' (ra.sub fun a h => .inl (bs a h)) k
    · exact fun _ _ _ _ _ _ h => h.elim
    · exact fun _ _ _ _ _ _ h => h.elim
theorem okGD {x qual : Str} {st : Stmt} {f : Addr} {fd : FuncData} {N ps : List Str} {k : Nat} (F : Fun K x qual st f fd) (S : FnScope N ps (defScope st)) (W : Wo) (g : FD) (len : ∀ ds n K, g ds n K → ds.length = ps.length)
    (body : ∀ (p : Option Addr) (cdv : Value) (A : Around) (outer : List Env) (s : Shared) (H : Hp) (E : XK), A.guards = some [] → Room k (A.deeper (envOfC qual (defScope st) s.heap.objs.size f cdv)) →
      ∃ t d, DSs (cxOf CX0 P w K mg base N qual (defScope st) f cdv A outer s H E).nox (W.at p) (defBody st) t d ∧ ∀ ds n K, g ds n K → d { nx := fun _ m => K .non m, rt := K } (dstart N ds) n) : FnG P w K mg base (k + 1) f fd ps (spD W g) := by
  refine okG F S (fun vs H Q E h => ?_) (fun cdv A outer s H vs Q E hgd hr h => ?_)
  · obtain ⟨p, M, ds, n, K, _, _, r, _, q⟩ := h
    rw [r.1]
    exact len _ _ _ q
  · obtain ⟨p, M, ds, n, KK, dm, pp, r, c, q⟩ := h
    obtain ⟨t, d, D, g2⟩ := body p cdv A outer s H E hgd hr
    refine ⟨t, D.pss, D.tr M _ M _ H _ n _ _ (ok_start dm pp r) ⟨?_, ?_, ?_, ?_⟩ (g2 ds n KK q)⟩
    · exact fun M' σ H' δ m ok k => c _ _ _ _ ok.phi.2 ok.plOf .non k
    · exact fun M' H' v r m ph bs p' ra k => c _ _ _ _ ph.2 p' (ra.sub fun a h => .inl (bs a h)) k
    · exact fun _ _ _ _ _ _ h => h.elim
    · exact fun _ _ _ _ _ _ h => h.elim
end
section
variable {X : Cx} {W : Wo} {e : Expr} {es : List Expr} {tA : TA} {dA : TDA} {sp : Sp} {f : FD} {ps : List Str} {fd : FuncData} {a : Addr} {k : Nat} {x : Str} {p pos : Pos}
theorem Ok.poolM {B M : Addr → Prop} {Φ : WPhi} {σ : L2.St} {H : Hp} {δ : En} {n : Nat} (ok : Ok W B Φ M σ H δ n) : ∀ a, W.p = some a → M a ∧ Well H a n := fun a e => ⟨ok.base a (ok.pool a e).1, (ok.pool a e).2⟩
theorem trE_call (rd : RdFn W sp f) (ha : TrA W tA dA) : TrE W (tCall sp [] E0 tA) (dCall f dA) := fun B Φ M σ H δ n Q K ok c q => ha B Φ M σ H δ n _ _ ok (fun ds m vs H1 f1 p1 ra q => by
  have ok1 := ok.expr f1 p1
  rw [List.append_nil]
  exact rd M H1 vs ds m Q E0 K ok1.dom ok1.poolM ra (fun r j v H' f2 p2 r2 k => c _ _ _ _ (f1.trans f2) p2 r2 k) q) q
theorem de_call (F : FnOk X.prog X.w X.K X.mg X.base CX0 k a fd ps sp) (rd : RdFn W sp f) (hr : Room k X.A) (hm : X.mg x = some (.ref a)) (hk : PySem.W.keepIn X.K (.ref a) = true) (hb : Binds X.K fd ps []) (ha : DA X W (e :: es) tA dA) (hg : Gl X x := by rfl)
    (hdb : (x == ("__debug__" : Str)) = false := by decide) (he : starEach (e :: es) X.env = (false, eval e X.env) :: starEach es X.env := by rfl) (hpl : (backTo pos (starEach es X.env)).any (·.1) = false := by rfl) :
    DE X W (.Call (.Name x p) (e :: es) [] pos) (tCall sp [] E0 tA) (dCall f dA) := ⟨pe_call F hr hg hm hk hb .nil pass0 ha.pa hdb he hpl, trE_call rd ha.tr⟩
theorem de_callG (F : FnG X.prog X.w X.K X.mg X.base k a fd ps sp) (rd : RdFn W sp f) (hgd : X.A.guards = some []) (hr : Room k X.A) (hm : X.mg x = some (.ref a)) (hk : PySem.W.keepIn X.K (.ref a) = true) (hb : Binds X.K fd ps []) (ha : DA X W (e :: es) tA dA) (hg : Gl X x := by rfl)
    (hdb : (x == ("__debug__" : Str)) = false := by decide) (he : starEach (e :: es) X.env = (false, eval e X.env) :: starEach es X.env := by rfl) (hpl : (backTo pos (starEach es X.env)).any (·.1) = false := by rfl) :
    DE X W (.Call (.Name x p) (e :: es) [] pos) (tCall sp [] E0 tA) (dCall f dA) := ⟨pe_callG F hgd hr hg hm hk hb ha.pa hdb he hpl, trE_call rd ha.tr⟩
/-- C(..) -/
theorem de_make {C i : Addr} (M : Mk X.K C i) (F : FnOk X.prog X.w X.K X.mg X.base CX0 k i fd ps sp) (rd : TrE W (tMake C sp [] E0 tA) (dCall f dA)) (hr : Room (k + 1) X.A) (hm : X.mg x = some (.ref C)) (hb : Binds X.K fd ps []) (ha : PA X (e :: es) tA) (hg : Gl X x := by rfl)
    (hdb : (x == ("__debug__" : Str)) = false := by decide) (he : starEach (e :: es) X.env = (false, eval e X.env) :: starEach es X.env := by rfl) (hpl : (backTo pos (starEach es X.env)).any (·.1) = false := by rfl) :
    DE X W (.Call (.Name x p) (e :: es) [] pos) (tMake C sp [] E0 tA) (dCall f dA) := ⟨pe_make M F hr hg hm hb .nil pass0 ha hdb he hpl, rd⟩
/-- a call of the pool's draw -/
def fDraw : FD := fun ds n K => match ds with
  | [.pool, .int m] => n ≤ 10 ^ 9 ∧ 0 < m ∧ m < 2 ^ 200 ∧ ∀ r : Int, 0 ≤ r → r < m → K (.int r) (n + 1)
  | _ => False
end

/-! ### data without a heap: calendars -/
def dPr (m : Int × Int) : DV := .tup [.int m.1, .int m.2]
def dInt (xs : List Int) : DV := .lst (xs.map DV.int)
def dPrs (ms : List (Int × Int)) : DV := .lst (ms.map dPr)
section
variable {M : Addr → Prop} {H H' : Hp}
theorem tups_rep {W : Wo} {ts : List Addr} {ms : List (Int × Int)} (h : Tups H ts ms) (n : ∀ t ∈ ts, ¬ M t) : RepA W M H (ts.map V.ref) (ms.map dPr) := by
  induction ts generalizing ms with
  | nil =>
    cases ms with
    | nil => exact .nil
    | cons m ms => exact h.elim
  | cons t ts ih =>
    cases ms with
    | nil => exact h.elim
    | cons m ms =>
      refine .cons ?_ (ih h.2 fun t ht => n t (List.mem_cons_of_mem _ ht))
      have r : RepA W M H [V.int m.1, V.int m.2] [.int m.1, .int m.2] := .cons (.int _) (.cons (.int _) .nil)
      exact .tup h.1 (n t List.mem_cons_self) r.1 r.2
theorem prs_inv {W : Wo} {vs : List V} {ms : List (Int × Int)} (h : RepA W M H vs (ms.map dPr)) : ∃ ts, vs = ts.map V.ref ∧ Tups H ts ms ∧ ∀ t ∈ ts, ¬ M t := by
  induction ms generalizing vs with
  | nil => exact ⟨[], h.nil_inv, trivial, fun t ht => nomatch ht⟩
  | cons m ms ih =>
    obtain ⟨v, us, rfl, h1, h2⟩ := h.cons_inv
    obtain ⟨ts, rfl, tp, nt⟩ := ih h2
    obtain ⟨q, ws, rfl, hq, nq, r⟩ := h1.tup_inv
    obtain ⟨a, xs, rfl, ra, r⟩ := r.cons_inv
    obtain ⟨b, rfl, rb⟩ := r.one_inv
    rw [ra.int_inv, rb.int_inv] at hq
    refine ⟨q :: ts, rfl, ⟨hq, tp⟩, fun t ht => ?_⟩
    rcases List.mem_cons.mp ht with rfl | ht
    · exact nq
    · exact nt t ht
theorem poolPl {W : Wo} {n : Nat} (p : ∀ a, W.p = some a → M a ∧ Well H a n) : Pl W H n := fun a e => (p a e).2
def dP (f : DV → (DV → Prop) → Prop) (a : TD) : TD := fun δ n K => a δ n fun x m => f x fun z => K z m
def dPF (f : DV → (List DV → Prop) → Prop) (a : TD) : TDA := fun δ n K => a δ n fun x m => f x fun z => K z m
def obC (C : Addr) : (Addr → Prop) → Hp → Addr → OV → Prop := fun M H x o => match o with
  | .cal ps ms => (∃ l d, CalAt C H x l d ps ms ∧ ¬ M x ∧ ¬ M l ∧ ¬ M d) ∧ Paces ps ∧ Fit ms
  | .cls => x = C
  | _ => False
def Wc (C : Addr) : Wo where
  p := none
  ob := obC C
  mono := fun {M H H' x o} h f => by
    cases o with
    | rul _ _ => exact h.elim
    | cal ps ms =>
      obtain ⟨⟨l, d, ⟨⟨dx, h1⟩, h2, h3⟩, n1, n2, n3⟩, k⟩ := h
      exact ⟨⟨l, d, ⟨⟨dx, f _ _ h1 n1⟩, f _ _ h2 n2, f _ _ h3 n3⟩, n1, n2, n3⟩, k⟩
    | cls => exact h
  sub := fun {M M' H x o} h s => by
    cases o with
    | rul _ _ => exact h.elim
    | cal ps ms =>
      obtain ⟨⟨l, d, ⟨⟨dx, h1⟩, h2, h3⟩, n1, n2, n3⟩, k⟩ := h
      have nn : ∀ {q o}, H q = some o → ¬ M q → ¬ M' q := fun e n z => by
        rcases s _ z with z | z
        · exact n z
        · rw [z] at e
          cases e
      exact ⟨⟨l, d, ⟨⟨dx, h1⟩, h2, h3⟩, nn h1 n1, nn h2 n2, nn h3 n3⟩, k⟩
    | cls => exact h
theorem cal_inv {C : Addr} {p : Option Addr} {v : V} {ps : List Int} {ms : List (Int × Int)} (h : Rep ((Wc C).at p) M H v (.obj (.cal ps ms))) : ∃ x l d, v = .ref x ∧ CalAt C H x l d ps ms ∧ Paces ps ∧ Fit ms := by
  cases h with
  | obj h =>
    obtain ⟨⟨l, d, c, _⟩, k1, k2⟩ := h
    exact ⟨_, l, d, rfl, c, k1, k2⟩
theorem pl_fr {W : Wo} {q : Addr} {H H' : Hp} (e : W.p = some q) (f : Fr q H H') : FrS (pl W) H H' := fun b o h n => f b o h fun z => n (by rw [z]; exact e)
theorem pl_well {W : Wo} {q : Addr} {H' : Hp} {n : Nat} (e : W.p = some q) (w : Well H' q n) : Pl W H' n := fun a ea => by
  rw [e] at ea
  obtain rfl := Option.some.inj ea
  exact w
theorem rd_take {W : Wo} : RdFn W spTake fDraw := fun M H vs ds n Q E K dm pp r c h => by
  unfold fDraw at h
  split at h
  · obtain ⟨h1, h2, h3, h⟩ := h
    obtain ⟨v, us, rfl, r1, rs⟩ := r.cons_inv
    obtain ⟨u, rfl, r2⟩ := rs.one_inv
    cases r1 with
    | pool e =>
      rename_i q
      exact ⟨q, n, _, by rw [r2.int_inv], (pp q e).2, h1, h2, h3, fun z H' z0 z1 f w => c _ _ _ _ (pl_fr e f) (pl_well e w) (.int _) (h z z0 z1)⟩
  · exact h.elim
def fNumber : FD := fun ds n K => ds = [.pool] ∧ n ≤ 10 ^ 8 ∧ ∀ r : Int, -10 ^ 30 < r → r < 10 ^ 30 → K (.int r) (n + 4)
theorem rd_number {W : Wo} : RdFn W spNumber fNumber := fun M H vs ds n Q E K dm pp r c h => by
  obtain ⟨rfl, h1, h⟩ := h
  obtain ⟨v, rfl, r1⟩ := r.one_inv
  cases r1 with
  | pool e =>
    rename_i q
    exact ⟨q, n, rfl, (pp q e).2, h1, fun z H' z0 z1 f w => c _ _ _ _ (pl_fr e f) (pl_well e w) (.int _) (h z z0 z1)⟩
def fPaces : FD := fun ds n K => ∃ z : Int, ds = [.pool, .int z] ∧ n ≤ 10 ^ 8 ∧ 1 ≤ z ∧ z ≤ 12 ∧ ∀ xs : List Int, Paces xs → (xs.length : Int) = z → K (dInt xs) (n + 20)
theorem rd_paces {W : Wo} : RdFn W spPaces fPaces := fun M H vs ds n Q E K dm pp r c h => by
  obtain ⟨z, rfl, h1, z0, z1, h⟩ := h
  obtain ⟨v, us, rfl, r1, rs⟩ := r.cons_inv
  obtain ⟨u, rfl, r2⟩ := rs.one_inv
  cases r1 with
  | pool e =>
    rename_i q
    refine ⟨q, n, z, by rw [r2.int_inv], (pp q e).2, h1, z0, z1, fun a xs H' hp hl na _ ha f w => ?_⟩
    have ra := repA_ints (W := W) (M := M) (H := H') xs
    exact c (dInt xs) _ _ _ (pl_fr e f) (pl_well e w) (.lst ha (fun z => (dm a z).ne na) ra.1 ra.2) (h xs hp hl)
def fMarks : FD := fun ds n K => ∃ z cap : Int, ds = [.pool, .int z, .int cap] ∧ n ≤ 10 ^ 7 ∧ (1 ≤ z ∧ z ≤ 1000) ∧ (0 ≤ cap ∧ cap ≤ 3) ∧ ∀ ms : List (Int × Int), Marks cap ms → K (dPrs ms) (n + 20)
theorem rd_marks {W : Wo} : RdFn W spMarks fMarks := fun M H vs ds n Q E K dm pp r c h => by
  obtain ⟨z, cap, rfl, h1, ⟨z0, z1⟩, ⟨c0, c1⟩, h⟩ := h
  obtain ⟨v, us, rfl, r1, rs⟩ := r.cons_inv
  obtain ⟨u, us, rfl, r2, rs⟩ := rs.cons_inv
  obtain ⟨t, rfl, r3⟩ := rs.one_inv
  cases r1 with
  | pool e =>
    rename_i q
    refine ⟨q, n, z, cap, by rw [r2.int_inv, r3.int_inv], (pp q e).2, h1, z0, z1, c0, c1, fun a ts ms H' hm na _ ha tp nt f w => ?_⟩
    have ra := tups_rep (W := W) (M := M) tp fun t ht z => (dm t z).ne (nt t ht)
    exact c (dPrs ms) _ _ _ (pl_fr e f) (pl_well e w) (.lst ha (fun z => (dm a z).ne na) ra.1 ra.2) (h ms hm)
def fCal : FD := fun ds n K => ∃ ps ms, ds = [dInt ps, dPrs ms] ∧ Paces ps ∧ Fit ms ∧ K (.obj (.cal ps (realOf ps ms))) n
def fSpeeds : DV → (List DV → Prop) → Prop := fun x K => match x with
  | .obj (.cal ps _) => K (ps.map DV.int)
  | _ => False
def fChgs : DV → (List DV → Prop) → Prop := fun x K => match x with
  | .obj (.cal _ ms) => K (ms.map dPr)
  | _ => False
end
section
variable {C : Addr} {p : Option Addr} {X : Cx} {e : Expr} {es : List Expr} {tA : TA} {dA : TDA} {ta : TE} {da : TD} {pos : Pos} {k : Nat} {a : Addr} {fd : FuncData} {ps : List Str}
theorem trE_cal {K0 : PySem.W.Frag} (ha : TrA ((Wc C).at p) tA dA) : TrE ((Wc C).at p) (tMake C (spInit C K0) [] E0 tA) (dCall fCal dA) := fun B Φ M σ H δ n Q K ok c q => ha B Φ M σ H δ n _ _ ok (fun ds m vs H1 f1 p1 ra q x dx nx ndx dn => by
  obtain ⟨qs, ms, rfl, hp, fit, q⟩ := q
  obtain ⟨va, us, rfl, r1, rs⟩ := ra.cons_inv
  obtain ⟨vc, rfl, r2⟩ := rs.one_inv
  obtain ⟨a, vs1, rfl, ha1, na, ra1⟩ := r1.lst_inv
  obtain ⟨b, vs2, rfl, hb1, nb, ra2⟩ := r2.lst_inv
  obtain rfl := ra1.ints
  obtain ⟨ts, rfl, tp, nt⟩ := prs_inv ra2
  have dom := (ok.expr f1 p1).dom
  rw [List.append_nil]
  refine made_ok rfl nx ndx ha1 hb1 tp hp fit fun H' l d cal nl nd s => ⟨rfl, ?_⟩
  have ne : ∀ {z}, H1 z = none → ¬ M z := fun hz q => (dom _ q).ne hz
  exact c (.obj (.cal qs (realOf qs ms))) _ _ _ (f1.trans (.of s)) (pl_same p1 s) (.obj ⟨⟨l, d, cal, ne nx, ne nl, ne nd⟩, hp, realFit fit⟩) q) q
theorem trF_speeds (ha : TrE ((Wc C).at p) ta da) : TrF ((Wc C).at p) (tProp C (spSpeeds C) [] E0 ta) (dPF fSpeeds da) := fun B Φ M σ H δ n Q K ok c q => ha B Φ M σ H δ n _ _ ok (fun x m v H1 f1 p1 ra q => by
  unfold fSpeeds at q
  split at q
  · obtain ⟨x, l, d, rfl, cal, hp, fit⟩ := cal_inv ra
    obtain ⟨dx, hx⟩ := cal.ob
    exact ⟨x, dx, _, rfl, hx, ⟨x, l, d, _, _, rfl, cal, fun q' nq => c _ _ _ _ _ (f1.upd (.inl (none_fr f1 p1 nq))) (pl_new p1 nq) (none_fr f1 p1 nq) upd_same (repA_new (repA_ints _) nq) q⟩⟩
  · exact q.elim) q
theorem trF_chgs (ha : TrE ((Wc C).at p) ta da) : TrF ((Wc C).at p) (tProp C (spChanges C) [] E0 ta) (dPF fChgs da) := fun B Φ M σ H δ n Q K ok c q => ha B Φ M σ H δ n _ _ ok (fun x m v H1 f1 p1 ra q => by
  unfold fChgs at q
  split at q
  · obtain ⟨x, l, d, rfl, cal, hp, fit⟩ := cal_inv ra
    obtain ⟨dx, hx⟩ := cal.ob
    refine ⟨x, dx, _, rfl, hx, ⟨x, l, d, _, _, rfl, cal, fun H2 q' ts s2 nq nt qt hq tp => ?_⟩⟩
    refine c _ _ _ _ _ (f1.trans (.of s2)) (pl_same p1 s2) (none_fr f1 p1 nq) hq (tups_rep tp fun t ht z => ?_) q
    rcases z with z | z
    · exact ((ok.expr f1 p1).dom t z).ne (nt t ht)
    · exact qt (by rw [← z]; exact ht)
  · exact q.elim) q
theorem df_speeds {g p1 : Addr} (he : DE X ((Wc C).at p) e ta da) (c : Cls X.K C) (hp : PropOf X.K C "speeds" p1 g) (F : FnOk X.prog X.w X.K X.mg X.base CX0 k g fd ps (spSpeeds C)) (hr : Room (k + 1) X.A) (hb : Binds X.K fd ps [])
    (hab : attributeBase e "speeds" X.env (eval e X.env) = eval e X.env := by rfl) : DF X ((Wc C).at p) (.Attribute e "speeds" pos) (tProp C (spSpeeds C) [] E0 ta) (dPF fSpeeds da) := ⟨pe_prop he.pe c hp F hr hb .nil pass0 hab, trF_speeds he.tr⟩
theorem df_chgs {g p1 : Addr} (he : DE X ((Wc C).at p) e ta da) (c : Cls X.K C) (hp : PropOf X.K C "changes" p1 g) (F : FnOk X.prog X.w X.K X.mg X.base CX0 k g fd ps (spChanges C)) (hr : Room (k + 1) X.A) (hb : Binds X.K fd ps [])
    (hab : attributeBase e "changes" X.env (eval e X.env) = eval e X.env := by rfl) : DF X ((Wc C).at p) (.Attribute e "changes" pos) (tProp C (spChanges C) [] E0 ta) (dPF fChgs da) := ⟨pe_prop he.pe c hp F hr hb .nil pass0 hab, trF_chgs he.tr⟩
end

theorem shaped_ints (xs : List Int) : SeqAt.shaped (dInts xs) = true := by
  have h1 : ∀ xs : List Int, PyData.canLayAll0 (xs.map PyData.int) = true := by
    intro xs
    induction xs with
    | nil => rfl
    | cons x xs ih =>
      rw [List.map_cons]
      show (PyData.canLay0 (.int x) && PyData.canLayAll0 (xs.map PyData.int)) = true
      rw [ih]
      rfl
  have h2 : ∀ xs : List Int, PyData.depthAll (xs.map PyData.int) ≤ 0 := by
    intro xs
    induction xs with
    | nil => exact Nat.zero_le _
    | cons x xs ih =>
      rw [List.map_cons]
      simp only [PyData.depthAll, PyData.depth]
      omega
  unfold SeqAt.shaped dInts
  have e1 : PyData.canLay0 (.list (xs.map PyData.int)) = true := by
    simp only [PyData.canLay0]
    exact h1 xs
  have e2 : PyData.depth (.list (xs.map PyData.int)) ≤ 64 := by
    simp only [PyData.depth]
    have := h2 xs
    omega
  rw [e1, decide_eq_true e2]
  rfl
theorem eqv_ints : ∀ xs ys : List Int, PyData.eqv (dInts xs) (dInts ys) = decide (xs = ys)
  | xs, ys => by
    have h : ∀ xs ys : List Int, PyData.eqvAll (xs.map PyData.int) (ys.map PyData.int) = decide (xs = ys) := by
      intro xs
      induction xs with
      | nil =>
        intro ys
        cases ys <;> rfl
      | cons x xs ih =>
        intro ys
        cases ys with
        | nil => rfl
        | cons y ys =>
          show (PyData.eqv (.int x) (.int y) && PyData.eqvAll (xs.map PyData.int) (ys.map PyData.int)) = _
          rw [ih, show PyData.eqv (.int x) (.int y) = (x == y) from rfl, Bool.eq_iff_iff]
          simp
    show PyData.eqvAll (xs.map PyData.int) (ys.map PyData.int) = _
    exact h xs ys

/-! ### repr of None, an int, or data -/
def rRepA (K : PySem.W.Frag) : List V → Hp → VK → Prop := fun xs H Q => (xs = [.non] ∧ Q (.str "None") H) ∨ (∃ i : Int, xs = [.int i] ∧ i.natAbs.log2 < 1920 ∧ Q (.str (toString i)) H) ∨ rRep2 K xs H Q
theorem call_repA {X : Cx} (hgd : X.A.guards = some []) (hu : X.A.units + 64 < cLine) : CallR X (.builtin "repr") (rRepA X.K) := by
  intro pins s σ H xs us Q I r h
  rcases h with ⟨rfl, q⟩ | ⟨i, rfl, hz, q⟩ | h
  · obtain ⟨u, rfl, ru⟩ := vals1 r
    obtain rfl : u = Value.none := ru
    exact PySem.P.repr_of_none ⟨.str _, H, I.tok _, ⟨_, rfl⟩, q⟩
  · exact SkE.call_repr_int pins s σ H _ us Q I r ⟨i, rfl, hz, q⟩
  · exact call_rep2 hgd hu pins s σ H _ us Q I r h

/-! ### ranges of great numbers: their iterator and list(range(a, b)) at the machine's level -/
namespace LRF
open PySem PySem.F
theorem owner_longrange_iterator : Manifest.owners.lookup (String.ofList ['r', 'o', 't', 'a', 'r', 'e', 't', 'i', '_', 'e', 'g', 'n', 'a', 'r', 'g', 'n', 'o', 'l'].reverse) = some Manifest.sig_longrange_iterator := by kernel_rfl
theorem slot_longrange_iterator_next : Slot "longrange_iterator" "__next__" "longrange_iterator.__next__" :=
  .of (owner := "longrange_iterator") (n := "__next__") (by rw [typeLookup_type, builtinLookup_eq_fast]; kernel_rfl) (by decide +kernel) (by decide +kernel) (by decide +kernel)
    (by first | exact .inl (by decide +kernel) | exact .inr (by decide +kernel)) (by rw [isSubtype_type]; kernel_rfl)
theorem entry_longrange_iterator_next : entryFor table "longrange_iterator.__next__" = some Builtin.«longrange_iterator.__next__» := entryFor_of_tree (by kernel_rfl)
theorem args_longrange_iterator_next_1 (a : Value) : argsOk "longrange_iterator.__next__" ⟨[a], []⟩ := by
  unfold argsOk; rw [signature?_of (id := "longrange_iterator.__next__") (n := ['_', '_', 't', 'x', 'e', 'n', '_', '_']) (o := ['r', 'o', 't', 'a', 'r', 'e', 't', 'i', '_', 'e', 'g', 'n', 'a', 'r', 'g', 'n', 'o', 'l']) (by kernel_rfl) owner_longrange_iterator]; kernel_rfl
theorem slot_longrange_iterator_iter : Slot "longrange_iterator" "__iter__" "longrange_iterator.__iter__" :=
  .of (owner := "longrange_iterator") (n := "__iter__") (by rw [typeLookup_type, builtinLookup_eq_fast]; kernel_rfl) (by decide +kernel) (by decide +kernel) (by decide +kernel)
    (by first | exact .inl (by decide +kernel) | exact .inr (by decide +kernel)) (by rw [isSubtype_type]; kernel_rfl)
theorem args_longrange_iterator_iter_1 (a : Value) : argsOk "longrange_iterator.__iter__" ⟨[a], []⟩ := by
  unfold argsOk; rw [signature?_of (id := "longrange_iterator.__iter__") (n := ['_', '_', 'r', 'e', 't', 'i', '_', '_']) (o := ['r', 'o', 't', 'a', 'r', 'e', 't', 'i', '_', 'e', 'g', 'n', 'a', 'r', 'g', 'n', 'o', 'l']) (by kernel_rfl) owner_longrange_iterator]; kernel_rfl
theorem entry_longrange_iterator_iter : entryFor table "longrange_iterator.__iter__" = some Builtin.«dict_keyiterator.__iter__» :=
  entryFor_alias (id' := "dict_keyiterator.__iter__") (by kernel_rfl) (by first | rfl | decide +kernel | (unfold String.splitOn; simp +decide [String.splitOnAux])) (by decide +kernel) (by kernel_rfl)
end LRF

namespace LRA
open PySem PySem.AutoRange
theorem longrange_iterator___next___longrange_iterator_1 (it : Addr) (x left step : Int) (hc0 : ¬left ≤ 0) :
    Meets (Builtin.«longrange_iterator.__next__» ⟨[.ref it], []⟩) (fun _ R s => s.heap.get? it = some { cls := .type "longrange_iterator", dict := none, data := .fields #[rawInt x, rawInt left, rawInt step], slots := #[] } ∧ R (.ok (.ret (Value.int x s.toks))) { s with heap := (s.heap.update it (Obj.mapFields fun x_1 => x_1.setIfInBounds 0 (rawInt (x + step)))).update it (Obj.mapFields fun x => x.setIfInBounds 1 (rawInt (left - 1))), toks := s.toks + 1 }) :=
  .of_wp fun prog w A R s h => by obtain ⟨hp, g, d, tk, os⟩ := s; obtain ⟨hl, h⟩ := h; wp_walk; exact ⟨_, rfl, h⟩


end LRA
namespace LRM
open PySem
open PySem.Sem (wp)
abbrev IsRangeIterL (h : Heap) (it : Addr) (x left step : Int) : Prop := h.get? it = some { cls := .type "longrange_iterator", dict := none, data := .fields #[rawInt x, rawInt left, rawInt step], slots := #[] }
section
variable {prog : Program} {w : World} {A : Around} {E : Value → Shared → Prop} {s : Shared}
theorem wpAny_pyIter_rangeL {r : Addr} {a b c : Int} {t u v : Tok} {Q : Value → Shared → Prop} (hr : IsRange s.heap r a b c t u v) (hsmall : Builtin.Range.small a b c = false)
    (hQ : Q (.ref s.heap.objs.size) { s with heap := s.heap.push { cls := .type "longrange_iterator", data := .fields #[rawInt a, rawInt (Builtin.Range.rangeSize a b c), rawInt c] } }) :
    wpAny (model prog w) A (pyIter (.ref r)) Q E s := by
  have hT : s.TypeIs (.ref r) "range" := ⟨_, hr, rfl⟩
  refine wpAny_pyIter_slot hT F.slot_range_iter (call_meets F.slot_range_iter hT F.entry_range_iter (F.args_range_iter_1 _)
    (AutoRange.range___iter___range_0 r a b c t u v (by unfold Builtin.Range.small at hsmall; simp [hsmall])) ⟨hr, ?_⟩)
  unfold Builtin.Range.small at hsmall
  simp only [hsmall, Bool.false_eq_true, if_false]
  exact ⟨"longrange_iterator", _, ⟨_, Heap.get?_push_size _ rfl, rfl⟩, LRF.slot_longrange_iterator_next.lookup, hQ⟩

theorem wpAny_pyNext_rangeL_item {it : Addr} {x left step : Int} {Q : Option Value → Shared → Prop} (hit : IsRangeIterL s.heap it x left step) (hleft : 0 < left)
    (hQ : ∀ h', IsRangeIterL h' it (x + step) (left - 1) step → Heap.SameBut it s.heap h' → Q (some (.int x s.toks)) { s with heap := h', toks := s.toks + 1 }) :
    wpAny (model prog w) A (pyNext (.ref it)) Q E s := by
  have hT : s.TypeIs (.ref it) "longrange_iterator" := ⟨_, hit, rfl⟩
  unfold pyNext
  refine wpAny_bind (wpAny_attempt (wpAny_callSpecial?_slot (name := Str.ofString "__next__") hT LRF.slot_longrange_iterator_next
    (call_meets LRF.slot_longrange_iterator_next hT LRF.entry_longrange_iterator_next (LRF.args_longrange_iterator_next_1 _) (LRA.longrange_iterator___next___longrange_iterator_1 it x left step (by omega)) ⟨hit, ?_⟩)))
  exact wpAny_pure (hQ _ (Heap.get?_update_self _ (Heap.get?_update_self _ hit rfl) rfl) ((Heap.SameBut.update ..).trans (Heap.SameBut.update ..)))

theorem wpAny_pyNext_rangeL_end {it : Addr} {x left step : Int} {Q : Option Value → Shared → Prop} (hh : A.handled = none) (hit : IsRangeIterL s.heap it x left step) (hleft : left ≤ 0)
    (hQ : ∀ h', Heap.ExtBut it s.heap h' → Q none { s with heap := h' }) : wpAny (model prog w) A (pyNext (.ref it)) Q E s := by
  have hT : s.TypeIs (.ref it) "longrange_iterator" := ⟨_, hit, rfl⟩
  unfold pyNext
  refine wpAny_bind (wpAny_attempt (wpAny_callSpecial?_slot (name := Str.ofString "__next__") hT LRF.slot_longrange_iterator_next
    (wpAny_call_entry LRF.slot_longrange_iterator_next hT LRF.entry_longrange_iterator_next ?_ (LRF.args_longrange_iterator_next_1 _))))
  obtain ⟨hp, g, d, tk, os⟩ := s
  wp_walk
  · simp only [raiseNew]
    refine wpAny_bind (wpAny_handled ?_)
    first | rw [show A.in1.handled = none from hh] | rw [hh]
    refine wpAny_bind (wpAny_pure (wpAny_throw ?_))
    refine wpAny_bind (wpAny_isInstance (T := "StopIteration") (b := true) ⟨_, Heap.get?_push_size _ rfl, rfl⟩ isSubtype_stop ?_)
    exact wpAny_pure (hQ _ (((Heap.ExtBut.refl it _).push _).push _))

theorem wpAny_pyIter_rangeiterL {it : Addr} {x left step : Int} {Q : Value → Shared → Prop} (hit : IsRangeIterL s.heap it x left step) (h : Q (.ref it) s) : wpAny (model prog w) A (pyIter (.ref it)) Q E s := by
  have hT : s.TypeIs (.ref it) "longrange_iterator" := ⟨_, hit, rfl⟩
  refine wpAny_pyIter_slot hT LRF.slot_longrange_iterator_iter (wpAny_call_entry LRF.slot_longrange_iterator_iter hT LRF.entry_longrange_iterator_iter ?_ (LRF.args_longrange_iterator_iter_1 _))
  show wpAny _ _ (ret (.ref it)) _ _ s
  exact wpAny_pure ⟨_, rfl, "longrange_iterator", _, hT, LRF.slot_longrange_iterator_next.lookup, h⟩

end
end LRM
namespace LRM
open PySem
open PySem.Sem (wp)
set_option maxRecDepth 100000
theorem Walks.rangeL {prog : Program} {w : World} {A : Around} (hh : A.handled = none) (I : Addr) (a c : Int) (n : Nat) :
    Walks prog w A I [I] [I] n (fun i v => ∃ t, v = .int (a + i * c) t) (fun i h => IsRangeIterL h I (a + (i : Nat) * c) ((n : Int) - (i : Nat)) c) where
  sub := fun _ hb => hb
  frame := fun _ _ _ st hk => hk I (by simp) _ st
  item := fun i s Q E hi st hQ => by
    refine wpAny_pyNext_rangeL_item st (by omega) fun h' hit' hs' => ?_
    refine hQ _ h' _ ⟨_, rfl⟩ ?_ fun b o hb e => hs'.extBut b o (fun h => hb (by simp [h])) e
    have e1 : a + ((i + 1 : Nat) : Int) * c = a + (i : Int) * c + c := by push_cast; rw [Int.add_mul, Int.one_mul, Int.add_assoc]
    have e2 : (n : Int) - ((i + 1 : Nat) : Int) = (n : Int) - (i : Int) - 1 := by push_cast; omega
    rw [e1, e2]; exact hit'
  done := fun s Q E st hQ => wpAny_pyNext_rangeL_end hh st (by omega) fun h' he' => hQ h' s.toks fun b o hb e => he' b o (fun h => hb (by simp [h])) e
  self := fun _ _ _ _ st hQ => wpAny_pyIter_rangeiterL st hQ


section
variable {prog : Program} {w : World} {A : Around} {E : Value → Shared → Prop} {s : Shared}
theorem wpAny_extend_rangeL {R : Result → Shared → Prop} {r : Addr} {a b c : Int} {t u v : Tok} {n : Nat} (hh : A.handled = none) (hr : IsRange s.heap r a b c t u v) (hsmall : Builtin.Range.small a b c = false)
    (hn : Builtin.Range.rangeSize a b c = n) (hlen : n ≤ 2 ^ 24) (S : Addr) (res : Value) (c₀ : Nat) (hS : s.heap.get? S = some { cls := .type "list", data := .seq #[] c₀ })
    (hR : ∀ h' tk acc' c', (∀ b o, b ≠ S → s.heap.get? b = some o → h'.get? b = some o) → h'.get? S = some { cls := .type "list", dict := none, data := .seq acc' c', slots := #[] } →
      ItemsOf (fun i v => ∃ t, v = .int (a + i * c) t) acc' n → R (.ok (.ret res)) { s with heap := h', toks := tk }) :
    wpAny (model prog w) A.in1 (Builtin.List.listExtendWith (.ref S) (.ref r) res)
      (fun fin s' => match fin with | .done f => R (.ok f) s' | .again c' => c'.quiet = true ∧ codeAny (model prog w) A c' R s') (fun e s' => R (.error e) s') s := by
  have hSr : S ≠ r := fun e => by rw [e, hr] at hS; simp at hS
  have hSlt : S < s.heap.objs.size := Heap.lt_size hS
  have hSI : S ≠ s.heap.objs.size := Nat.ne_of_lt hSlt
  have hSf : S ∉ [s.heap.objs.size] := fun hm => hSI (List.mem_singleton.mp hm)
  have W := (Walks.rangeL (prog := prog) (w := w) (A := A.in1) hh s.heap.objs.size a c n).toS

  have key : ∀ (h : Heap) (c₁ tk : Nat), IsRangeIterL h s.heap.objs.size (a + ((0 : Nat) : Int) * c) ((n : Int) - ((0 : Nat) : Int)) c → (∀ b o, b ≠ S → s.heap.get? b = some o → h.get? b = some o) →
      h.get? S = some { cls := .type "list", data := .seq #[] c₁ } → codeAny (model prog w) A (.builtin "list.extend.loop" ⟨[.ref S, .ref s.heap.objs.size, res], []⟩) R { s with heap := h, toks := tk } := by
    intro h c₁ tk hit hk hS₁
    refine codeAny_extend_loopS W (by rw [sizeLine_eq]; omega) S hSf res n 0 _ #[] c₁ rfl (Nat.zero_le _) hit hS₁ (ItemsOf.nil _) fun s' acc' c' hm hS' hacc => ?_
    rw [Moved.eq_with hm]
    refine hR s'.heap s'.toks acc' c' (fun b o hb e => hm.heap b o (fun hmem => ?_) (hk b o hb e)) hS' hacc
    rcases List.mem_cons.mp hmem with e' | hmem
    · exact hb e'
    · exact absurd (Heap.lt_size e) (by rw [List.mem_singleton.mp hmem]; exact Nat.lt_irrefl _)
  unfold Builtin.List.listExtendWith
  refine wpAny_bind (wpAny_typeOf (T := "range") ⟨_, hr, rfl⟩ ?_)
  have h1 : Builtin.List.listSameRef (.ref S) (.ref r) = false := by simp [Builtin.List.listSameRef, hSr]
  have h2 : (Value.type "range" == Value.type "list") = false := by decide
  have h3 : (Value.type "range" == Value.type "tuple") = false := by decide
  simp only [h1, h2, h3, Bool.or_false, Bool.false_eq_true, if_false]
  refine wpAny_bind (wpAny_pyIter_rangeL hr hsmall ?_)
  refine wpAny_bind (wpAny_holding (wpAny_hint_range (n := n) (Heap.get?_push_of_some _ hr) hn hlen ?_))
  have hit₁ : IsRangeIterL (s.heap.push { cls := .type "longrange_iterator", data := .fields #[rawInt a, rawInt (Builtin.Range.rangeSize a b c), rawInt c] }) s.heap.objs.size (a + ((0 : Nat) : Int) * c) ((n : Int) - ((0 : Nat) : Int)) c := by
    show IsRangeIterL _ _ _ _ _; rw [hn]; simpa using Heap.get?_push_size _ rfl
  have hS₁ := Heap.get?_push_of_some { cls := .type "longrange_iterator", data := .fields #[rawInt a, rawInt (Builtin.Range.rangeSize a b c), rawInt c] } hS
  refine wpAny_ite_split (fun _ => ?_) (fun _ => wpAny_pure ⟨plainId_quiet F.plain_extend_loop _, key _ c₀ _ hit₁ (fun b o _ e => Heap.get?_push_of_some _ e) hS₁⟩)
  refine wpAny_bind (wpAny_rule ?_)
  refine wpAny_bind ?_
  show wpAny _ _ (updateSeq S (·.push .none) >>= fun _ => updateSeq S (·.pop)) _ _ _
  refine wpAny_bind (wpAny_updateSeq hS₁ rfl ?_)
  have hS₂ := Heap.get?_update_self (Obj.mapSeq (·.push Value.none)) hS₁ rfl
  refine wpAny_updateSeq (hz := by seq_fits) hS₂ rfl ?_
  have hS₃ := Heap.get?_update_self (Obj.mapSeq (·.pop)) hS₂ rfl
  refine wpAny_pure ⟨plainId_quiet F.plain_extend_loop _, key _ _ _ ?_ (fun b o hb e => ?_) hS₃⟩
  · exact (Heap.get?_update_other _ _ hSI).trans ((Heap.get?_update_other _ _ hSI).trans hit₁)
  · exact (Heap.get?_update_other _ _ (Ne.symm hb)).trans ((Heap.get?_update_other _ _ (Ne.symm hb)).trans (Heap.get?_push_of_some _ e))

theorem wpAny_list_init_rangeL {R : Result → Shared → Prop} {r : Addr} {a b c : Int} {t u v : Tok} {n : Nat} (hh : A.handled = none) (hr : IsRange s.heap r a b c t u v) (hsmall : Builtin.Range.small a b c = false)
    (hn : Builtin.Range.rangeSize a b c = n) (hlen : n ≤ 2 ^ 24) (S : Addr) (hS : s.heap.get? S = some { cls := .type "list", data := .seq #[] })
    (hR : ∀ h' tk acc' c', (∀ b o, b ≠ S → s.heap.get? b = some o → h'.get? b = some o) → h'.get? S = some { cls := .type "list", dict := none, data := .seq acc' c', slots := #[] } →
      ItemsOf (fun i v => ∃ t, v = .int (a + i * c) t) acc' n → R (.ok (.ret .none)) { s with heap := h', toks := tk }) :
    wpAny (model prog w) A.in1 (Builtin.«list.__init__» ⟨[.ref S, .ref r], []⟩)
      (fun fin s' => match fin with | .done f => R (.ok f) s' | .again c' => c'.quiet = true ∧ codeAny (model prog w) A c' R s') (fun e s' => R (.error e) s') s := by
  have hSr : S ≠ r := fun e => by rw [e, hr] at hS; simp at hS
  show wpAny _ _ (do let old ← Builtin.List.listItems (.ref S); Builtin.List.listUpdate (.ref S) (fun _ => #[]); letGo old.toList.reverse; Builtin.List.listExtendWith (.ref S) (.ref r) .none) _ _ s
  refine wpAny_bind ?_
  unfold Builtin.List.listItems
  refine wpAny_bind (wpAny_seqItems hS rfl (wpAny_pure ?_))
  show wpAny _ _ (updateSeq S (fun _ => #[]) >>= fun _ => letGo (#[] : Array Value).toList.reverse >>= fun _ => Builtin.List.listExtendWith (.ref S) (.ref r) .none) _ _ s
  refine wpAny_bind (wpAny_updateSeq hS rfl ?_)
  have hS₂ := Heap.get?_update_self (Obj.mapSeq (fun _ => (#[] : Array Value))) hS rfl
  have oth : ∀ b o, b ≠ S → s.heap.get? b = some o → (s.heap.update S (Obj.mapSeq (fun _ => (#[] : Array Value)))).get? b = some o :=
    fun b o hb e => (Heap.get?_update_other _ _ (Ne.symm hb)).trans e
  refine wpAny_bind (wpAny_letGo ?_)
  refine wpAny_extend_rangeL hh (oth r _ (Ne.symm hSr) hr) hsmall hn hlen S .none _ hS₂ fun h' tk acc' c' hk hS' hacc => ?_
  exact hR h' tk acc' c' (fun b o hb e => hk b o hb (oth b o hb e)) hS' hacc
end

section
variable {prog : Program} {w : World} {A : Around} {E : Value → Shared → Prop} {s : Shared}

theorem call_list_rangeL {Q : Value → Shared → Prop} {r : Addr} {a b c : Int} {t u v : Tok} {n : Nat} (hh : A.handled = none) (hr : IsRange s.heap r a b c t u v) (hsmall : Builtin.Range.small a b c = false)
    (hn : Builtin.Range.rangeSize a b c = n) (hlen : n ≤ 2 ^ 24)
    (hQ : ∀ h' tk acc' c', (∀ b o, s.heap.get? b = some o → h'.get? b = some o) →
      h'.get? s.heap.objs.size = some { cls := .type "list", dict := none, data := .seq acc' c', slots := #[] } → ItemsOf (fun i v => ∃ t, v = .int (a + i * c) t) acc' n → Q (.ref s.heap.objs.size) { s with heap := h', toks := tk }) :
    wpAny (model prog w) A (call (.type "list") [.ref r]) Q E s := by
  refine callType_codes (Q₁ := fun obj s₁ => obj = .ref s.heap.objs.size ∧ s₁ = { s with heap := s.heap.push { cls := .type "list", data := .seq #[] } }) F.called_list (F.typeCall_list_1 _) F.entry_list_init
    (code_list_new _ ⟨rfl, rfl⟩) fun obj s₁ h₁ => ?_
  obtain ⟨rfl, rfl⟩ := h₁
  have hS : (s.heap.push { cls := .type "list", data := .seq #[] }).get? s.heap.objs.size = some { cls := .type "list", data := .seq #[] } := Heap.get?_push_size _ rfl
  refine ⟨⟨_, hS, rfl⟩, F.args_list_init_2 _ _, wpAny_list_init_rangeL (A := A.in1) hh (Heap.get?_push_of_some _ hr) hsmall hn hlen _ hS fun h' tk acc' c' hk hS' hacc => ?_⟩
  exact ⟨rfl, hQ h' tk acc' c' (fun b o e => hk b o (Nat.ne_of_lt (Heap.lt_size e)) (Heap.get?_push_of_some _ e)) hS' hacc⟩
end
end LRM

/-! ### ranges of any numbers -/
section
variable {X : Cx} {tg : Expr}
theorem turn_rangeL {P : Program} {w : World} {K : PySem.W.Frag} {tg : Expr} (it : Addr) (lo : Int) (n : Nat) : Turn P w K tg (Itr lo n) [it] it (fun i h => LRM.IsRangeIterL h it (lo + (i : Nat) * 1) ((n : Int) - (i : Nat)) 1) where
  mem := by simp
  obj := fun i h st b hb => by
    have e : b = it := by simpa using hb
    subst e
    exact ⟨_, st, fun v z => by
      have z' : Data.fields _ = Data.cell v := z
      cases z'⟩
  keep := fun i h h' st k => k it (by simp) _ st
  item := by
    intro X hP hw hK hc i pins s σ H E I hf st hg
    subst hP hw hK
    obtain ⟨f0, f1, f2, f3, f4, f5⟩ := hf it (by simp)
    have W := LRM.Walks.rangeL (prog := X.prog) (w := X.w) (I.ok.hd hc) it lo 1 n
    refine W.item i s _ _ hg st fun v h' tk hv st' kk => ?_
    obtain ⟨t, rfl⟩ := hv
    have I1 : Inv X pins σ H { s with heap := h', toks := tk } := I.turned (fun b o hb e => kk b o (by simpa using hb) e) f0 f1 f3 f4 f5
    refine ⟨_, rfl, go_of (s := { s with heap := h', toks := tk }) (n := "longrange_iterator") st' rfl rfl (by decide) ⟨.int (lo + i), H, I1, ⟨t, ?_⟩, ⟨rfl, rfl⟩, st', fun b hb => (hf b hb).1⟩⟩
    rw [Int.mul_one]
  done := by
    intro X hP hw hK hc i pins s σ H E I hf st hg
    subst hP hw hK
    obtain ⟨f0, f1, f2, f3, f4, f5⟩ := hf it (by simp)
    exact LRM.wpAny_pyNext_rangeL_end (I.ok.hd hc) st (by have : n ≤ i := hg; omega) fun h' eb => ⟨rfl, I.turned (t' := s.toks) (fun b o hb e => eb b o hb e) f0 f1 f3 f4 f5⟩
  self := fun _ _ _ _ _ st h => LRM.wpAny_pyIter_rangeiterL st h
theorem range_itS {pins : List (Addr × Obj)} {σ : L2.St} {H : Hp} {s : Shared} {R : It → Hp → Prop} {E : Value → Shared → Prop} {lo hi : Int} {t u v : Tok} {tk : Nat} (I : Inv X pins σ H s) (hb : Builtin.Range.small lo hi 1 = true)
    (q : R (Itr lo (hi - lo).toNat) H) : wpAny (model X.prog X.w) X.A (pyIter (.ref s.heap.objs.size)) (PIE X pins σ tg R) E { s with heap := s.heap.push { cls := .type "range", data := .fields #[.int lo t, .int hi u, .int 1 v] }, toks := tk } := by
  refine wpAny_pyIter_range (IsRange.new ..) hb ?_
  have I1 : Inv X pins σ H { s with heap := s.heap.push { cls := .type "range", data := .fields #[.int lo t, .int hi u, .int 1 v] }, toks := tk } := I.kept fun b o e => Heap.get?_push_of_some _ e
  refine ⟨(s.heap.push { cls := .type "range", data := .fields #[.int lo t, .int hi u, .int 1 v] }).objs.size, [(s.heap.push { cls := .type "range", data := .fields #[.int lo t, .int hi u, .int 1 v] }).objs.size], _, _, H, rfl,
    I1.kept (t' := tk) fun b o e => Heap.get?_push_of_some _ e, turn_range _ lo (hi - lo).toNat, ?_, fun b hb => ?_, q⟩
  · have e1 : lo + ((0 : Nat) : Int) * 1 = lo := by simp
    have e2 : (((hi - lo).toNat : Nat) : Int) - ((0 : Nat) : Int) = Builtin.Range.rangeSize lo hi 1 := by rw [rangeSize_one]; split <;> omega
    show IsRangeIter _ _ (lo + ((0 : Nat) : Int) * 1) ((((hi - lo).toNat : Nat) : Int) - ((0 : Nat) : Int)) 1
    rw [e1, e2]
    exact Heap.get?_push_size _ rfl
  · have e : b = (s.heap.push { cls := .type "range", data := .fields #[.int lo t, .int hi u, .int 1 v] }).objs.size := by simpa using hb
    subst e
    exact I1.fpOk (Nat.le_refl _) (I1.hok.fresh (Nat.le_refl _))
theorem range_itL {pins : List (Addr × Obj)} {σ : L2.St} {H : Hp} {s : Shared} {R : It → Hp → Prop} {E : Value → Shared → Prop} {lo hi : Int} {t u v : Tok} {tk : Nat} (I : Inv X pins σ H s) (hb : Builtin.Range.small lo hi 1 = false)
    (q : R (Itr lo (hi - lo).toNat) H) : wpAny (model X.prog X.w) X.A (pyIter (.ref s.heap.objs.size)) (PIE X pins σ tg R) E { s with heap := s.heap.push { cls := .type "range", data := .fields #[.int lo t, .int hi u, .int 1 v] }, toks := tk } := by
  refine LRM.wpAny_pyIter_rangeL (IsRange.new ..) hb ?_
  have I1 : Inv X pins σ H { s with heap := s.heap.push { cls := .type "range", data := .fields #[.int lo t, .int hi u, .int 1 v] }, toks := tk } := I.kept fun b o e => Heap.get?_push_of_some _ e
  refine ⟨(s.heap.push { cls := .type "range", data := .fields #[.int lo t, .int hi u, .int 1 v] }).objs.size, [(s.heap.push { cls := .type "range", data := .fields #[.int lo t, .int hi u, .int 1 v] }).objs.size], _, _, H, rfl,
    I1.kept (t' := tk) fun b o e => Heap.get?_push_of_some _ e, turn_rangeL _ lo (hi - lo).toNat, ?_, fun b hb => ?_, q⟩
  · have e1 : lo + ((0 : Nat) : Int) * 1 = lo := by simp
    have e2 : (((hi - lo).toNat : Nat) : Int) - ((0 : Nat) : Int) = Builtin.Range.rangeSize lo hi 1 := by rw [rangeSize_one]; split <;> omega
    show LRM.IsRangeIterL _ _ (lo + ((0 : Nat) : Int) * 1) ((((hi - lo).toNat : Nat) : Int) - ((0 : Nat) : Int)) 1
    rw [e1, e2]
    exact Heap.get?_push_size _ rfl
  · have e : b = (s.heap.push { cls := .type "range", data := .fields #[.int lo t, .int hi u, .int 1 v] }).objs.size := by simpa using hb
    subst e
    exact I1.fpOk (Nat.le_refl _) (I1.hok.fresh (Nat.le_refl _))
def iRng2A (ta : TA) : TI := fun σ H R => ta σ H fun vs H1 => ∃ i j : Int, vs = [.int i, .int j] ∧ R (Itr i (j - i).toNat) H1
theorem pi_range2A {a b : Expr} {ta : TA} {p pos : Pos} (hg : Gl X "range") (hm : X.mg "range" = none) (ha : PA X [a, b] ta) (hs : starEach [a, b] X.env = [(false, eval a X.env), (false, eval b X.env)] := by rfl) (hs2 : starEach [b] X.env = [(false, eval b X.env)] := by rfl) :
    PI X tg (.Call (.Name "range" p) [a, b] [] pos) (iRng2A ta) := by
  refine ⟨fun pins s σ H R I h => ?_⟩
  refine Call_ (ld_blt I hg hm boot_range (PyProof.Rows.callWith_type1 (thn (ha.run pos pins s σ H _ I h) fun us s1 ⟨vs, H1, I1, r1, q1⟩ => ?_) (by rw [hs, hs2]) (by rw [hs2]; rfl)))
  obtain ⟨i, j, e, q⟩ := q1
  subst e
  cases r1 with
  | cons r rr =>
    cases rr with
    | cons r' rr =>
      cases rr
      obtain ⟨t, rfl⟩ := r
      obtain ⟨t', rfl⟩ := r'
      cases hb : Builtin.Range.small i j 1 with
      | true => exact call_range_2 (range_itS I1 hb q)
      | false => exact call_range_2 (range_itL I1 hb q)
end
section
variable {X : Cx} {e : Expr} {te : L2.St → Hp → (Int → Int → Hp → Prop) → Prop}
def tLstRgA (te : L2.St → Hp → (Int → Int → Hp → Prop) → Prop) : TE := fun σ H Q => te σ H fun a b H1 => (b - a).toNat ≤ 2 ^ 24 ∧ ∀ q, H1 q = none → Q (.ref q) (upd H1 q (.lst (rgV a b)))
theorem pe_listRgA {p pos : Pos} (hc : X.calm = true) (hg : Gl X "list") (hm : X.mg "list" = none) (he : PRg X e te) (na : starEach [e] X.env = (false, eval e X.env) :: starEach [] X.env := by rfl) : PE X (.Call (.Name "list" p) [e] [] pos) (tLstRgA te) := by
  refine ⟨fun pins s σ H Q I h => ?_⟩
  refine Call_ (ld_blt I hg hm boot_list (PyProof.Rows.callWith_type1 (args_cons (thn (he pins s σ H _ I h) fun x s1 ⟨r, a, b, t, u, v, H1, ex, hr, I1, ok, q⟩ => args_nil ?_) na) na))
  subst ex
  suffices fin : ∀ (h' : Heap) (tk : Nat) (acc : Array Value) (c' : Nat), (∀ b o, s1.heap.get? b = some o → h'.get? b = some o) → h'.get? s1.heap.objs.size = some { cls := .type "list", dict := none, data := .seq acc c', slots := #[] } → ItemsOf (fun i v => ∃ t, v = .int (a + i * 1) t) acc (b - a).toNat →
      EP X pins σ Q (.ref s1.heap.objs.size) { s1 with heap := h', toks := tk } by
    cases hb : Builtin.Range.small a b 1 with
    | true => exact call_list_range (n := (b - a).toNat) (I1.ok.hd hc) hr hb (rangeSize_nat a b) ok fin
    | false => exact LRM.call_list_rangeL (n := (b - a).toNat) (I1.ok.hd hc) hr hb (rangeSize_nat a b) ok fin
  intro h' tk acc c' hk e' hi
  refine ⟨.ref s1.heap.objs.size, upd H1 s1.heap.objs.size (.lst (rgV a b)), I1.laid hk (Nat.le_refl _) (show ObjOk X.prog X.w _ _ _ (.lst (rgV a b)) from ⟨?_, acc.toList, c', vals_rg hi, ?_⟩), rfl, q _ (I1.hok.fresh (Nat.le_refl _))⟩
  · rw [rgV_length, sizeLine_eq]; omega
  · rw [Array.toArray_toList]; exact e'
end

/-! ### small things of the layer without a heap -/
theorem getD_intr {xs : List Int} {i : Nat} (h : i < xs.length) : (xs.map DV.int).getD i .non = .int (xs.getD i 0) := by
  rw [List.getD_eq_getElem?_getD, List.getElem?_map, List.getD_eq_getElem?_getD, List.getElem?_eq_getElem h]
  rfl
theorem acc_mapr {α : Type} {f : Nat → α} {i : Nat} {y : α} (h : y = f i) : (List.range i).map f ++ [y] = (List.range (i + 1)).map f := by
  rw [List.range_succ, List.map_append, h]
  rfl
theorem range_mapr {α β : Type} (l : List α) (z : α) (f : α → β) : (List.range l.length).map (fun (i : Nat) => f (l.getD i z)) = l.map f := by
  refine List.ext_getElem? fun i => ?_
  rw [List.getElem?_map, List.getElem?_map]
  by_cases h : i < l.length
  · rw [List.getElem?_range h, List.getElem?_eq_getElem h]
    show some (f (l.getD i z)) = _
    rw [List.getD_eq_getElem?_getD, List.getElem?_eq_getElem h]
    rfl
  · rw [List.getElem?_eq_none (by rw [List.length_range]; omega), List.getElem?_eq_none (by omega)]
    rfl
theorem getD_prB {cs : List (Int × Int)} {i : Nat} (h : i < cs.length) : (cs.map dPr).getD i .non = dPr cs[i] := by
  rw [List.getD_eq_getElem?_getD, List.getElem?_map, List.getElem?_eq_getElem h]
  rfl
def rgI (a b : Int) : List Int := (List.range (b - a).toNat).map fun (i : Nat) => a + (i : Int)
theorem rgI_mem {a b k : Int} : k ∈ rgI a b ↔ a ≤ k ∧ k < b := by
  unfold rgI
  rw [List.mem_map]
  constructor
  · rintro ⟨i, hi, rfl⟩
    have := List.mem_range.mp hi
    omega
  · rintro ⟨h1, h2⟩
    exact ⟨(k - a).toNat, List.mem_range.mpr (by omega), by omega⟩
theorem rgI_len (a b : Int) : (rgI a b).length = (b - a).toNat := by unfold rgI; rw [List.length_map, List.length_range]
theorem one1000r : 1 ≤ 1000 := by decide
theorem two1000r : 2 ≤ 1000 := by decide
theorem four1000r : 4 ≤ 1000 := by decide
theorem five1000r : 5 ≤ 1000 := by decide
theorem ne_selfB (v : V) : (!decide (v = v)) = false := by rw [decide_eq_true rfl]; rfl
theorem py_ints (bs : List Int) : (dInt bs).py = dInts bs := by
  show PyData.list (DV.pyAll (bs.map DV.int)) = _
  rw [pyAll_map, List.map_map]
  rfl
theorem py_prs (cs : List (Int × Int)) : (dPrs cs).py = dMarks cs := by
  show PyData.list (DV.pyAll (cs.map dPr)) = _
  rw [pyAll_map, List.map_map]
  rfl
theorem pu_ints (bs : List Int) : (dInt bs).pu = true := (puAll_iff _).mpr fun d hd => by
  obtain ⟨i, _, rfl⟩ := List.mem_map.mp hd
  rfl
theorem pu_prs (cs : List (Int × Int)) : (dPrs cs).pu = true := (puAll_iff _).mpr fun d hd => by
  obtain ⟨i, _, rfl⟩ := List.mem_map.mp hd
  rfl
/-! ### ranges of any numbers, without a heap (behind dl2, near and lrange2) -/
section
variable {X : Cx} {W : Wo} {e a b : Expr} {p pos p2 p3 : Pos}
def diR2A (a : TDA) : TDI := fun δ n K => a δ n fun xs m => match xs with
  | [x, y] => x.asI fun i => y.asI fun j => K (j - i).toNat (fun k => .int (i + (k : Int))) m
  | _ => False
theorem di_range2A {tg : Expr} {ta : TA} {da : TDA} (hg : Gl X "range") (hm : X.mg "range" = none) (ha : DA X W [a, b] ta da) (hs : starEach [a, b] X.env = [(false, eval a X.env), (false, eval b X.env)] := by rfl) (hs2 : starEach [b] X.env = [(false, eval b X.env)] := by rfl) :
    DI X W tg (.Call (.Name "range" p) [a, b] [] pos) (iRng2A ta) (diR2A da) :=
  ⟨pi_range2A hg hm ha.pa hs hs2, fun B Φ M σ H δ n R K ok c q => ha.tr B Φ M σ H δ n _ _ ok (fun r m v H' f p ra k => by
    match r, k with
    | [x, y], k =>
      obtain ⟨i, rfl, k1⟩ := DV.asI_inv k
      obtain ⟨j, rfl, k2⟩ := DV.asI_inv k1
      obtain ⟨u, us, rfl, r1, rs⟩ := ra.cons_inv
      obtain ⟨w, rfl, r2⟩ := rs.one_inv
      exact ⟨i, j, by rw [r1.int_inv, r2.int_inv], c _ _ _ _ _ _ _ f p walkD_range k2⟩) q⟩
def dRg2A (da db : TD) : TDA := fun δ n K => da δ n fun x m => db δ m fun y j => ∃ a b : Int, x = .int a ∧ y = .int b ∧ (b - a).toNat ≤ 2 ^ 24 ∧ K ((rgI a b).map DV.int) j
theorem df_listRg2A {ta tb : TE} {da db : TD} (hc : X.calm = true) (hm : X.mg "list" = none) (hm2 : X.mg "range" = none) (ha : DE X W a ta da) (hb : DE X W b tb db) (hg : Gl X "list" := by rfl) (hg2 : Gl X "range" := by rfl)
    (na2 : starEach [a, b] X.env = (false, eval a X.env) :: starEach [b] X.env := by rfl) (nb2 : starEach [b] X.env = (false, eval b X.env) :: starEach [] X.env := by rfl) (hp2 : (backTo p3 (starEach [b] X.env)).any (·.1) = false := by rfl)
    (na : starEach [.Call (.Name "range" p2) [a, b] [] p3] X.env = (false, eval (.Call (.Name "range" p2) [a, b] [] p3) X.env) :: starEach [] X.env := by rfl) :
    DF X W (.Call (.Name "list" p) [.Call (.Name "range" p2) [a, b] [] p3] [] pos) (tLstRgA (tRg2 ta tb)) (dRg2A da db) :=
  ⟨pe_listRgA hc hg hm (prg_2 hg2 hm2 ha.pe hb.pe na2 nb2 hp2) na, fun B Φ M σ H δ n Q K ok c h => ha.tr B Φ M σ H δ n _ _ ok (fun x m v H1 f1 p1 r1 h => by
    have ok1 := ok.expr f1 p1
    refine hb.tr B Φ M σ H1 δ m _ _ ok1 (fun y j u H2 f2 p2 r2 h => ?_) h
    obtain ⟨i, l, rfl, rfl, ok3, h⟩ := h
    refine ⟨i, l, (r1.mono (ok1.frM f2)).int_inv, r2.int_inv, ok3, fun q nq => ?_⟩
    have f12 := f1.trans f2
    have e : rgV i l = (rgI i l).map V.int := rgV_ints i l
    rw [e]
    exact c _ _ _ _ _ (f12.upd (.inl (none_fr f12 p2 nq))) (pl_new p2 nq) (none_fr f12 p2 nq) upd_same (repA_ints _) h) h⟩
end

/-! ### unpacking a list; own lists in a written tuple -/
section
variable {X : Cx} {W : Wo} {es : List Expr} {vs : List Nat} {gs : TGs} {dgs : TDGs} {pos : Pos}
def dgL (d : TDGs) : TDG := fun r δ K => r.asL fun xs => d xs δ K
theorem trG_lst {K0 : PySem.W.Frag} {k : Nat} (h : TrGs W vs gs dgs) (len : ∀ xs δ K, dgs xs δ K → xs.length = k) : TrG W vs (gLst K0 k gs) (dgL dgs) := fun B Φ M σ H δ n v r Q K ok ra c q => by
  obtain ⟨xs, rfl, q⟩ := DV.asL_inv q
  obtain ⟨a, us, rfl, h1, h2, h3⟩ := ra.lst_inv
  exact ⟨a, us, rfl, SqL.of h1, by rw [h3.1]; exact len _ _ _ q, h B Φ M σ H δ n _ _ _ _ ok h3 c q⟩
theorem dg_lst {k n : Nat} (hc : X.calm = true) (h : DGs X W vs es gs dgs) (hl : GLen dgs n) (hn : (assignEach es X.env).length = n := by rfl) (hst : (assignEach es X.env).findIdx? (·.1) = none := by rfl) : DG X W vs (.Tuple es k pos) (gLst X.K n gs) (dgL dgs) :=
  ⟨pg_lst hc h.pgs hn hst, trG_lst h.tr hl.len⟩
/-- a, b, c = [..], [(..), ..], int: two lists of one's own -/
def DV.prsOf (ds : List DV) (k : List (Int × Int) → Prop) : Prop := ∃ ms : List (Int × Int), ds = ms.map dPr ∧ k ms
def dPar3T (i j l : Nat) (a b : TDA) (c : TD) : TDS := fun DD δ n => a δ n fun xs m => DV.intsOf xs fun _ => b δ m fun ys m2 => DV.prsOf ys fun _ => c δ m2 fun z m3 => z.asI fun _ => DD.nx (((δ.set i (some (.own xs))).set j (some (.own ys))).set l (some (.dat z))) m3
theorem ds_par3T {i j l : Nat} {x y z : Str} {a b c : Expr} {ta tb tc : TE} {da db : TDA} {dc : TD} {px py pz pt : Pos} {kt k2 : Nat} {pt2 : Pos} (hc : X.calm = true) (hN : X.N.Nodup) (hi : X.N[i]? = some x) (hj : X.N[j]? = some y) (hl : X.N[l]? = some z) (hij : i ≠ j) (hil : i ≠ l) (hjl : j ≠ l)
    (hx : X.env.scope.names.lookup x = some .local) (hy : X.env.scope.names.lookup y = some .local) (hz : X.env.scope.names.lookup z = some .local) (ha : DF X W a ta da) (hb : DF X W b tb db) (hcc : DE X W c tc dc)
    (hw : swappedStores [.Tuple [.Name x px, .Name y py, .Name z pz] kt pt] (.Tuple [a, b, c] k2 pt2) X.env = pure (some [x, y, z]))
    (hs : swapsWithSole [.Tuple [.Name x px, .Name y py, .Name z pz] kt pt] (.Tuple [a, b, c] k2 pt2) pos.line X.env = pure false := by rfl)
    (s1 : starEach [a, b, c] X.env = (false, eval a X.env) :: starEach [b, c] X.env := by rfl) (s2 : starEach [b, c] X.env = (false, eval b X.env) :: starEach [c] X.env := by rfl) (s3 : starEach [c] X.env = (false, eval c X.env) :: starEach [] X.env := by rfl) :
    DS X W (.Assign [.Tuple [.Name x px, .Name y py, .Name z pz] kt pt] (.Tuple [a, b, c] k2 pt2) pos) (tPar3 i j l (tCons ta (tCons tb (tCons tc tNil)))) (dPar3T i j l da db dc) :=
  ⟨ps_par3 hc hN hi hj hl hij hil hjl hx hy hz (pa_cons ha.pe (pa_cons hb.pe (pa_cons hcc.pe pa_nil s3) s2) s1) hw hs, fun B Φ M σ H δ n D DD ok sm q =>
  ha.tr B Φ M σ H δ n _ _ ok (fun xs m q1 vs1 H1 f1 p1 n1 h1 r1 q => by
    obtain ⟨is, rfl, q⟩ := q
    obtain rfl := r1.ints
    exact hb.tr B Φ M σ H1 δ m _ _ (ok.expr f1 p1) (fun ys m2 q2 vs2 H2 f2 p2 n2 h2 r2 q => by
      obtain ⟨ms, rfl, q⟩ := q
      obtain ⟨ts, rfl, tp, nt⟩ := prs_inv r2
      exact hcc.tr B Φ M σ H2 δ m2 _ _ ((ok.expr f1 p1).expr f2 p2) (fun z m3 v3 H3 f3 p3 r3 q => by
        obtain ⟨k, rfl, q⟩ := DV.asI_inv q
        have ok1 := ok.setOwn f1 p1 n1 h1 (repA_ints is) i
        have np : ¬ pl W q1 := fun e => (none_fr .refl ok.plOf n1 |> fun z => (ok.dom q1 (ok.base q1 (ok.pool q1 e).1)).ne n1)
        have h12 : H2 q1 = some (.lst (is.map V.int)) := f2 _ _ h1 np
        have rt : RepA W (fun a => (M a ∨ a = q1) ∨ a = q2) H2 (ts.map V.ref) (ms.map dPr) := tups_rep tp fun t ht e => by
          rcases e with (e | e) | e
          · exact nt t ht (.inl e)
          · obtain ⟨us, e2⟩ : ∃ us, H2 t = some (.tup us) := by
              have : ∀ {ts : List Addr} {ms : List (Int × Int)}, Tups H2 ts ms → t ∈ ts → ∃ xs, H2 t = some (.tup xs) := by
                intro ts
                induction ts with
                | nil => intro ms _ h; cases h
                | cons u us ih =>
                  intro ms h h2
                  cases ms with
                  | nil => exact h.elim
                  | cons m ms =>
                    rcases List.mem_cons.mp h2 with rfl | h2
                    · exact ⟨_, h.1⟩
                    · exact ih h.2 h2
              exact this tp ht
            rw [e, h12] at e2
            cases e2
          · exact nt t ht (.inr e)
        have ok2 := ok1.setOwn f2 p2 n2 h2 rt j
        exact ⟨.ref q1, .ref q2, v3, rfl, by rw [r3.int_inv]; exact sm.nx _ _ _ _ _ ((ok2.expr f3 p3).set (.int k) l) q⟩) q) q) q⟩
/-- a, b, c = [..], int, int with cells -/
def dAsg3F (i j l : Nat) (a : TDA) (b c : TD) : TDS := fun DD δ n => a δ n fun xs m => DV.intsOf xs fun _ => b δ m fun y m2 => y.asI fun _ => c δ m2 fun z m3 => z.asI fun _ => DD.nx (((δ.set i (some (.own xs))).set j (some (.dat y))).set l (some (.dat z))) m3
theorem ds_asg3F {i j l : Nat} {tg a b c : Expr} {ta tb tc : TE} {da : TDA} {db dc : TD} {dg : TDG} {pt2 : Pos} {k2 : Nat} (ha : DF X W a ta da) (hb : DE X W b tb db) (hcc : DE X W c tc dc) (hg : DG X W vs tg (gTup X.K 3 (gCons (gName i) (gCons (gName j) (gCons (gName l) gNil)))) dg)
    (hs : swapsWithSole [tg] (.Tuple [a, b, c] k2 pt2) pos.line X.env = pure false := by rfl) (hw : swappedStores [tg] (.Tuple [a, b, c] k2 pt2) X.env = pure none := by rfl)
    (h1 : (assignEach [tg] X.env).map (·.2) = [assign tg X.env] := by rfl)
    (s1 : starEach [a, b, c] X.env = (false, eval a X.env) :: starEach [b, c] X.env := by rfl) (s2 : starEach [b, c] X.env = (false, eval b X.env) :: starEach [c] X.env := by rfl) (s3 : starEach [c] X.env = (false, eval c X.env) :: starEach [] X.env := by rfl) :
    DS X W (.Assign [tg] (.Tuple [a, b, c] k2 pt2) pos) (tAsg (tTup (tCons ta (tCons tb (tCons tc tNil)))) (gTup X.K 3 (gCons (gName i) (gCons (gName j) (gCons (gName l) gNil))))) (dAsg3F i j l da db dc) :=
  ⟨ps_asg (pe_tup (pa_cons ha.pe (pa_cons hb.pe (pa_cons hcc.pe pa_nil s3) s2) s1)) hg.pg hs hw h1, fun B Φ M σ H δ n D DD ok sm q =>
  ha.tr B Φ M σ H δ n _ _ ok (fun xs m q1 vs1 H1 f1 p1 n1 h1 r1 q => by
    obtain ⟨is, rfl, q⟩ := q
    obtain rfl := r1.ints
    exact hb.tr B Φ M σ H1 δ m _ _ (ok.expr f1 p1) (fun y m2 v2 H2 f2 p2 r2 q => by
      obtain ⟨k2, rfl, q⟩ := DV.asI_inv q
      exact hcc.tr B Φ M σ H2 δ m2 _ _ ((ok.expr f1 p1).expr f2 p2) (fun z m3 v3 H3 f3 p3 r3 q => by
        obtain ⟨k3, rfl, q⟩ := DV.asI_inv q
        have ok1 := ((((ok.setOwn f1 p1 n1 h1 (repA_ints is) i).expr f2 p2).set (.int k2) j).expr f3 p3).set (.int k3) l
        refine ⟨(by show 3 ≤ sizeLine; decide), fun p np => ⟨p, _, rfl, SqT.of upd_same, rfl, _, _, rfl, _, _, rfl, _, _, rfl, rfl, ?_⟩⟩
        rw [r2.int_inv, r3.int_inv]
        exact sm.nx _ _ _ _ _ (ok1.expr (FrS.refl.upd (.inl np)) (pl_new p3 np)) q) q) q) q⟩
end
/-! ### speeds, signs and the nearest unlike moment, without a heap -/
def fPace : FD := fun ds n K => ∃ ps ms t, ds = [dInt ps, dPrs ms, .int t] ∧ 0 < ps.length ∧ K (.int (speedAt ps ms t)) n
theorem rd_pace {W : Wo} : RdFn W spPace fPace := fun M H vs ds n Q E K dm pp r c h => by
  obtain ⟨ps, ms, t, rfl, l0, h⟩ := h
  obtain ⟨v1, us, rfl, r1, rs⟩ := r.cons_inv
  obtain ⟨v2, us, rfl, r2, rs⟩ := rs.cons_inv
  obtain ⟨v3, rfl, r3⟩ := rs.one_inv
  obtain ⟨a, vs1, rfl, ha, _, ra1⟩ := Rep.lst_inv (ds := ps.map DV.int) r1
  obtain ⟨b, vs2, rfl, hb, _, ra2⟩ := Rep.lst_inv (ds := ms.map dPr) r2
  rw [ra1.ints] at ha
  obtain ⟨ts, rfl, tp, _⟩ := prs_inv ra2
  exact ⟨a, b, ps, ts, ms, t, by rw [r3.int_inv], ha, hb, tp, l0, c _ _ _ _ .refl (poolPl pp) (.int _) h⟩
def OwD (p : Int → Prop) (ow : DV) : Prop := (ow = .non ∧ ∀ t, ¬ p t) ∨ ∃ m, ow = .int m ∧ NearP p m
theorem OwD.uniq {p : Int → Prop} {a b : DV} (h1 : OwD p a) (h2 : OwD p b) : a = b := by
  rcases h1 with ⟨rfl, n1⟩ | ⟨m, rfl, hm⟩ <;> rcases h2 with ⟨rfl, n2⟩ | ⟨k, rfl, hk⟩
  · rfl
  · exact absurd hk.1 (n1 k)
  · exact absurd hm.1 (n2 m)
  · rw [hm.uniq hk]
theorem OwD.congr {p q : Int → Prop} (e : ∀ t, p t ↔ q t) {a : DV} (h : OwD p a) : OwD q a := h.imp (fun ⟨h1, h2⟩ => ⟨h1, fun t z => h2 t ((e t).mpr z)⟩) fun ⟨m, h1, h2⟩ => ⟨m, h1, h2.congr e⟩
theorem owD_exists (p : Int → Prop) : ∃ a, OwD p a := by
  by_cases c : ∃ t, p t
  · obtain ⟨t, ht⟩ := c
    obtain ⟨m, hm⟩ := nearP_exists ht
    exact ⟨.int m, .inr ⟨m, rfl, hm⟩⟩
  · exact ⟨.non, .inl ⟨rfl, fun t ht => c ⟨t, ht⟩⟩⟩
def fUnl : FD := fun ds n K => ∃ ps ms qs ns, ds = [.obj (.cal ps ms), .obj (.cal qs ns)] ∧ ps.length = qs.length ∧ ms.length + ns.length ≤ 60 ∧ ∀ ow, OwD (UnlP ps qs ms ns) ow → K ow n
theorem rd_unl {C : Addr} {p : Option Addr} : RdFn ((Wc C).at p) (spUnl C) fUnl := fun M H vs ds n Q E K dm pp r c h => by
  obtain ⟨ps, ms, qs, ns, rfl, ll, lm, h⟩ := h
  obtain ⟨v1, us, rfl, r1, rs⟩ := r.cons_inv
  obtain ⟨v2, rfl, r2⟩ := rs.one_inv
  obtain ⟨x, l, d, rfl, c1, hp, f1⟩ := cal_inv r1
  obtain ⟨y, l', d', rfl, c2, hq, f2⟩ := cal_inv r2
  refine ⟨x, y, l, d, l', d', ps, qs, ms, ns, rfl, c1, c2, ll, hp.len0, hp.len1, lm, fun r H' s ow => ?_⟩
  rcases ow with ⟨rfl, h0⟩ | ⟨m, rfl, hm⟩
  · exact c .non _ _ _ (.of s) (pl_same (poolPl pp) s) .non (h _ (.inl ⟨rfl, h0⟩))
  · exact c (.int m) _ _ _ (.of s) (pl_same (poolPl pp) s) (.int m) (h _ (.inr ⟨m, rfl, hm⟩))
def fBinC (f : Int → Int → Int) : DV → DV → (DV → Prop) → Prop := fun x y K => ∃ ps ms qs ns, x = .obj (.cal ps ms) ∧ y = .obj (.cal qs ns) ∧ ps.length = qs.length ∧ ms.length + ns.length ≤ 60 ∧ Paces (joinP f ps qs) ∧ (∀ i j, 0 ≤ i → i ≤ 3 → 0 ≤ j → j ≤ 3 → 0 ≤ f i j ∧ f i j ≤ 3) ∧
  ∀ os, Fit os → os.length ≤ ms.length + ns.length → (∀ t, speedAt (joinP f ps qs) os t = f (speedAt ps ms t) (speedAt qs ns t)) → K (.obj (.cal (joinP f ps qs) os))
theorem speed_lo2 {ps : List Int} {ms : List (Int × Int)} (hp : Paces ps) (f : Fit ms) (t : Int) : 0 ≤ speedAt ps ms t ∧ speedAt ps ms t ≤ 3 := by
  unfold speedAt
  cases e : ms.find? (fun m => decide (m.1 = t)) with
  | none =>
    have a := Int.emod_nonneg t (show (ps.length : Int) ≠ 0 by have := hp.len0; omega)
    have b := Int.emod_lt_of_pos t (show (0 : Int) < ps.length by have := hp.len0; omega)
    have hi : (t % (ps.length : Int)).toNat < ps.length := by omega
    show 0 ≤ paceOf ps t ∧ paceOf ps t ≤ 3
    unfold paceOf
    rw [List.getD_eq_getElem?_getD, List.getElem?_eq_getElem hi]
    exact hp.lo _ (List.getElem_mem hi)
  | some m => exact f.val m (List.mem_of_find?_eq_some e)
theorem rd_binC {C : Addr} {p : Option Addr} {f : Int → Int → Int} : RdOp ((Wc C).at p) (rBin C (spJoin f C)) (fBinC f) := fun M H x y dx dy Q K dm hx hy c h => by
  obtain ⟨ps, ms, qs, ns, rfl, rfl, ll, lm, hj, hf, h⟩ := h
  obtain ⟨x, l, d, rfl, c1, hp, f1⟩ := cal_inv hx
  obtain ⟨y, l', d', rfl, c2, hq, f2⟩ := cal_inv hy
  obtain ⟨o1, h1⟩ := c1.ob
  obtain ⟨o2, h2⟩ := c2.ob
  refine ⟨x, y, o1, o2, _, _, rfl, rfl, h1, h2, ⟨x, y, l, d, l', d', ps, qs, ms, ns, rfl, c1, c2, ll, hp, hq, f1, f2, lm, hj, fun H' z l2 d2 ks asc mem lk s cal nz nl nd => ⟨⟨z, rfl⟩, ?_⟩⟩⟩
  have fj : Fit (joinM f ps qs ms ns ks) := by
    refine ⟨?_, fun m hm => ?_, ?_⟩
    · unfold joinM
      exact List.pairwise_map.mpr (asc.imp fun h => h)
    · unfold joinM at hm
      obtain ⟨k, _, rfl⟩ := List.mem_map.mp hm
      have a := speed_lo2 hp f1 k
      have b := speed_lo2 hq f2 k
      exact hf _ _ a.1 a.2 b.1 b.2
    · unfold joinM
      rw [List.length_map]
      omega
  have ne : ∀ {q}, H q = none → ¬ M q := fun hz q => (dm _ q).ne hz
  refine c (.obj (.cal (joinP f ps qs) (realOf (joinP f ps qs) (joinM f ps qs ms ns ks)))) _ _ s (.obj ⟨⟨l2, d2, cal, ne nz, ne nl, ne nd⟩, hj, realFit fj⟩) (h _ (realFit fj) ?_ fun t => ?_)
  · refine Nat.le_trans (List.length_filter_le _ _) ?_
    unfold joinM
    rw [List.length_map]
    exact lk
  · rw [speed_real fj.asc]
    exact join_speed ll hp.len0 (fun k hk => (mem k).mpr hk) t
theorem join_self {f : Int → Int → Int} (h : ∀ i, f i i = i) : ∀ ps : List Int, joinP f ps ps = ps
  | [] => rfl
  | p :: ps => by
    unfold joinP
    rw [List.zipWith_cons_cons, h]
    exact congrArg _ (join_self h ps)

/-- != of data -/
def fNeDt : DV → DV → (DV → Prop) → Prop := fun x y K => x.pu = true ∧ y.pu = true ∧ SeqAt.shaped x.py = true ∧ SeqAt.shaped y.py = true ∧ K (.bl (!PyData.eqv x.py y.py))
theorem rd_neDt {W : Wo} {K0 : PySem.W.Frag} : RdOp W (rNeD K0) fNeDt := fun M H x y dx dy Q K _ hx hy c h => by
  obtain ⟨h1, h2, h3, h4, h⟩ := h
  exact ⟨_, _, hx.dp h1, hy.dp h2, h3, h4, c _ _ _ (fun _ _ e => e) (.bl _) h⟩
section
variable {P : Program} {w : World} {K : PySem.W.Frag} {mg : Str → Option Value} {base : Heap}
def fNear16 : FD := fun ds n K => ∃ ps ms qs ns wide, ds = [dInt ps, dPrs ms, dInt qs, dPrs ns, .int wide] ∧ 0 < ps.length ∧ ps.length = qs.length ∧ ms.length + ns.length ≤ 60 ∧ 0 ≤ wide ∧ wide ≤ 1000 ∧ (ps ≠ qs → ∃ u, UnlP ps qs ms ns u ∧ -wide ≤ u ∧ u ≤ wide) ∧ ∀ ow, OwD (UnlP ps qs ms ns) ow → K ow n
theorem unl_mark {ps : List Int} {ms ns : List (Int × Int)} {t : Int} (h : UnlP ps ps ms ns t) : t ∈ (ms ++ ns).map (·.1) := by
  by_cases c : t ∈ (ms ++ ns).map (·.1)
  · exact c
  · exfalso
    rw [List.map_append] at c
    refine h ?_
    rw [speed_offU fun z => c (List.mem_append_left _ z), speed_offU fun z => c (List.mem_append_right _ z)]
theorem near_abs {p : Int → Prop} {m u w : Int} (h : NearP p m) (hu : p u) (a : -w ≤ u) (b : u ≤ w) : -w ≤ m ∧ m ≤ w := by
  have := h.2 u hu
  unfold ltT nr at this
  simp only at this
  split at this <;> split at this <;> omega
theorem scNearL : FnScope ["paces", "marks", "twins", "pairs", "wide", "at", "spots", "found", "pace"] ["paces", "marks", "twins", "pairs", "wide"] (defScope sNearL) := ⟨rfl, rfl, rfl, by decide +kernel, rfl, by decide +kernel, by decide +kernel⟩
theorem ok_near16 {f fP C : Addr} {fd dP : FuncData} (F : Fun K "_law_nearest" "_law_nearest" sNearL f fd) (T : Blt mg) (Pc : At P w K mg base 1 "_law_pace" ["paces", "marks", "at"] spPace fP dP) : FnOk P w K mg base CX0 2 f fd ["paces", "marks", "twins", "pairs", "wide"] (spD (Wc C) fNear16) := by
  refine okD F scNearL (Wc C) fNear16 (fun ds n K h => ?_) (fun p cdv A outer s H E hr => ?_)
  · obtain ⟨ps, ms, qs, ns, wide, rfl, _⟩ := h
    rfl
  · have hu := hr.units
    have hr1 : Room 1 _ := hr.mono (by decide)
    refine ⟨_, _, (dss_cons (ds_setLc (i := 6) (g := (gTup K 2 (gCons (gName 5) (gCons (gName 8) gNil)))) (own := [("at", 5), ("pace", 8)]) rfl scNearL.nd rfl rfl (sw_true rfl rfl rfl (by decide +kernel)) (di_list (de_f (df_cat (dq (dv 1)) (dq (dv 3)))))
          (blkOk_by (N := ["paces", "marks", "twins", "pairs", "wide", "at", "spots", "found", "pace"]) (sc := defScope sNearL) (by decide +kernel)) (fun _ _ _ _ _ => (dg_tup rfl (dgs_cons (dg_name (i := 5) scNearL.nd rfl (.inl rfl)) (dgs_cons (dg_name (i := 8) scNearL.nd rfl (.inl rfl)) dgs_nil)) (.cons (.cons .nil)))) (fun _ _ _ _ _ => dts_nil)
          (fun _ _ _ _ _ => (dv 5)))
      (dss_cut (ds_if (dt_cmp (op_neD hu) rd_neDt (dv 0) (dv 2))
        (dss_one (ds_set (i := 6) scNearL.nd rfl (.inl rfl) (de_f (df_listRg2A rfl T.list T.range (de_op op_sub rd_I0 de_int (dv 4)) (de_op op_add rd_I0 (dv 4) de_int)))))
        dss_nil)
      (dss_cons (ds_set (i := 7) scNearL.nd rfl (.inl rfl) de_non)
      (dss_cons (ds_for [5] PassesOwn.never rfl (di_list (dv 6)) (dg_name (i := 5) scNearL.nd rfl (.inl rfl))
        (dss_one (ds_if (dt_cmp op_ne rd_Ne (de_call Pc.ok rd_pace hr1 Pc.at_ Pc.kp Pc.bi (da_cons (dv 0) (da_cons (dv 1) (da_cons (dv 5) da_nil)))) (de_call Pc.ok rd_pace hr1 Pc.at_ Pc.kp Pc.bi (da_cons (dv 2) (da_cons (dv 3) (da_cons (dv 5) da_nil)))))
          (dss_one (ds_if (DW.dt (dw_or (dt_cmp op_isN rd_IsN (dv 7) de_non) (dw_or (dt_cmp op_lt rd_B0 (de_b call_abs (by rfl) T.abs (by decide +kernel) rd_C1 (da_cons (dv 5) da_nil)) (de_b call_abs (by rfl) T.abs (by decide +kernel) rd_C1 (da_cons (dv 7) da_nil))) (dw_or1 (DW.dt (dw_and (dt_cmp op_eq rd_Eq (de_b call_abs (by rfl) T.abs (by decide +kernel) rd_C1 (da_cons (dv 5) da_nil)) (de_b call_abs (by rfl) T.abs (by decide +kernel) rd_C1 (da_cons (dv 7) da_nil))) (dw_and1 (dt_cmp op_gt rd_B0 (dv 5) (dv 7)))))))))
            (dss_one (ds_set (i := 7) scNearL.nd rfl (.inl rfl) (dv 5)))
            dss_nil))
          dss_nil)))
      (dss_one (ds_ret (dv 7))))))), fun ds n K h => ?_⟩
    obtain ⟨ps, ms, qs, ns, wide, rfl, l0, ll, lm, w0, w1, ex, k⟩ := h
    refine ⟨by rw [List.length_map, List.length_map]; omega, ?_⟩
    have ec : ms.map dPr ++ ns.map dPr = (ms ++ ns).map dPr := by rw [List.map_append]
    rw [ec]
    refine ⟨by rw [List.length_map, List.length_append]; omega, fun i acc m => acc = (List.range i).map (fun (i : Nat) => DV.int ((ms ++ ns).getD i (0, 0)).1) ∧ m = n, ⟨rfl, rfl⟩, ?_, ?_⟩
    · rintro i acc m hi ⟨rfl, rfl⟩
      have hi : i < (ms ++ ns).length := by simpa using hi
      simp only [getD_prB hi]
      refine ⟨fun _ => ⟨acc_mapr ?_, rfl⟩, (fun z => nomatch z)⟩
      rw [List.getD_eq_getElem?_getD, List.getElem?_eq_getElem hi]
      rfl
    rintro acc m ⟨rfl, rfl⟩
    rw [List.length_map, range_mapr (ms ++ ns) (0, 0) fun c => DV.int c.1]
    have e1 : (ms ++ ns).map (fun c => DV.int c.1) = ((ms ++ ns).map (·.1)).map DV.int := by rw [List.map_map]; rfl
    rw [e1]
    refine ⟨fun δ m' => ∃ ss : List Int, δ = [some (.dat (dInt ps)), some (.dat (dPrs ms)), some (.dat (dInt qs)), some (.dat (dPrs ns)), some (.dat (.int wide)), none, some (.dat (dInt ss)), none, none] ∧ ss.length ≤ 3000 ∧ (∀ m, NearP (UnlP ps qs ms ns) m → m ∈ ss) ∧ m' = m, ⟨pu_ints _, pu_ints _, by rw [py_ints]; exact shaped_ints _, by rw [py_ints]; exact shaped_ints _, fun g => ?_, fun g => ?_⟩, ?_⟩
    · have ne : ps ≠ qs := fun e => by
        have g2 : (!PyData.eqv (dInt ps).py (dInt qs).py) = true := g
        rw [py_ints, py_ints, eqv_ints, e, decide_eq_true rfl] at g2
        cases g2
      obtain ⟨u, hu1, hu2, hu3⟩ := ex ne
      refine ⟨_, _, rfl, rfl, by omega, rgI (0 - wide) (wide + 1), rfl, by rw [rgI_len]; omega, fun m hm => ?_, rfl⟩
      have := near_abs hm hu1 hu2 hu3
      exact rgI_mem.mpr (by omega)
    · have eq : ps = qs := by
        have g2 : (!PyData.eqv (dInt ps).py (dInt qs).py) = false := g
        rw [py_ints, py_ints, eqv_ints] at g2
        by_cases c : ps = qs
        · exact c
        · rw [decide_eq_false c] at g2
          cases g2
      refine ⟨(ms ++ ns).map (·.1), rfl, by rw [List.length_map, List.length_append]; omega, fun m hm => ?_, rfl⟩
      subst eq
      exact unl_mark hm.1
    rintro δ m' ⟨ss, rfl, sl, sm, rfl⟩
    refine ⟨fun i δ m => ∃ (fo : DV) (y5 : Option SV), δ = [some (.dat (dInt ps)), some (.dat (dPrs ms)), some (.dat (dInt qs)), some (.dat (dPrs ns)), some (.dat (.int wide)), y5, some (.dat (dInt ss)), some (.dat fo), none] ∧ m = m' ∧ (((∀ t ∈ ss.take i, ¬ UnlP ps qs ms ns t) ∧ fo = .non) ∨ ∃ v : Int, fo = .int v ∧ v ∈ ss.take i ∧ UnlP ps qs ms ns v ∧ ∀ y ∈ ss.take i, UnlP ps qs ms ns y → ¬ ltT (nr y) (nr v)), ⟨_, _, rfl, rfl, .inl ⟨(fun t ht => by rw [List.take_zero] at ht; cases ht), rfl⟩⟩, ?_, ?_⟩
    · rintro i δ m hi ⟨fo, y5, rfl, rfl, hf⟩
      have hi : i < ss.length := by simpa using hi
      simp only [getD_intr hi]
      have et : ss.take (i + 1) = ss.take i ++ [ss.getD i 0] := by
        rw [List.take_add_one, List.getElem?_eq_getElem hi, List.getD_eq_getElem?_getD, List.getElem?_eq_getElem hi]
        rfl
      rw [et]
      generalize ss.getD i 0 = x
      generalize ss.take i = old at hf ⊢
      have mx : x ∈ old ++ [x] := List.mem_append_right _ (List.mem_singleton.mpr rfl)
      refine ⟨ps, ms, x, rfl, l0, qs, ns, x, rfl, by omega, rfl, fun g => ?_, fun g => ?_⟩
      · have u : UnlP ps qs ms ns x := fun e => by
          have g2 : (!decide (V.int (speedAt ps ms x) = V.int (speedAt qs ns x))) = true := g
          rw [e, decide_eq_true rfl] at g2
          cases g2
        rcases hf with ⟨h0, rfl⟩ | ⟨v, rfl, hv, uv, hl⟩
        · refine ⟨rfl, fun _ => ⟨fun _ => ?_, (fun z => nomatch z)⟩, (fun z => nomatch z)⟩
          refine ⟨_, _, rfl, rfl, .inr ⟨x, rfl, mx, u, fun y hy uy => ?_⟩⟩
          rcases List.mem_append.mp hy with hy | hy
          · exact absurd uy (h0 y hy)
          · rw [List.mem_singleton.mp hy]
            unfold ltT
            omega
        · have new : ltT (nr x) (nr v) → (∀ y ∈ old ++ [x], UnlP ps qs ms ns y → ¬ ltT (nr y) (nr x)) := fun h y hy uy => by
            rcases List.mem_append.mp hy with hy | hy
            · have := hl y hy uy
              unfold ltT at *
              omega
            · rw [List.mem_singleton.mp hy]
              unfold ltT
              omega
          have old_ : ¬ ltT (nr x) (nr v) → (∀ y ∈ old ++ [x], UnlP ps qs ms ns y → ¬ ltT (nr y) (nr v)) := fun h y hy uy => by
            rcases List.mem_append.mp hy with hy | hy
            · exact hl y hy uy
            · rw [List.mem_singleton.mp hy]
              exact h
          have hv2 : v ∈ old ++ [x] := List.mem_append_left _ hv
          refine ⟨rfl, (fun z => nomatch z), fun _ => ?_⟩
          refine ⟨fun g => ⟨fun _ => ⟨_, _, rfl, rfl, .inr ⟨x, rfl, mx, u, new ?_⟩⟩, (fun z => nomatch z)⟩, fun g => ⟨rfl, fun g2 => ⟨fun g3 => ⟨_, _, rfl, rfl, .inr ⟨x, rfl, mx, u, new ?_⟩⟩, fun g3 => ⟨_, _, rfl, rfl, .inr ⟨v, rfl, hv2, uv, old_ ?_⟩⟩⟩, fun g2 => ⟨(fun z => nomatch z), fun _ => ⟨_, _, rfl, rfl, .inr ⟨v, rfl, hv2, uv, old_ ?_⟩⟩⟩⟩⟩
          · refine .inl ?_
            exact of_decide_eq_true g
          · have h2 : (if x < 0 then -x else x) = (if v < 0 then -v else v) := V.int.inj (of_decide_eq_true g2)
            have h3 : x > v := of_decide_eq_true g3
            exact .inr ⟨h2, by show -x < -v; omega⟩
          · have h1 : ¬ (if x < 0 then -x else x) < (if v < 0 then -v else v) := of_decide_eq_false g
            have h3 : ¬ x > v := of_decide_eq_false g3
            intro z
            rcases z with z | z
            · exact h1 z
            · have z2 : -x < -v := z.2
              omega
          · have h1 : ¬ (if x < 0 then -x else x) < (if v < 0 then -v else v) := of_decide_eq_false g
            have h2 : ¬ (if x < 0 then -x else x) = (if v < 0 then -v else v) := fun e => by
              have g4 : decide (V.int (if x < 0 then -x else x) = V.int (if v < 0 then -v else v)) = false := g2
              rw [e, decide_eq_true rfl] at g4
              cases g4
            intro z
            rcases z with z | z
            · exact h1 z
            · exact h2 z.1
      · have u : ¬ UnlP ps qs ms ns x := fun e => by
          have g2 : (!decide (V.int (speedAt ps ms x) = V.int (speedAt qs ns x))) = false := g
          rw [decide_eq_false (fun z => e (V.int.inj z))] at g2
          cases g2
        refine ⟨fo, _, rfl, rfl, ?_⟩
        rcases hf with ⟨h0, rfl⟩ | ⟨v, rfl, hv, uv, hl⟩
        · refine .inl ⟨fun t ht => ?_, rfl⟩
          rcases List.mem_append.mp ht with ht | ht
          · exact h0 t ht
          · rw [List.mem_singleton.mp ht]
            exact u
        · refine .inr ⟨v, rfl, List.mem_append_left _ hv, uv, fun y hy uy => ?_⟩
          rcases List.mem_append.mp hy with hy | hy
          · exact hl y hy uy
          · rw [List.mem_singleton.mp hy] at uy
            exact absurd uy u
    · rintro δ m ⟨fo, y5, rfl, rfl, hf⟩
      rw [List.length_map, List.take_length] at hf
      rcases hf with ⟨h0, rfl⟩ | ⟨v, rfl, hv, uv, hl⟩
      · refine k _ (.inl ⟨rfl, fun t ht => ?_⟩)
        obtain ⟨m, hm⟩ := nearP_exists ht
        exact h0 m (sm m hm) hm.1
      · obtain ⟨m, hm⟩ := nearP_exists uv
        obtain rfl : v = m := nr_eq (hm.2 v uv) (hl m (sm m hm) hm.1)
        exact k _ (.inr ⟨v, rfl, hm⟩)
end

def fTwin : FD := fun ds n K => ∃ ps ms, ds = [.pool, dInt ps, dPrs ms] ∧ n ≤ 2 * 10 ^ 6 ∧ Paces ps ∧ Marks 3 ms ∧ ∀ qs ns m, Paces qs → qs.length = ps.length → Marks 3 ns → m ≤ n + 100 → K (.lst [dInt qs, dPrs ns]) m
theorem cut_one (ms : List (Int × Int)) : cutD (ms.map dPr) (some 1) none = (ms.drop 1).map dPr := by
  unfold cutD
  rw [HT.sIx_none, show (1 : Int) = ((1 : Nat) : Int) from rfl, HT.sIx_nat, List.length_map]
  cases ms with
  | nil => rfl
  | cons m ms =>
    rw [show min 1 (m :: ms).length = 1 by rw [List.length_cons]; omega, List.take_of_length_le (by rw [List.length_drop, List.length_map]; exact Nat.le_refl _), List.map_drop]
theorem cut_mid (xs : List Int) (a : Nat) : cutD (xs.map DV.int) (some (a : Int)) (some ((a + 3 : Nat) : Int)) = ((xs.drop a).take 3).map DV.int := by
  unfold cutD
  rw [HT.sIx_nat, HT.sIx_nat, List.length_map, List.map_take, List.map_drop]
  by_cases h : a ≤ xs.length
  · rw [Nat.min_eq_left h]
    by_cases h2 : a + 3 ≤ xs.length
    · rw [Nat.min_eq_left h2, Nat.add_sub_cancel_left]
    · rw [Nat.min_eq_right (by omega), List.take_of_length_le (by rw [List.length_drop, List.length_map]; exact Nat.le_refl _), List.take_of_length_le (by rw [List.length_drop, List.length_map]; omega)]
  · rw [Nat.min_eq_right (by omega), Nat.min_eq_right (by omega), Nat.sub_self, List.take_zero, List.drop_eq_nil_of_le (by rw [List.length_map]; omega), List.take_nil]
theorem Marks.drop {ms : List (Int × Int)} (h : Marks 3 ms) : Marks 3 (ms.drop 1) :=
  ⟨h.asc.sublist (List.drop_sublist _ _), fun m hm => h.val m (List.mem_of_mem_drop hm), fun m hm => h.big m (List.mem_of_mem_drop hm), by have := h.len; rw [List.length_drop]; omega⟩
theorem Marks.neg {ms : List (Int × Int)} (h : Marks 3 ms) : Marks 3 (ms.reverse.map fun c => (0 - c.1, c.2)) := by
  refine ⟨List.pairwise_map.mpr (List.pairwise_reverse.mpr (h.asc.imp fun {a b} g => by show 0 - b.1 < 0 - a.1; omega)), fun m hm => ?_, fun m hm => ?_, by rw [List.length_map, List.length_reverse]; exact h.len⟩
  · obtain ⟨c, hc, rfl⟩ := List.mem_map.mp hm
    exact h.val c (List.mem_reverse.mp hc)
  · obtain ⟨c, hc, rfl⟩ := List.mem_map.mp hm
    have := h.big c (List.mem_reverse.mp hc)
    show -(2 * 10 ^ 30) < 0 - c.1 ∧ 0 - c.1 < 2 * 10 ^ 30
    omega
theorem Paces.set1 {ps : List Int} {k : Nat} {v : Int} (h : Paces ps) (hk : k < ps.length) (v0 : 1 ≤ v) (v1 : v ≤ 3) : Paces (ps.set k v) := by
  refine ⟨fun x hx => ?_, ⟨v, List.mem_of_getElem? (i := k) (by rw [List.getElem?_set_self hk]), by omega⟩, by rw [List.length_set]; exact h.len0, by rw [List.length_set]; exact h.len1⟩
  rcases List.mem_or_eq_of_mem_set hx with g | g
  · exact h.lo x g
  · omega
theorem ixN_at {n j : Nat} (h : j < n) : ixN n (j : Int) = some j := by unfold ixN; simp [h]
/-- an old speed, turned -/
theorem turn_ok (x : Int) : 1 ≤ 1 + x % 3 ∧ 1 + x % 3 ≤ 3 := by omega
def fJoin16 : FD := fun ds n K => ∃ ps ss v b, ds = [dInt ps, dInt ss, .int v] ∧ Paces ps ∧ (ss.Pairwise (· < ·)) ∧ 0 < ss.length ∧ ss.length ≤ 12 ∧ (0 ≤ v ∧ v ≤ 3) ∧ (∀ s ∈ ss, paceOf ps s = b) ∧ ∀ ms, Fit ms → ms.length ≤ 12 → (∀ t, speedAt ps ms t = if t ∈ ss then v else paceOf ps t) → K (.obj (.cal ps ms)) n
theorem mxF (i j : Int) (a : 0 ≤ i) (b : i ≤ 3) (c : 0 ≤ j) (d : j ≤ 3) : 0 ≤ mxI i j ∧ mxI i j ≤ 3 := by unfold mxI; split <;> omega
theorem mnF (i j : Int) (a : 0 ≤ i) (b : i ≤ 3) (c : 0 ≤ j) (d : j ≤ 3) : 0 ≤ mnI i j ∧ mnI i j ≤ 3 := by unfold mnI; split <;> omega
theorem mx_self (i : Int) : mxI i i = i := by unfold mxI; split <;> rfl
theorem mn_self (i : Int) : mnI i i = i := by unfold mnI; split <;> rfl
theorem speed_all {ps : List Int} {v : Int} : ∀ {xs : List Int} {t : Int}, speedAt ps (xs.map fun x => (x, v)) t = if t ∈ xs then v else paceOf ps t
  | [], t => rfl
  | x :: xs, t => by
    have ih := speed_all (ps := ps) (v := v) (xs := xs) (t := t)
    unfold speedAt at ih ⊢
    rw [List.map_cons, List.find?_cons]
    by_cases e : x = t
    · subst e
      rw [decide_eq_true rfl, if_pos List.mem_cons_self]
      rfl
    · rw [decide_eq_false (show ¬ ((x, v) : Int × Int).1 = t from e), ih]
      by_cases h : t ∈ xs
      · rw [if_pos h, if_pos (List.mem_cons_of_mem _ h)]
      · rw [if_neg h, if_neg (fun z => (List.mem_cons.mp z).elim (fun q => e q.symm) h)]
theorem atI_pace2 {ps : List Int} (l0 : 0 < ps.length) (t : Int) : atI (ps.map DV.int) (t % (ps.length : Int)) = some (.int (paceOf ps t)) := by
  have a := Int.emod_nonneg t (show (ps.length : Int) ≠ 0 by omega)
  have b := Int.emod_lt_of_pos t (show (0 : Int) < ps.length by omega)
  have hi : (t % (ps.length : Int)).toNat < ps.length := by omega
  have := atI_nat (xs := ps.map DV.int) (j := (t % (ps.length : Int)).toNat) (v := .int (paceOf ps t)) (by
    rw [List.getElem?_map, List.getElem?_eq_getElem hi]
    unfold paceOf
    rw [List.getD_eq_getElem?_getD, List.getElem?_eq_getElem hi]
    rfl)
  rw [Int.toNat_of_nonneg a] at this
  exact this
section
variable {P : Program} {w : World} {K : PySem.W.Frag} {mg : Str → Option Value} {base : Heap}
theorem scTwinL : FnScope ["well", "paces", "marks", "way", "size", "twins", "pairs", "spot", "at", "pace"] ["well", "paces", "marks"] (defScope sTwinL) := ⟨rfl, rfl, rfl, by decide +kernel, rfl, by decide +kernel, by decide +kernel⟩
theorem ok_twin16 {f fT fP fM C : Addr} {fd dT dP dM : FuncData} (F : Fun K "_law_twin" "_law_twin" sTwinL f fd) (T : Blt mg) (L : Tk P w K mg base fT dT) (Pa : At P w K mg base 2 "_law_paces" ["well", "size"] spPaces fP dP) (Ma : At P w K mg base 3 "_law_marks" ["well", "size", "cap"] spMarks fM dM) :
    FnOk P w K mg base CX0 4 f fd ["well", "paces", "marks"] (spD (Wc C) fTwin) := by
  refine okD F scTwinL (Wc C) fTwin (fun ds n K h => ?_) (fun p cdv A outer s H E hr => ?_)
  · obtain ⟨ps, ms, rfl, _⟩ := h
    rfl
  ·
    have hr1 : Room 1 _ := hr.mono (by decide)
    have hr2 : Room 2 _ := hr.mono (by decide)
    have hr3 : Room 3 _ := hr.mono (by decide)
    refine ⟨_, _, (dss_cons (ds_par (i := 3) (j := 4) rfl scTwinL.nd rfl rfl (by decide) rfl rfl (da_cons (de_call L.ok rd_take hr1 L.at_ L.kp L.bi (da_cons (dv 0) (da_cons de_int da_nil))) (da_cons (de_bQ call_len_seq (by rfl) T.len PySem.boot_len rd_len (dq (dv 1))) da_nil)) (by rfl))
      (dss_cons (ds_par3T (i := 5) (j := 6) (l := 7) rfl scTwinL.nd rfl rfl rfl (by decide) (by decide) (by decide) rfl rfl rfl (df_tQ call_list_of (by rfl) T.list (by decide +kernel) rd_list (dq (dv 1))) (df_tQ call_list_of (by rfl) T.list (by decide +kernel) rd_list (dq (dv 2))) (de_call L.ok rd_take hr1 L.at_ L.kp L.bi (da_cons (dv 0) (da_cons (dv 4) da_nil))) (by rfl))
      (dss_frz 6 (dss_cut (ds_if (dt_cmp op_eq rd_Eq (dv 3) de_int)
        (dss_one (ds_set (i := 6) scTwinL.nd rfl (.inl rfl) (de_call Ma.ok rd_marks hr3 Ma.at_ Ma.kp Ma.bi (da_cons (dv 0) (da_cons (dv 4) (da_cons de_int da_nil))))))
        dss_nil)
      (dss_cut (ds_if (dt_cmp op_eq rd_Eq (dv 3) de_int)
        (dss_one (ds_set (i := 6) scTwinL.nd rfl (.inl rfl) (de_f (df_sl (dq (dv 2)) (do_some de_int) do_none))))
        dss_nil)
      (dss_cut (ds_if (dt_cmp op_eq rd_Eq (dv 3) de_int)
        (dss_one (ds_sto 5 (he := (de_op op_add rd_I0 de_int (de_op op_mod rd_I (de_t call_int1 (by rfl) T.int (by decide +kernel) rd_int (da_cons (de_ixL (dq (dv 1)) (dv 7)) da_nil)) de_int))) (hk := (dv 7))))
        dss_nil)
      (dss_frz 5 (dss_cut (ds_if (dt_cmp op_eq rd_Eq (dv 3) de_int)
        (dss_one (ds_set (i := 5) scTwinL.nd rfl (.inl rfl) (de_call Pa.ok rd_paces hr2 Pa.at_ Pa.kp Pa.bi (da_cons (dv 0) (da_cons (dv 4) da_nil)))))
        dss_nil)
      (dss_cut (ds_if (dt_cmp op_eq rd_Eq (dv 3) de_int)
        (dss_one (ds_setLc (i := 6) (g := (gTup K 2 (gCons (gName 8) (gCons (gName 9) gNil)))) (own := [("at", 8), ("pace", 9)]) rfl scTwinL.nd rfl rfl (sw_true rfl rfl rfl (by decide +kernel)) (di_list (de_f (df_rev (dq (dv 2)))))
          (blkOk_by (N := ["well", "paces", "marks", "way", "size", "twins", "pairs", "spot", "at", "pace"]) (sc := defScope sTwinL) (by decide +kernel)) (fun _ _ _ _ _ => (dg_tup rfl (dgs_cons (dg_name (i := 8) scTwinL.nd rfl (.inl rfl)) (dgs_cons (dg_name (i := 9) scTwinL.nd rfl (.inl rfl)) dgs_nil)) (.cons (.cons .nil)))) (fun _ _ _ _ _ => dts_nil)
          (fun _ _ _ _ _ => (de_tup (da_cons (de_op op_sub rd_I0 de_int (dv 8)) (da_cons (dv 9) da_nil))))))
        dss_nil)
      (dss_one (ds_ret (de_f (df_lst (da_cons (dv 5) (da_cons (dv 6) da_nil))))))))))))))), fun ds n K h => ?_⟩
    obtain ⟨ps, ms, rfl, hn, hp, hm, k⟩ := h
    have l0 := hp.len0
    have l1 := hp.len1
    have el : (((ps.map DV.int).length : Nat) : Int) = (ps.length : Nat) := by rw [List.length_map]
    refine ⟨by omega, by decide, by decide, fun way v0 v1 => ?_⟩
    refine ⟨ps, rfl, ms, rfl, by omega, by omega, by omega, fun spot s0 s1 => ?_⟩
    obtain ⟨j, rfl⟩ : ∃ j : Nat, spot = j := ⟨spot.toNat, by omega⟩
    have hj : j < ps.length := by omega
    refine ⟨fun δ m => ∃ ns, δ = [some (.dat .pool), some (.dat (dInt ps)), some (.dat (dPrs ms)), some (.dat (.int way)), some (.dat (.int ((ps.map DV.int).length : Nat))), some (.own (ps.map DV.int)), some (.dat (dPrs ns)), some (.dat (.int (j : Nat))), none, none] ∧ Marks 3 ns ∧ m ≤ n + 30, ⟨rfl, fun g => ⟨_, 3, rfl, by omega, ⟨by omega, by omega⟩, ⟨by decide, by decide⟩, fun ns hns => ⟨ns, rfl, hns, by omega⟩⟩, fun g => ⟨ms, rfl, hm, by omega⟩⟩, ?_⟩
    rintro δ m ⟨ns, rfl, hns, hmm⟩
    refine ⟨fun δ m => ∃ ns, δ = [some (.dat .pool), some (.dat (dInt ps)), some (.dat (dPrs ms)), some (.dat (.int way)), some (.dat (.int ((ps.map DV.int).length : Nat))), some (.own (ps.map DV.int)), some (.dat (dPrs ns)), some (.dat (.int (j : Nat))), none, none] ∧ Marks 3 ns ∧ m ≤ n + 30, ⟨rfl, fun g => ⟨ms.drop 1, ?_, hm.drop, hmm⟩, fun g => ⟨ns, rfl, hns, hmm⟩⟩, ?_⟩
    · show _ = [_, _, _, _, _, _, some (SV.dat (.lst ((ms.drop 1).map dPr))), _, _, _]
      rw [← cut_one]
      rfl
    clear hns hmm
    rintro δ m ⟨ns, rfl, hns, hmm⟩
    refine ⟨fun δ m => ∃ qs, δ = [some (.dat .pool), some (.dat (dInt ps)), some (.dat (dPrs ms)), some (.dat (.int way)), some (.dat (.int ((ps.map DV.int).length : Nat))), some (.own (qs.map DV.int)), some (.dat (dPrs ns)), some (.dat (.int (j : Nat))), none, none] ∧ Paces qs ∧ qs.length = ps.length ∧ m ≤ n + 30, ⟨rfl, fun g => ?_, fun g => ⟨ps, rfl, hp, rfl, hmm⟩⟩, ?_⟩
    · have hat : atI (ps.map DV.int) (j : Int) = some (.int ps[j]) := atI_nat (j := j) (by rw [List.getElem?_map, List.getElem?_eq_getElem hj]; rfl)
      have hix : ixN (ps.map DV.int).length (j : Int) = some j := ixN_at (by rw [List.length_map]; exact hj)
      have t := turn_ok ps[j]
      refine ⟨_, hat, (by show (0 : Int) < 3; decide), j, hix, ps.set j (1 + ps[j] % 3), by rw [List.map_set]; rfl, hp.set1 hj t.1 t.2, List.length_set, hmm⟩
    rintro δ m2 ⟨qs, rfl, hq, ql, hm2⟩
    refine ⟨fun δ m => ∃ qs, δ = [some (.dat .pool), some (.dat (dInt ps)), some (.dat (dPrs ms)), some (.dat (.int way)), some (.dat (.int ((ps.map DV.int).length : Nat))), some (.dat (dInt qs)), some (.dat (dPrs ns)), some (.dat (.int (j : Nat))), none, none] ∧ Paces qs ∧ qs.length = ps.length ∧ m ≤ n + 60, ⟨rfl, fun g => ⟨_, rfl, by omega, by omega, by omega, fun xs hx hl => ⟨xs, rfl, hx, by omega, by omega⟩⟩, fun g => ⟨qs, rfl, hq, ql, by omega⟩⟩, ?_⟩
    clear hq ql hm2
    rintro δ m2 ⟨qs, rfl, hq, ql, hm2⟩
    refine ⟨fun δ m => ∃ ns, δ = [some (.dat .pool), some (.dat (dInt ps)), some (.dat (dPrs ms)), some (.dat (.int way)), some (.dat (.int ((ps.map DV.int).length : Nat))), some (.dat (dInt qs)), some (.dat (dPrs ns)), some (.dat (.int (j : Nat))), none, none] ∧ Marks 3 ns ∧ m ≤ n + 60, ⟨rfl, fun g => ?_, fun g => ⟨ns, rfl, hns, by omega⟩⟩, ?_⟩
    · have er : (ms.map dPr).reverse = ms.reverse.map dPr := by rw [List.map_reverse]
      have ml := hm.len
      refine ⟨by rw [er, List.length_map, List.length_reverse]; omega, fun i acc m => acc = (List.range i).map (fun (i : Nat) => dPr (0 - (ms.reverse.getD i (0, 0)).1, (ms.reverse.getD i (0, 0)).2)) ∧ m = m2, ⟨rfl, rfl⟩, ?_, ?_⟩
      · rintro i acc m hi ⟨rfl, rfl⟩
        have hi : i < ms.reverse.length := by simpa using hi
        simp only [er, getD_prB hi]
        refine ⟨fun _ => ⟨two1000r, acc_mapr ?_, rfl⟩, (fun z => nomatch z)⟩
        rw [List.getD_eq_getElem?_getD, List.getElem?_eq_getElem hi]
        rfl
      rintro acc m ⟨rfl, rfl⟩
      rw [er, show (List.map dPr ms.reverse).length = ms.reverse.length from List.length_map _, range_mapr ms.reverse (0, 0) fun c => dPr (0 - c.1, c.2)]
      refine ⟨ms.reverse.map fun c => (0 - c.1, c.2), ?_, hm.neg, by omega⟩
      show _ = [_, _, _, _, _, _, some (SV.dat (.lst ((ms.reverse.map fun c => (0 - c.1, c.2)).map dPr))), _, _, _]
      rw [List.map_map]
      rfl
    clear hns
    rintro δ m3 ⟨ns, rfl, hns, hm3⟩
    exact ⟨two1000r, k qs ns _ hq ql hns (by omega)⟩
end

section
variable {P : Program} {w : World} {K : PySem.W.Frag} {mg : Str → Option Value} {base : Heap}
theorem comp_dPr {xs : List Int} {v : Int} {j : Nat} (hj : j < xs.length) : DV.tup [(xs.map DV.int).getD j .non, .int v] = (fun (j : Nat) => dPr (xs.getD j 0, v)) j := by
  rw [getD_intr hj]
  rfl
theorem mem_take3 {ss : List Int} {i : Nat} {t : Int} : t ∈ ss.take (3 * (i + 1)) ↔ t ∈ ss.take (3 * i) ∨ t ∈ (ss.drop (3 * i)).take 3 := by
  rw [show 3 * (i + 1) = 3 * i + 3 by omega, List.take_add, List.mem_append]
theorem mk_asc {xs : List Int} {v : Int} (h : xs.Pairwise (· < ·)) : (xs.map fun x => (x, v)).Pairwise fun a b => a.1 < b.1 := List.pairwise_map.mpr (h.imp fun h => h)
theorem scJoined : FnScope ["paces", "spots", "pace", "found", "part", "more", "is_greater", "at"] ["paces", "spots", "pace"] (defScope sJoined) := ⟨rfl, rfl, rfl, by decide +kernel, rfl, by decide +kernel, by decide +kernel⟩
theorem ok_joined16 {f fI fOr fAn C : Addr} {fd dI dOr dAn : FuncData} (F : Fun K "_law_joined" "_law_joined" sJoined f fd) (T : Blt mg) (Z : Cal K mg C) (MKC : Mk K C fI) (GI : FnOk P w K mg base CX0 3 fI dI ["self", "speeds", "changes"] (spInit C K)) (bI : Binds K dI ["self", "speeds", "changes"] [])
    (ZF : PySem.W.selfFirst K C = true) (oOr : Own K C "__or__" fOr) (GOr : FnOk P w K mg base CX0 5 fOr dOr ["self", "other"] (spJoin mxI C)) (bOr : Binds K dOr ["self", "other"] [])
    (oAnd : Own K C "__and__" fAn) (GAnd : FnOk P w K mg base CX0 5 fAn dAn ["self", "other"] (spJoin mnI C)) (bAnd : Binds K dAn ["self", "other"] []) :
    FnOk P w K mg base CX0 8 f fd ["paces", "spots", "pace"] (spD (Wc C) fJoin16) := by
  refine okD F scJoined (Wc C) fJoin16 (fun ds n K h => ?_) (fun p cdv A outer s H E hr => ?_)
  · obtain ⟨ps, ss, v, b, rfl, _⟩ := h
    rfl
  ·
    have hr5 : Room 5 _ := hr.mono (by decide)
    have hr4 : Room 4 _ := hr.mono (by decide)
    refine ⟨_, _, (dss_cons (ds_set (i := 3) scJoined.nd rfl (.inl rfl) (let A := (da_cons (de_f (df_tQ call_list_of (by rfl) T.list (by decide +kernel) rd_list (dq (dv 0)))) (da_cons (de_f (df_lst da_nil)) da_nil)); de_make MKC GI (trE_cal A.tr) hr4 Z.at_ bI A.pa))
      (dss_cons (ds_for [4] PassesOwn.never rfl (di_range1 (by rfl) T.range (da_cons (de_op op_fdiv rd_I (de_op op_add rd_I0 (de_bQ call_len_seq (by rfl) T.len PySem.boot_len rd_len (dq (dv 1))) de_int) de_int) da_nil)) (dg_name (i := 4) scJoined.nd rfl (.inl rfl))
        (dss_cons (ds_set (i := 5) scJoined.nd rfl (.inl rfl) (let A := (da_cons (de_f (df_tQ call_list_of (by rfl) T.list (by decide +kernel) rd_list (dq (dv 0)))) (da_cons (de_f (df_lc (own := [("at", 7)]) rfl scJoined.nd (di_list (de_f (df_sl (dq (dv 1)) (do_some (de_op op_mul rd_I de_int (dv 4))) (do_some (de_op op_add rd_I0 (de_op op_mul rd_I de_int (dv 4)) de_int)))))
          (blkOk_by (N := ["paces", "spots", "pace", "found", "part", "more", "is_greater", "at"]) (sc := defScope sJoined) (by decide +kernel)) (fun _ _ _ _ _ => (dg_name (i := 7) scJoined.nd rfl (.inl rfl))) (fun _ _ _ _ _ => dts_nil)
          (fun _ _ _ _ _ => (de_tup (da_cons (dv 7) (da_cons (dv 2) da_nil)))))) da_nil)); de_make MKC GI (trE_cal A.tr) hr4 Z.at_ bI A.pa))
        (dss_cons (ds_set (i := 6) scJoined.nd rfl (.inl rfl) (de_cmp op_gt rd_B0 (dv 2) (de_ixL (dq (dv 0)) (de_op op_mod rd_I (de_t call_int1 (by rfl) T.int (by decide +kernel) rd_int (da_cons (de_ixL (dq (dv 1)) de_int) da_nil)) (de_bQ call_len_seq (by rfl) T.len PySem.boot_len rd_len (dq (dv 0)))))))
        (dss_one (ds_set (i := 3) scJoined.nd rfl (.inl rfl) (de_if (dt_val (dv 6)) (de_op (op_binOwn oOr ZF GOr hr5 bOr) rd_binC (dv 3) (dv 5)) (de_op (op_binOwn oAnd ZF GAnd hr5 bAnd) rd_binC (dv 3) (dv 5))))))))
      (dss_one (ds_ret (dv 3))))), fun ds n K h => ?_⟩
    obtain ⟨ps, ss, v, b, rfl, hp, asc, s0, s1, ⟨v0, v1⟩, hb, k⟩ := h
    have l0 := hp.len0
    have ls : (((ss.map DV.int).length : Nat) : Int) = (ss.length : Nat) := by rw [List.length_map]
    refine ⟨by decide, ps, [], rfl, hp, ⟨.nil, fun m hm => (nomatch hm), by decide⟩, ?_⟩
    refine ⟨⟨by decide, by decide⟩, by omega, by omega, fun i δ m => ∃ ms y4 y5 y6 y7, δ = [some (.dat (dInt ps)), some (.dat (dInt ss)), some (.dat (.int v)), some (.dat (.obj (.cal ps ms))), y4, y5, y6, y7] ∧ Fit ms ∧ ms.length ≤ 3 * i ∧ (∀ t, speedAt ps ms t = if t ∈ ss.take (3 * i) then v else paceOf ps t) ∧ m = n, ⟨[], _, _, _, _, rfl, ⟨.nil, fun m hm => (nomatch hm), by decide⟩, by decide, fun t => by rw [Nat.mul_zero, List.take_zero, if_neg (fun h => nomatch h)]; rfl, rfl⟩, ?_, ?_⟩
    · rintro i δ m hi ⟨ms, y4, y5, y6, y7, rfl, fm, ml, sp, rfl⟩
      have hi2 : 3 * i < ss.length := by omega
      have cm := cut_mid ss (3 * i)
      have c1 : (((3 * i : Nat)) : Int) = 3 * (0 + (i : Int)) := by omega
      have c2 : (((3 * i + 3 : Nat)) : Int) = 3 * (0 + (i : Int)) + 3 := by omega
      rw [c1, c2] at cm
      generalize hxs : (ss.drop (3 * i)).take 3 = xs at cm
      have xl : xs.length ≤ 3 := by rw [← hxs]; exact List.length_take_le _ _
      have xin : ∀ x ∈ xs, x ∈ ss := fun x hx => by rw [← hxs] at hx; exact List.mem_of_mem_drop (List.mem_of_mem_take hx)
      have xasc : xs.Pairwise (· < ·) := by rw [← hxs]; exact (asc.sublist (List.drop_sublist _ _)).sublist (List.take_sublist _ _)
      have xm : ∀ t, t ∈ ss.take (3 * (i + 1)) ↔ t ∈ ss.take (3 * i) ∨ t ∈ xs := fun t => by rw [← hxs]; exact mem_take3
      clear hxs
      have cz : ∀ x : Int, CMul 3 x := fun x => .inl ⟨by decide, by decide⟩
      refine ⟨cz _, cz _, by rw [cm, List.length_map]; omega, fun j acc m' => acc = (List.range j).map (fun (j : Nat) => dPr (xs.getD j 0, v)) ∧ m' = m, ⟨rfl, rfl⟩, ?_, ?_⟩
      · rintro j acc m' hj ⟨rfl, rfl⟩
        rw [cm, List.length_map] at hj
        rw [cm]
        exact ⟨fun _ => ⟨two1000r, acc_mapr (comp_dPr hj), rfl⟩, (fun z => nomatch z)⟩
      rintro acc m' ⟨rfl, rfl⟩
      rw [cm, show (List.map DV.int xs).length = xs.length from List.length_map _, range_mapr xs 0 fun x => dPr (x, v)]
      have xfit : Fit (xs.map fun x => (x, v)) := ⟨mk_asc xasc, fun m hm => by obtain ⟨x, _, rfl⟩ := List.mem_map.mp hm; exact ⟨v0, v1⟩, by rw [List.length_map]; omega⟩
      have rl : (realOf ps (xs.map fun x => (x, v))).length ≤ 3 := Nat.le_trans (List.length_filter_le _ _) (by rw [List.length_map]; exact xl)
      have rfit := realFit (ps := ps) xfit
      have rsp : ∀ t, speedAt ps (realOf ps (xs.map fun x => (x, v))) t = if t ∈ xs then v else paceOf ps t := fun t => by rw [speed_real xfit.asc, speed_all]
      refine ⟨ps, xs.map (fun x => (x, v)), by show _ = [dInt ps, DV.lst ((xs.map fun x => (x, v)).map dPr)]; rw [List.map_map]; rfl, hp, xfit, ?_⟩
      generalize realOf ps (xs.map fun x => (x, v)) = rs at rl rfit rsp
      have se : ∃ s, ss[0]? = some s ∧ s ∈ ss := ⟨ss[0], List.getElem?_eq_getElem s0, List.getElem_mem s0⟩
      obtain ⟨s, es, hs⟩ := se
      refine ⟨.int s, atI_nat (j := 0) (by rw [List.getElem?_map, es]; rfl), ?_⟩
      have al := atI_pace2 l0 s
      rw [← show ((ps.map DV.int).length : Int) = ps.length by rw [List.length_map]] at al
      have pj : ∀ {f : Int → Int → Int}, (∀ i, f i i = i) → joinP f ps ps = ps := fun h => join_self h ps
      have fin : ∀ {f : Int → Int → Int} {os : List (Int × Int)}, (∀ i, f i i = i) → (f v b = v ∧ f b v = v) → (∀ t, speedAt ps os t = f (speedAt ps ms t) (speedAt ps rs t)) → ∀ t, speedAt ps os t = if t ∈ ss.take (3 * (i + 1)) then v else paceOf ps t := fun {f os} hs hv h t => by
        rw [h t, sp t, rsp t]
        by_cases c1 : t ∈ ss.take (3 * i)
        · rw [if_pos c1, if_pos ((xm t).mpr (.inl c1))]
          by_cases c2 : t ∈ xs
          · rw [if_pos c2, hs]
          · rw [if_neg c2, hb t (List.mem_of_mem_take c1), hv.1]
        · rw [if_neg c1]
          by_cases c2 : t ∈ xs
          · rw [if_pos c2, if_pos ((xm t).mpr (.inr c2)), hb t (xin t c2), hv.2]
          · rw [if_neg c2, if_neg (fun z => ((xm t).mp z).elim c1 c2), hs]
      refine ⟨(by show 0 < (((ps.map DV.int).length : Nat) : Int); rw [List.length_map]; omega), .int (paceOf ps s), al, ?_⟩
      rw [hb s hs]
      refine ⟨fun g => ?_, fun g => ?_⟩
      · have g : b < v := of_decide_eq_true g
        refine ⟨ps, ms, ps, rs, rfl, rfl, rfl, by omega, by rw [pj mx_self]; exact hp, fun i j a b c d => mxF i j a b c d, fun os fo ol so => ?_⟩
        rw [pj mx_self] at so ⊢
        exact ⟨os, _, _, _, _, rfl, fo, by omega, fin mx_self (by unfold mxI; constructor <;> split <;> omega) so, rfl⟩
      · have g : ¬ b < v := of_decide_eq_false g
        refine ⟨ps, ms, ps, rs, rfl, rfl, rfl, by omega, by rw [pj mn_self]; exact hp, fun i j a b c d => mnF i j a b c d, fun os fo ol so => ?_⟩
        rw [pj mn_self] at so ⊢
        exact ⟨os, _, _, _, _, rfl, fo, by omega, fin mn_self (by unfold mnI; constructor <;> split <;> omega) so, rfl⟩
    · rintro δ m ⟨ms, y4, y5, y6, y7, rfl, fm, ml, sp, rfl⟩
      refine k ms fm ?_ fun t => ?_
      · omega
      · rw [sp t]
        rw [List.take_of_length_le (by omega)]
end

theorem cut_drop (xs : List Int) (r : Nat) : cutD (xs.map DV.int) none (some (r : Int)) ++ cutD (xs.map DV.int) (some (((r + 1 : Nat)) : Int)) none = (xs.take r ++ xs.drop (r + 1)).map DV.int := by
  unfold cutD
  rw [HT.sIx_none, HT.sIx_none, HT.sIx_nat, HT.sIx_nat, List.length_map, List.drop_zero, Nat.sub_zero, List.map_append, List.map_take, List.map_drop]
  congr 1
  · by_cases h : r ≤ xs.length
    · rw [Nat.min_eq_left h]
    · rw [Nat.min_eq_right (by omega), List.take_of_length_le (by rw [List.length_map]; exact Nat.le_refl _), List.take_of_length_le (by rw [List.length_map]; omega)]
  · by_cases h : r + 1 ≤ xs.length
    · rw [Nat.min_eq_left h, List.take_of_length_le (by rw [List.length_drop, List.length_map]; exact Nat.le_refl _)]
    · rw [Nat.min_eq_right (by omega), Nat.sub_self, List.take_zero, List.drop_eq_nil_of_le (by rw [List.length_map]; omega)]
/-- moments of one place of the week -/
structure Spots (z j lo hi : Int) (xs : List Int) : Prop where
  asc : xs.Pairwise (· < ·)
  at_ : ∀ x ∈ xs, ∃ k, x = j + z * k ∧ lo ≤ k ∧ k < hi
theorem Spots.skip {z j lo hi : Int} {xs : List Int} (h : Spots z j lo hi xs) (r : Nat) : Spots z j lo hi (xs.take r ++ xs.drop (r + 1)) := by
  have e : (xs.take r ++ xs.drop (r + 1)).Sublist xs := by
    have h1 : (xs.drop (r + 1)).Sublist (xs.drop r) := by
      rw [show xs.drop (r + 1) = (xs.drop r).drop 1 by rw [List.drop_drop]]
      exact List.drop_sublist _ _
    have h2 := (List.Sublist.refl (xs.take r)).append h1
    rwa [List.take_append_drop] at h2
  exact ⟨h.asc.sublist e, fun x hx => h.at_ x (e.mem hx)⟩
theorem skip_len (xs : List Int) (r : Nat) : xs.length ≤ (xs.take r ++ xs.drop (r + 1)).length + 1 ∧ (xs.take r ++ xs.drop (r + 1)).length ≤ xs.length := by
  rw [List.length_append, List.length_take, List.length_drop]
  omega
theorem spots_of {z j a : Int} {n : Nat} (z0 : 0 < z) : Spots z j a (a + n) ((List.range n).map fun i : Nat => j + z * (a + i)) := by
  refine ⟨List.pairwise_map.mpr (List.pairwise_lt_range.imp fun {x y} h => ?_), fun x hx => ?_⟩
  · have := Int.mul_lt_mul_of_pos_left (show a + (x : Int) < a + y by omega) z0
    omega
  · obtain ⟨i, hi, rfl⟩ := List.mem_map.mp hx
    have := List.mem_range.mp hi
    exact ⟨_, rfl, by omega, by omega⟩
theorem Spots.append {z j a b c d : Int} {xs ys : List Int} (z0 : 0 < z) (h1 : Spots z j a b xs) (h2 : Spots z j c d ys) (g : b ≤ c) (g1 : a ≤ c) (g2 : b ≤ d) : Spots z j a d (xs ++ ys) := by
  refine ⟨List.pairwise_append.mpr ⟨h1.asc, h2.asc, fun x hx y hy => ?_⟩, fun x hx => ?_⟩
  · obtain ⟨k, rfl, _, k1⟩ := h1.at_ x hx
    obtain ⟨l, rfl, l0, _⟩ := h2.at_ y hy
    have := Int.mul_lt_mul_of_pos_left (show k < l by omega) z0
    omega
  · rcases List.mem_append.mp hx with h | h
    · obtain ⟨k, e, k0, k1⟩ := h1.at_ x h
      exact ⟨k, e, k0, by omega⟩
    · obtain ⟨k, e, k0, k1⟩ := h2.at_ x h
      exact ⟨k, e, by omega, k1⟩
theorem Spots.pace {ps : List Int} {j : Nat} {lo hi : Int} {xs : List Int} (h : Spots ps.length j lo hi xs) (hj : j < ps.length) {x : Int} (hx : x ∈ xs) : paceOf ps x = ps.getD j 0 := by
  obtain ⟨k, rfl, _⟩ := h.at_ x hx
  unfold paceOf
  rw [Int.add_mul_emod_self_left, Int.emod_eq_of_lt (by omega) (by omega), Int.toNat_natCast]
theorem pace_at {ps : List Int} {j : Nat} (hj : j < ps.length) (k : Int) : paceOf ps (j + ps.length * k) = ps.getD j 0 := by
  unfold paceOf
  rw [Int.add_mul_emod_self_left, Int.emod_eq_of_lt (by omega) (by omega), Int.toNat_natCast]
theorem Spots.far {z j lo hi : Int} {xs : List Int} (h : Spots z j lo hi xs) (z0 : 0 < z) {k : Int} (hk : hi ≤ k) : j + z * k ∉ xs := fun hx => by
  obtain ⟨l, e, _, l1⟩ := h.at_ _ hx
  have := Int.mul_lt_mul_of_pos_left (show l < k by omega) z0
  omega
theorem turn_ne {x : Int} (a : 0 ≤ x) (b : x ≤ 3) : 1 + x % 3 ≠ x := by omega
theorem acc_mapI {g : Nat → Int} {i : Nat} : ((List.range i).map g).map DV.int ++ [DV.int (g i)] = ((List.range (i + 1)).map g).map DV.int := by
  rw [List.range_succ, List.map_append, List.map_append]
  rfl
def fHid16 : FD := fun ds n K => ds = [.pool] ∧ n ≤ 2 * 10 ^ 6 ∧ ∀ m, m ≤ n + 100 → K (.bl true) m
section
variable {P : Program} {w : World} {K : PySem.W.Frag} {mg : Str → Option Value} {base : Heap}
theorem scHidden : FnScope ["well", "size", "paces", "place", "twins", "rank", "more", "inner", "outer", "made", "twin", "marks", "pairs", "first", "turn", "at"] ["well"] (defScope sHidden) := ⟨rfl, rfl, rfl, by decide +kernel, rfl, by decide +kernel, by decide +kernel⟩
theorem ok_hidden16 {f fT fP fJ fN fU C : Addr} {fd dT dP dJ dN dU : FuncData} (F : Fun K "_law_hidden" "_law_hidden" sHidden f fd) (T : Blt mg) (L : Tk P w K mg base fT dT) (Pa : At P w K mg base 2 "_law_paces" ["well", "size"] spPaces fP dP)
    (Jo : At P w K mg base 8 "_law_joined" ["paces", "spots", "pace"] (spD (Wc C) fJoin16) fJ dJ) (Nl : At P w K mg base 2 "_law_nearest" ["paces", "marks", "twins", "pairs", "wide"] (spD (Wc C) fNear16) fN dN) (Un : At P w K mg base 4 "first_unlike" ["calendar", "other"] (spUnl C) fU dU) :
    FnG P w K mg base 9 f fd ["well"] (spD (Wc C) fHid16) := by
  refine okGD F scHidden (Wc C) fHid16 (fun ds n K h => ?_) (fun p cdv A outer s H E hgd hr => ?_)
  · obtain ⟨rfl, _⟩ := h
    rfl
  · have hu := hr.units
    have hr1 : Room 1 _ := hr.mono (by decide)
    have hr2 : Room 2 _ := hr.mono (by decide)
    have hr4 : Room 4 _ := hr.mono (by decide)
    have hr8 : Room 8 _ := hr.mono (by decide)
    refine ⟨_, _, (dss_cons (ds_set (i := 1) scHidden.nd rfl (.inr rfl) (de_op op_add rd_I0 de_int (de_call L.ok rd_take hr1 L.at_ L.kp L.bi (da_cons (dv 0) (da_cons de_int da_nil)))))
      (dss_cons (ds_asg [2, 3] (de_tup (da_cons (de_call Pa.ok rd_paces hr2 Pa.at_ Pa.kp Pa.bi (da_cons (dv 0) (da_cons (dv 1) da_nil))) (da_cons (de_call L.ok rd_take hr1 L.at_ L.kp L.bi (da_cons (dv 0) (da_cons (dv 1) da_nil))) da_nil))) (dg_tup rfl (dgs_cons (dg_name (i := 2) scHidden.nd rfl (.inr rfl)) (dgs_cons (dg_name (i := 3) scHidden.nd rfl (.inr rfl)) dgs_nil)) (.cons (.cons .nil))))
      (dss_cons (ds_asg3F (vs := [4, 5, 6]) (df_tQ call_list_of (by rfl) T.list (by decide +kernel) rd_list (dq (dv 2))) (de_call L.ok rd_take hr1 L.at_ L.kp L.bi (da_cons (dv 0) (da_cons de_int da_nil))) (de_call L.ok rd_take hr1 L.at_ L.kp L.bi (da_cons (dv 0) (da_cons de_int da_nil))) (dg_tup rfl (dgs_cons (dg_name (i := 4) scHidden.nd rfl (.inr rfl)) (dgs_cons (dg_name (i := 5) scHidden.nd rfl (.inl rfl)) (dgs_cons (dg_name (i := 6) scHidden.nd rfl (.inl rfl)) dgs_nil))) (.cons (.cons (.cons .nil)))))
      (dss_cut (ds_sto 4 (he := (de_op op_add rd_I0 de_int (de_op op_mod rd_I (de_t call_int1 (by rfl) T.int (by decide +kernel) rd_int (da_cons (de_ixL (dq (dv 2)) (dv 3)) da_nil)) de_int))) (hk := (dv 3)))
      (dss_frz 4 (dss_cons (ds_setLc (i := 7) (own := [("turn", 14)]) rfl scHidden.nd rfl rfl (sw_true rfl rfl rfl (by decide +kernel)) (di_range2 (by rfl) T.range (da_cons (de_un un_neg rd_U de_int) (da_cons de_int da_nil)))
          (blkOk_by (N := ["well", "size", "paces", "place", "twins", "rank", "more", "inner", "outer", "made", "twin", "marks", "pairs", "first", "turn", "at"]) (sc := defScope sHidden) (by decide +kernel)) (fun _ _ _ _ _ => (dg_name (i := 14) scHidden.nd rfl (.inl rfl))) (fun _ _ _ _ _ => dts_nil)
          (fun _ _ _ _ _ => (de_op op_add rd_I0 (dv 3) (de_op op_mul rd_I (dv 1) (dv 14)))))
      (dss_cons (ds_setLc (i := 8) (own := [("turn", 14)]) rfl scHidden.nd rfl rfl (sw_true rfl rfl rfl (by decide +kernel)) (di_range2 (by rfl) T.range (da_cons (de_un un_neg rd_U de_int) (da_cons (de_un un_neg rd_U de_int) da_nil)))
          (blkOk_by (N := ["well", "size", "paces", "place", "twins", "rank", "more", "inner", "outer", "made", "twin", "marks", "pairs", "first", "turn", "at"]) (sc := defScope sHidden) (by decide +kernel)) (fun _ _ _ _ _ => (dg_name (i := 14) scHidden.nd rfl (.inl rfl))) (fun _ _ _ _ _ => dts_nil)
          (fun _ _ _ _ _ => (de_op op_add rd_I0 (dv 3) (de_op op_mul rd_I (dv 1) (dv 14)))))
      (dss_cut (ds_set (i := 8) scHidden.nd rfl (.inl rfl) (de_f (df_cat (dq (dv 8)) (dq (de_f (df_lc (own := [("turn", 14)]) rfl scHidden.nd (di_range2 (by rfl) T.range (da_cons de_int (da_cons de_int da_nil)))
          (blkOk_by (N := ["well", "size", "paces", "place", "twins", "rank", "more", "inner", "outer", "made", "twin", "marks", "pairs", "first", "turn", "at"]) (sc := defScope sHidden) (by decide +kernel)) (fun _ _ _ _ _ => (dg_name (i := 14) scHidden.nd rfl (.inl rfl))) (fun _ _ _ _ _ => dts_nil)
          (fun _ _ _ _ _ => (de_op op_add rd_I0 (dv 3) (de_op op_mul rd_I (dv 1) (dv 14))))))))))
      (dss_cut (ds_set (i := 7) scHidden.nd rfl (.inl rfl) (de_f (df_cat (dq (de_f (df_sl (dq (dv 7)) do_none (do_some (dv 5))))) (dq (de_f (df_sl (dq (dv 7)) (do_some (de_op op_add rd_I0 (dv 5) de_int)) do_none))))))
      (dss_cut (ds_set (i := 8) scHidden.nd rfl (.inl rfl) (de_f (df_cat (dq (de_f (df_sl (dq (dv 8)) do_none (do_some (dv 6))))) (dq (de_f (df_sl (dq (dv 8)) (do_some (de_op op_add rd_I0 (dv 6) de_int)) do_none))))))
      (dss_cons (ds_par (i := 9) (j := 10) rfl scHidden.nd rfl rfl (by decide) rfl rfl (da_cons (de_call Jo.ok (rd_spD rfl) hr8 Jo.at_ Jo.kp Jo.bi (da_cons (dv 2) (da_cons (dv 7) (da_cons (de_ixL (dq (dv 4)) (dv 3)) da_nil)))) (da_cons (de_call Jo.ok (rd_spD rfl) hr8 Jo.at_ Jo.kp Jo.bi (da_cons (dv 4) (da_cons (dv 8) (da_cons (de_ixL (dq (dv 2)) (dv 3)) da_nil)))) da_nil)) (by rfl))
      (dss_cons (ds_par (i := 11) (j := 12) rfl scHidden.nd rfl rfl (by decide) rfl rfl (da_cons (de_f (df_lc (te := (tTup (tCons _ (tCons (tOp (rIxL K) _ _) tNil)))) (own := [("at", 15)]) rfl scHidden.nd (di_list (dv 7))
     (blkOk_by (N := ["well", "size", "paces", "place", "twins", "rank", "more", "inner", "outer", "made", "twin", "marks", "pairs", "first", "turn", "at"]) (sc := defScope sHidden) (by decide +kernel)) (fun _ _ _ _ _ => (dg_name (i := 15) scHidden.nd rfl (.inl rfl))) (fun _ _ _ _ _ => dts_nil)
     (fun _ _ _ _ _ => (de_tup (da_cons (dv 15) (da_cons (de_ixL (dq (dv 4)) (dv 3)) da_nil)))))) (da_cons (de_f (df_lc (te := (tTup (tCons _ (tCons (tOp (rIxL K) _ _) tNil)))) (own := [("at", 15)]) rfl scHidden.nd (di_list (dv 8))
     (blkOk_by (N := ["well", "size", "paces", "place", "twins", "rank", "more", "inner", "outer", "made", "twin", "marks", "pairs", "first", "turn", "at"]) (sc := defScope sHidden) (by decide +kernel)) (fun _ _ _ _ _ => (dg_name (i := 15) scHidden.nd rfl (.inl rfl))) (fun _ _ _ _ _ => dts_nil)
     (fun _ _ _ _ _ => (de_tup (da_cons (dv 15) (da_cons (de_ixL (dq (dv 2)) (dv 3)) da_nil)))))) da_nil)) (by rfl))
      (dss_cons (ds_set (i := 13) scHidden.nd rfl (.inl rfl) (de_call Nl.ok (rd_spD rfl) hr2 Nl.at_ Nl.kp Nl.bi (da_cons (dv 2) (da_cons (dv 11) (da_cons (dv 4) (da_cons (dv 12) (da_cons de_int da_nil)))))))
      (dss_one (ds_ret (de_cmp op_eq rd_Eq (de_b (call_rep2 hgd hu) (by rfl) T.repr (by decide +kernel) rd_repr (da_cons (de_f (df_lst (da_cons (de_call Un.ok rd_unl hr4 Un.at_ Un.kp Un.bi (da_cons (dv 9) (da_cons (dv 10) da_nil))) (da_cons (de_call Un.ok rd_unl hr4 Un.at_ Un.kp Un.bi (da_cons (dv 10) (da_cons (dv 9) da_nil))) da_nil)))) da_nil)) (de_b (call_rep2 hgd hu) (by rfl) T.repr (by decide +kernel) rd_repr (da_cons (de_f (df_lst (da_cons (dv 13) (da_cons (dv 13) da_nil)))) da_nil)))))))))))))))))), fun ds n K h => ?_⟩
    obtain ⟨rfl, hn, k⟩ := h
    refine ⟨by omega, by decide, by decide, fun z z0 z1 => ?_⟩
    refine ⟨1 + z, rfl, by omega, by omega, by omega, fun ps hp pl => ⟨by omega, by omega, by omega, fun spot p0 p1 => ?_⟩⟩
    obtain ⟨j, rfl⟩ : ∃ j : Nat, spot = j := ⟨spot.toNat, by omega⟩
    have hj : j < ps.length := by omega
    have l0 := hp.len0
    have l1 := hp.len1
    refine ⟨two1000r, ps, rfl, by omega, by decide, by decide, fun rank r0 r1 => ⟨by omega, by decide, by decide, fun more m0 m1 => ?_⟩⟩
    have hat : atI (ps.map DV.int) (j : Int) = some (.int ps[j]) := atI_nat (j := j) (by rw [List.getElem?_map, List.getElem?_eq_getElem hj]; rfl)
    have hix : ixN (ps.map DV.int).length (j : Int) = some j := ixN_at (by rw [List.length_map]; exact hj)
    have ep : ps.getD j 0 = ps[j] := by rw [List.getD_eq_getElem?_getD, List.getElem?_eq_getElem hj]; rfl
    generalize ea : ps[j] = a at hat ep
    have a0 : 0 ≤ a ∧ a ≤ 3 := by rw [← ea]; exact hp.lo _ (List.getElem_mem hj)
    clear ea
    have tk := turn_ok a
    have tn := turn_ne a0.1 a0.2
    generalize eb : 1 + a % 3 = b at tk tn
    refine ⟨fun δ m => ∃ qs, δ = [some (.dat .pool), some (.dat (.int (1 + z))), some (.dat (dInt ps)), some (.dat (.int (j : Nat))), some (.own (qs.map DV.int)), some (.dat (.int rank)), some (.dat (.int more)), none, none, none, none, none, none, none, none, none] ∧ qs = ps.set j b ∧ m ≤ n + 60, ⟨_, hat, by show (0 : Int) < 3; decide, j, hix, ps.set j b, by rw [← eb, List.map_set]; rfl, rfl, by omega⟩, ?_⟩
    rintro δ m ⟨qs, rfl, hqs, hm⟩
    have hq : Paces qs := by rw [hqs]; exact hp.set1 hj tk.1 tk.2
    have ql : qs.length = ps.length := by rw [hqs, List.length_set]
    have eq : qs.getD j 0 = b := by rw [hqs, List.getD_eq_getElem?_getD, List.getElem?_set_self hj]; rfl
    have haq : atI (qs.map DV.int) (j : Int) = some (.int b) := atI_nat (j := j) (by rw [List.getElem?_map, List.getElem?_eq_getElem (show j < qs.length by omega), ← eq, List.getD_eq_getElem?_getD, List.getElem?_eq_getElem (show j < qs.length by omega)]; rfl)
    have hne : ps ≠ qs := fun e => by rw [e, eq] at ep; exact tn ep
    clear hqs hix eb
    have mulI : ∀ {i : Int}, CMul (1 + z) i := .inl ⟨by omega, by omega⟩
    refine ⟨by decide, by decide, fun i acc m' => acc = ((List.range i).map fun i : Nat => (j : Int) + (1 + z) * ((-6) + (i : Nat))).map DV.int ∧ m' ≤ n + 60, ⟨rfl, hm⟩, ?_, ?_⟩
    · rintro i acc m' hi ⟨rfl, hm⟩
      exact ⟨fun _ => ⟨mulI, acc_mapI, hm⟩, (fun z => nomatch z)⟩
    clear hm
    rintro acc m ⟨ha, hm⟩
    obtain ⟨inn, rfl, sinn, linn⟩ : ∃ xs : List Int, acc = xs.map DV.int ∧ Spots (1 + z) j (-6) 6 xs ∧ xs.length = 12 := ⟨_, ha, spots_of (a := (-6)) (n := 12) (by omega), by rw [List.length_map, List.length_range]; rfl⟩
    clear ha
    refine ⟨by decide, by decide, fun i acc m' => acc = ((List.range i).map fun i : Nat => (j : Int) + (1 + z) * ((-12) + (i : Nat))).map DV.int ∧ m' ≤ n + 60, ⟨rfl, hm⟩, ?_, ?_⟩
    · rintro i acc m' hi ⟨rfl, hm⟩
      exact ⟨fun _ => ⟨mulI, acc_mapI, hm⟩, (fun z => nomatch z)⟩
    clear hm
    rintro acc m ⟨ha, hm⟩
    obtain ⟨oua, rfl, soua, loua⟩ : ∃ xs : List Int, acc = xs.map DV.int ∧ Spots (1 + z) j (-12) (-6) xs ∧ xs.length = 6 := ⟨_, ha, spots_of (a := (-12)) (n := 6) (by omega), by rw [List.length_map, List.length_range]; rfl⟩
    clear ha
    refine ⟨fun δ m => ∃ out, δ = [some (.dat .pool), some (.dat (.int (1 + z))), some (.dat (dInt ps)), some (.dat (.int (j : Nat))), some (.dat (dInt qs)), some (.dat (.int rank)), some (.dat (.int more)), some (.dat (dInt inn)), some (.dat (dInt out)), none, none, none, none, none, none, none] ∧ Spots (1 + z) j (-12) 12 out ∧ out.length = 12 ∧ m ≤ n + 60, ?_, ?_⟩
    ·
      refine ⟨by decide, by decide, fun i acc m' => acc = ((List.range i).map fun i : Nat => (j : Int) + (1 + z) * (6 + (i : Nat))).map DV.int ∧ m' ≤ n + 60, ⟨rfl, hm⟩, ?_, ?_⟩
      · rintro i acc m' hi ⟨rfl, hm⟩
        exact ⟨fun _ => ⟨mulI, acc_mapI, hm⟩, (fun z => nomatch z)⟩
      clear hm
      rintro acc m ⟨ha, hm⟩
      obtain ⟨oub, rfl, soub, loub⟩ : ∃ xs : List Int, acc = xs.map DV.int ∧ Spots (1 + z) j 6 12 xs ∧ xs.length = 6 := ⟨_, ha, spots_of (a := 6) (n := 6) (by omega), by rw [List.length_map, List.length_range]; rfl⟩
      clear ha
      refine ⟨by rw [List.length_map, List.length_map]; omega, oua ++ oub, ?_, soua.append (by omega) soub (by decide) (by decide) (by decide), by rw [List.length_append, loua, loub], hm⟩
      show _ = [_, _, _, _, _, _, _, _, some (SV.dat (.lst ((oua ++ oub).map DV.int))), _, _, _, _, _, _, _]
      rw [List.map_append]
      rfl
    clear hm
    rintro δ m ⟨out, rfl, sout, lout, hm⟩
    obtain ⟨rk, rfl⟩ : ∃ rk : Nat, rank = rk := ⟨rank.toNat, by omega⟩
    obtain ⟨mr, rfl⟩ : ∃ mr : Nat, more = mr := ⟨more.toNat, by omega⟩
    have il := skip_len inn rk
    have ol := skip_len out mr
    refine ⟨fun δ m => ∃ ins, δ = [some (.dat .pool), some (.dat (.int (1 + z))), some (.dat (dInt ps)), some (.dat (.int (j : Nat))), some (.dat (dInt qs)), some (.dat (.int (rk : Nat))), some (.dat (.int (mr : Nat))), some (.dat (dInt ins)), some (.dat (dInt out)), none, none, none, none, none, none, none] ∧ Spots (1 + z) j (-6) 6 ins ∧ (11 ≤ ins.length ∧ ins.length ≤ 12) ∧ m ≤ n + 60, ⟨?_, inn.take rk ++ inn.drop (rk + 1), ?_, sinn.skip rk, by omega, hm⟩, ?_⟩
    · show (cutD (inn.map DV.int) none (some (rk : Int))).length + (cutD (inn.map DV.int) (some ((rk + 1 : Nat) : Int)) none).length ≤ 100000
      rw [← List.length_append, cut_drop, List.length_map]
      omega
    · show _ = [_, _, _, _, _, _, _, some (SV.dat (.lst ((inn.take rk ++ inn.drop (rk + 1)).map DV.int))), _, _, _, _, _, _, _, _]
      rw [← cut_drop]
      rfl
    clear hm sinn linn il
    rintro δ m ⟨ins, rfl, sins, lins, hm⟩
    refine ⟨fun δ m => ∃ outs, δ = [some (.dat .pool), some (.dat (.int (1 + z))), some (.dat (dInt ps)), some (.dat (.int (j : Nat))), some (.dat (dInt qs)), some (.dat (.int (rk : Nat))), some (.dat (.int (mr : Nat))), some (.dat (dInt ins)), some (.dat (dInt outs)), none, none, none, none, none, none, none] ∧ Spots (1 + z) j (-12) 12 outs ∧ (11 ≤ outs.length ∧ outs.length ≤ 12) ∧ m ≤ n + 60, ⟨?_, out.take mr ++ out.drop (mr + 1), ?_, sout.skip mr, by omega, hm⟩, ?_⟩
    · show (cutD (out.map DV.int) none (some (mr : Int))).length + (cutD (out.map DV.int) (some ((mr + 1 : Nat) : Int)) none).length ≤ 100000
      rw [← List.length_append, cut_drop, List.length_map]
      omega
    · show _ = [_, _, _, _, _, _, _, _, some (SV.dat (.lst ((out.take mr ++ out.drop (mr + 1)).map DV.int))), _, _, _, _, _, _, _]
      rw [← cut_drop]
      rfl
    clear hm sout lout ol
    rintro δ m ⟨outs, rfl, sout, lout, hm⟩
    rw [← pl] at sins sout
    have z0' : (0 : Int) < (ps.length : Nat) := by omega
    have sq : Spots (qs.length : Nat) j (-12) 12 outs := by rw [ql]; exact sout
    refine ⟨.int b, haq, ps, ins, b, a, rfl, hp, sins.asc, by omega, by omega, by omega, fun x hx => by rw [sins.pace hj hx, ep], fun ms fm ml sm => ?_⟩
    refine ⟨.int a, hat, qs, outs, a, b, rfl, hq, sout.asc, by omega, by omega, a0, fun x hx => by rw [sq.pace (by omega) hx, eq], fun ns fn nl sn => ?_⟩
    refine ⟨by rw [List.length_map]; omega, fun i acc m' => acc = (List.range i).map (fun (i : Nat) => dPr (ins.getD i 0, b)) ∧ m' = m, ⟨rfl, rfl⟩, ?_, ?_⟩
    · rintro i acc m' hi ⟨rfl, rfl⟩
      rw [List.length_map] at hi
      exact ⟨fun _ => ⟨.int b, haq, two1000r, acc_mapr (comp_dPr hi), rfl⟩, (fun z => nomatch z)⟩
    rintro acc m2 ⟨rfl, rfl⟩
    rw [show (List.map DV.int ins).length = ins.length from List.length_map _, range_mapr ins 0 fun x => dPr (x, b)]
    refine ⟨by rw [List.length_map]; omega, fun i acc m' => acc = (List.range i).map (fun (i : Nat) => dPr (outs.getD i 0, a)) ∧ m' = m2, ⟨rfl, rfl⟩, ?_, ?_⟩
    · rintro i acc m' hi ⟨rfl, rfl⟩
      rw [List.length_map] at hi
      exact ⟨fun _ => ⟨.int a, hat, two1000r, acc_mapr (comp_dPr hi), rfl⟩, (fun z => nomatch z)⟩
    rintro acc m3 ⟨rfl, rfl⟩
    rw [show (List.map DV.int outs).length = outs.length from List.length_map _, range_mapr outs 0 fun x => dPr (x, a)]
    have emk : ∀ {xs : List Int} {v : Int}, DV.lst (xs.map fun x => dPr (x, v)) = dPrs (xs.map fun x => (x, v)) := fun {xs v} => by
      show _ = DV.lst ((xs.map fun x => (x, v)).map dPr)
      rw [List.map_map]
      rfl
    rw [emk, emk]
    generalize hms' : (ins.map fun x => (x, b)) = ms'
    generalize hns' : (outs.map fun x => (x, a)) = ns'
    have sm' : ∀ t, speedAt ps ms' t = speedAt ps ms t := fun t => by rw [← hms', speed_all, sm t]
    have sn' : ∀ t, speedAt qs ns' t = speedAt qs ns t := fun t => by rw [← hns', speed_all, sn t]
    have ml' : ms'.length = ins.length := by rw [← hms', List.length_map]
    have nl' : ns'.length = outs.length := by rw [← hns', List.length_map]
    have ue : ∀ t, UnlP ps qs ms' ns' t ↔ UnlP ps qs ms ns t := fun t => by unfold UnlP; rw [sm' t, sn' t]
    have us : ∀ t, UnlP qs ps ns ms t ↔ UnlP ps qs ms ns t := fun t => ⟨fun h e => h e.symm, fun h e => h e.symm⟩
    have hu0 : UnlP ps qs ms' ns' (j + (ps.length : Nat) * 12) := by
      rw [ue]
      unfold UnlP
      rw [sm, sn, if_neg (sins.far z0' (by decide)), if_neg (sout.far z0' (by decide)), pace_at hj, show ((ps.length : Nat) : Int) = (qs.length : Nat) by omega, pace_at (by omega), ep, eq]
      exact fun e => tn e.symm
    refine ⟨ps, ms', qs, ns', 160, rfl, l0, ql.symm, by omega, by decide, by decide, fun _ => ⟨_, hu0, by omega, by omega⟩, fun ow how => ?_⟩
    have oc := how.congr ue
    have rng : ow = .non ∨ ∃ m : Int, ow = .int m ∧ -160 ≤ m ∧ m ≤ 160 := by
      rcases how with ⟨rfl, _⟩ | ⟨m, rfl, hm⟩
      · exact .inl rfl
      · exact .inr ⟨m, rfl, near_abs hm hu0 (by omega) (by omega)⟩
    have rp : Rp (DV.lst [ow, ow]).py 2 1 ∧ (DV.lst [ow, ow]).pu = true := by
      rcases rng with rfl | ⟨m, rfl, a, b⟩
      · exact ⟨(Rp.list (.cons Rp.none (.cons Rp.none .nil))).mono (by decide) (by decide), rfl⟩
      · have := Rp.int (i := m) (by omega) (by omega)
        exact ⟨(Rp.list (.cons this (.cons this .nil))).mono (by decide) (by decide), rfl⟩
    refine ⟨ps, ms, qs, ns, rfl, ql.symm, by omega, fun o1 h1 => ?_⟩
    obtain rfl := h1.uniq oc
    refine ⟨qs, ns, ps, ms, rfl, ql, by omega, fun o2 h2 => ?_⟩
    obtain rfl := (h2.congr us).uniq oc
    refine ⟨two1000r, ⟨2, 1, rp.1, by decide, by decide⟩, rp.2, ?_⟩
    refine ⟨two1000r, ⟨2, 1, rp.1, by decide, by decide⟩, rp.2, ?_⟩
    have e : ∀ s : Str, K (.bl (decide (V.str s = V.str s))) m3 := fun s => by
      rw [decide_eq_true rfl]
      exact k _ (by omega)
    exact ⟨rfl, e _⟩
end

def fFitsC : FD := fun ds n K => ds = [.pool] ∧ n ≤ 10 ^ 6 ∧ ∀ m, m ≤ n + 1000 → K (.bl true) m
theorem fits_ofC {P : Program} {w : World} {K : PySem.W.Frag} {mg : Str → Option Value} {base : Heap} {f : Addr} {fd : FuncData} {k : Nat} {C : Addr} (F : FnG P w K mg base k f fd ["well"] (spD (Wc C) fFitsC)) : FnG P w K mg base k f fd ["well"] spFits := by
  suffices imp : ∀ vs H Q E, spFits vs H Q E → spD (Wc C) fFitsC vs H Q E by
    exact ⟨fun vs H Q E h => F.size vs H Q E (imp _ _ _ _ h), fun B stk s H ar us vs Q E g r e b v h => F.go B stk s H ar us vs Q E g r e b v (imp _ _ _ _ h)⟩
  intro vs H Q E h
  obtain ⟨q, n, rfl, hW, hn, h⟩ := h
  have isl : IsL H q := by
    obtain ⟨a, b, c, e, _⟩ := id hW
    exact ⟨_, e⟩
  refine ⟨some q, fun a => a = q, [.pool], n, fun r m => r = .bl true ∧ m ≤ n + 1000, fun a e => by rw [e]; exact isl, fun a e => by cases e; exact ⟨rfl, hW⟩, .cons (.pool rfl) .nil, fun r m v H' fr pl rp km => ?_, rfl, hn, fun m hm => ⟨rfl, hm⟩⟩
  obtain ⟨rfl, hm⟩ := km
  rw [rp.bl_inv]
  exact h H' (fun b o e ne => fr b o e fun z => ne (by cases z; rfl)) ((pl q rfl).mono hm)
theorem Marks.fitR {cap : Int} {ps : List Int} {ms : List (Int × Int)} (h : Marks cap ms) (g : cap ≤ 3) : Fit ms ∧ (realOf ps ms).length ≤ 3 ∧ ∀ m ∈ realOf ps ms, -10 ^ 40 < m.1 ∧ m.1 < 10 ^ 40 ∧ -10 ^ 40 < m.2 ∧ m.2 < 10 ^ 40 := by
  have l := h.len
  refine ⟨⟨h.asc, h.val, by omega⟩, Nat.le_trans (List.length_filter_le _ _) (by omega), fun m hm => ?_⟩
  have hm2 := (List.mem_filter.mp hm).1
  have a := h.big m hm2
  have b := h.val m hm2
  omega

theorem vals_getDr {vs : List V} {us : List Value} (r : Vals vs us) (i : Nat) : L2.RelV (vs.getD i V.non) (us.getD i Value.none) := by
  induction r generalizing i with
  | nil => cases i <;> exact (rfl : L2.RelV V.non Value.none)
  | cons a _ ih =>
    cases i with
    | zero => exact a
    | succ i => exact ih i
def gSw {α : Type} (z : α) : List α → List α → List α := fun _ ws => [ws.getD 1 z, ws.getD 0 z]
section
variable {X : Cx} {W : Wo} {pos : Pos} {k : Nat}
structure DKw (X : Cx) (W : Wo) (kws : List Keyword) (t : TA) (d : TDA) : Prop where
  pk : PK X kws t
  tr : TrA W t d
theorem dkw_nil : DKw X W [] tNil dNil := ⟨pk_nil, fun B Φ M σ H δ n Q K ok c h => c _ _ _ _ .refl ok.plOf .nil h⟩
theorem dkw_cons {e : Expr} {t : TE} {d : TD} {kws : List Keyword} {tA : TA} {dA : TDA} {nm : Option Str} {kpos : Pos} (ha : DE X W e t d) (hr : DKw X W kws tA dA) : DKw X W (⟨nm, e, kpos⟩ :: kws) (tCons t tA) (dCons d dA) := ⟨pk_cons ha.pe hr.pk, fun B Φ M σ H δ n Q K ok c h => ha.tr B Φ M σ H δ n _ _ ok (fun r m v H1 f p ra h => hr.tr B Φ M σ H1 δ m _ _ (ok.expr f p) (fun rs k vs H2 f2 p2 rb h =>
    c _ _ _ _ (f.trans f2) p2 (.cons (ra.mono (ok.frM f2)) rb) h) h) h⟩
def dCallSw (f : FD) (b : TDA) : TD := fun δ n K => b δ n fun xs k => match xs with
  | [x, y] => f [y, x] k K
  | _ => False
/-- f(b = y, a = x) of f(a, b) -/
theorem de_callSw {f : Addr} {fd : FuncData} {ps : List Str} {sp : Sp} {x n1 n2 : Str} {p : Pos} {kws : List Keyword} {tk : TA} {dk : TDA} {g : List Value → List Value → List Value} {fD : FD} (F : FnOk X.prog X.w X.K X.mg X.base CX0 k f fd ps sp) (rd : RdFn W sp fD) (hr : Room k X.A) (hm : X.mg x = some (.ref f)) (hk : PySem.W.keepIn X.K (.ref f) = true) (hb : KBn X.K fd ps 0 [n1, n2] g (gSw V.non)) (hkw : DKw X W kws tk dk)
    (hg : Gl X x := by rfl) (hall : (backToKw pos (keywordEach kws X.env)).all (·.1.isSome) = true := by rfl) (hks : (backToKw pos (keywordEach kws X.env)).filterMap (·.1) = [n1, n2] := by rfl) (hdb : (x == ("__debug__" : Str)) = false := by decide)
    (hpl : ((backTo pos (starEach [] X.env)).any (·.1) || (backToKw pos (keywordEach kws X.env)).any (·.1.isNone)) = false := by rfl) :
    DE X W (.Call (.Name x p) [] kws pos) (fun σ H Q => tk σ H fun zs H2 => zs.length = 2 ∧ sp (gSw V.non [] zs) H2 Q E0) (dCallSw fD dk) :=
  ⟨pe_callKw F hr hg hm hk hb hkw.pk hall hks hdb hpl, fun B Φ M σ H δ n Q K ok c q => hkw.tr B Φ M σ H δ n _ _ ok (fun ds m vs H1 f1 p1 ra q => by
    match ds, q with
    | [d1, d2], q =>
      obtain ⟨u, us, rfl, r1, rs⟩ := ra.cons_inv
      obtain ⟨v, rfl, r2⟩ := rs.one_inv
      have ok1 := ok.expr f1 p1
      exact ⟨rfl, rd M H1 [v, u] [d2, d1] m Q E0 K ok1.dom ok1.poolM (.cons r2 (.cons r1 .nil)) (fun r j v H' f2 p2 r2 k => c _ _ _ _ (f1.trans f2) p2 r2 k) q⟩) q⟩
end
structure AtG (P : Program) (w : World) (K : PySem.W.Frag) (mg : Str → Option Value) (base : Heap) (k : Nat) (x : Str) (ps : List Str) (sp : Sp) (f : Addr) (fd : FuncData) : Prop where
  ok : FnG P w K mg base k f fd ps sp
  at_ : mg x = some (.ref f)
  kp : PySem.W.keepIn K (.ref f) = true
  bi : Binds K fd ps []
theorem kb_unl {K : PySem.W.Frag} {f : Addr} {fd : FuncData} (F : Fun K "first_unlike" "first_unlike" sUnlike f fd) : KBn K fd ["calendar", "other"] 0 ["other", "calendar"] (gSw Value.none) (gSw V.non) := by
  obtain ⟨oc, od, kV, doc, pm, an, cdv, ct, osl, rfl, lk, hcd⟩ := F.ex
  refine ⟨fun s us ws _ l1 l2 => ?_, fun {vs us zs ws} r1 r2 => .cons (vals_getDr r2 1) (.cons (vals_getDr r2 0) .nil)⟩
  match us, l1, ws, l2 with
  | [], _, [c, d], _ => exact .of_eq rfl

theorem list_diff : ∀ {ps qs : List Int}, ps.length = qs.length → ps ≠ qs → ∃ r, r < ps.length ∧ ps.getD r 0 ≠ qs.getD r 0
  | [], [], _, h => absurd rfl h
  | p :: ps, q :: qs, hl, h => by
    by_cases e : p = q
    · subst e
      obtain ⟨r, hr, hd⟩ := list_diff (ps := ps) (qs := qs) (by simpa using hl) (fun e => h (by rw [e]))
      exact ⟨r + 1, by rw [List.length_cons]; omega, hd⟩
    · exact ⟨0, by rw [List.length_cons]; omega, e⟩
/-- weeks that are unlike part within so many moments -/
theorem unl_near {ps qs : List Int} {ms ns : List (Int × Int)} (ll : ps.length = qs.length) (l1 : ps.length ≤ 12) (hm : ms.length ≤ 3) (hn : ns.length ≤ 3) (h : ps ≠ qs) : ∃ u, UnlP ps qs ms ns u ∧ -90 ≤ u ∧ u ≤ 90 := by
  obtain ⟨r, hr, hd⟩ := list_diff ll h
  obtain ⟨i, hi, hni⟩ := unch_ex (ks := (ms ++ ns).map (·.1)) (f := fun (i : Nat) => (r : Int) + (ps.length : Nat) * (i : Int)) (fun i j e => by
    have := Int.eq_of_mul_eq_mul_left (show ((ps.length : Nat) : Int) ≠ 0 by omega) (show ((ps.length : Nat) : Int) * (i : Int) = (ps.length : Nat) * (j : Int) from Int.add_left_cancel e)
    omega)
  rw [List.length_map, List.length_append] at hi
  have hmul : ps.length * i ≤ 12 * 6 := Nat.mul_le_mul l1 (by omega)
  have hmulZ : ((ps.length : Nat) : Int) * (i : Int) = ((ps.length * i : Nat) : Int) := by rw [Int.natCast_mul]
  refine ⟨r + (ps.length : Nat) * (i : Int), fun e => ?_, by omega, by omega⟩
  simp only [List.map_append, List.mem_append, not_or] at hni
  rw [speed_offU hni.1, speed_offU hni.2, pace_at hr, show ((ps.length : Nat) : Int) = (qs.length : Nat) by omega, pace_at (by omega)] at e
  exact hd e
section
variable {P : Program} {w : World} {K : PySem.W.Frag} {mg : Str → Option Value} {base : Heap}
theorem scFits : FnScope ["well", "size", "paces", "marks", "twins", "pairs", "made", "twin", "first", "told"] ["well"] (defScope sFits) := ⟨rfl, rfl, rfl, by decide +kernel, rfl, by decide +kernel, by decide +kernel⟩
theorem ok_fits16 {f fT fP fM fI fTw fN fU fH C : Addr} {fd dT dP dM dI dTw dN dU dH : FuncData} (F : Fun K "_law_fits" "_law_fits" sFits f fd) (T : Blt mg) (Z : Cal K mg C) (L : Tk P w K mg base fT dT) (Pa : At P w K mg base 2 "_law_paces" ["well", "size"] spPaces fP dP) (Ma : At P w K mg base 3 "_law_marks" ["well", "size", "cap"] spMarks fM dM)
    (MKC : Mk K C fI) (GI : FnOk P w K mg base CX0 3 fI dI ["self", "speeds", "changes"] (spInit C K)) (bI : Binds K dI ["self", "speeds", "changes"] [])
    (Tw : At P w K mg base 4 "_law_twin" ["well", "paces", "marks"] (spD (Wc C) fTwin) fTw dTw) (Nl : At P w K mg base 2 "_law_nearest" ["paces", "marks", "twins", "pairs", "wide"] (spD (Wc C) fNear16) fN dN) (Un : At P w K mg base 4 "first_unlike" ["calendar", "other"] (spUnl C) fU dU)
    (kUn : KBn K dU ["calendar", "other"] 0 ["other", "calendar"] (gSw Value.none) (gSw V.non)) (Hi : AtG P w K mg base 9 "_law_hidden" ["well"] (spD (Wc C) fHid16) fH dH) :
    FnG P w K mg base 10 f fd ["well"] (spD (Wc C) fFitsC) := by
  refine okGD F scFits (Wc C) fFitsC (fun ds n K h => ?_) (fun p cdv A outer s H E hgd hr => ?_)
  · obtain ⟨rfl, _⟩ := h
    rfl
  · have hu := hr.units
    have hr1 : Room 1 _ := hr.mono (by decide)
    have hr2 : Room 2 _ := hr.mono (by decide)
    have hr3 : Room 3 _ := hr.mono (by decide)
    have hr4 : Room 4 _ := hr.mono (by decide)
    have hr9 : Room 9 _ := hr.mono (by decide)
    refine ⟨_, _, (dss_cons (ds_if (dt_cmp op_eq rd_Eq (de_call L.ok rd_take hr1 L.at_ L.kp L.bi (da_cons (dv 0) (da_cons de_int da_nil))) de_int)
        (dss_one (ds_ret (de_callG Hi.ok (rd_spD rfl) hgd hr9 Hi.at_ Hi.kp Hi.bi (da_cons (dv 0) da_nil))))
        dss_nil)
      (dss_cons (ds_set (i := 1) scFits.nd rfl (.inl rfl) (de_op op_add rd_I0 de_int (de_call L.ok rd_take hr1 L.at_ L.kp L.bi (da_cons (dv 0) (da_cons de_int da_nil)))))
      (dss_cons (ds_set (i := 2) scFits.nd rfl (.inl rfl) (de_call Pa.ok rd_paces hr2 Pa.at_ Pa.kp Pa.bi (da_cons (dv 0) (da_cons (dv 1) da_nil))))
      (dss_cons (ds_set (i := 3) scFits.nd rfl (.inl rfl) (de_call Ma.ok rd_marks hr3 Ma.at_ Ma.kp Ma.bi (da_cons (dv 0) (da_cons (dv 1) (da_cons de_int da_nil)))))
      (dss_cons (ds_asg [4, 5] (de_call Tw.ok (rd_spD rfl) hr4 Tw.at_ Tw.kp Tw.bi (da_cons (dv 0) (da_cons (dv 2) (da_cons (dv 3) da_nil)))) (dg_lst rfl (dgs_cons (dg_name (i := 4) scFits.nd rfl (.inl rfl)) (dgs_cons (dg_name (i := 5) scFits.nd rfl (.inl rfl)) dgs_nil)) (.cons (.cons .nil))))
      (dss_cons (ds_par (i := 6) (j := 7) rfl scFits.nd rfl rfl (by decide) rfl rfl (da_cons (let A := (da_cons (de_f (df_tQ call_list_of (by rfl) T.list (by decide +kernel) rd_list (dq (dv 2)))) (da_cons (de_f (df_tQ call_list_of (by rfl) T.list (by decide +kernel) rd_list (dq (dv 3)))) da_nil)); de_make MKC GI (trE_cal A.tr) hr4 Z.at_ bI A.pa) (da_cons (let A := (da_cons (de_f (df_tQ call_list_of (by rfl) T.list (by decide +kernel) rd_list (dq (dv 4)))) (da_cons (de_f (df_tQ call_list_of (by rfl) T.list (by decide +kernel) rd_list (dq (dv 5)))) da_nil)); de_make MKC GI (trE_cal A.tr) hr4 Z.at_ bI A.pa) da_nil)) (by rfl))
      (dss_cons (ds_set (i := 8) scFits.nd rfl (.inl rfl) (de_call Nl.ok (rd_spD rfl) hr2 Nl.at_ Nl.kp Nl.bi (da_cons (dv 2) (da_cons (dv 3) (da_cons (dv 4) (da_cons (dv 5) (da_cons de_int da_nil)))))))
      (dss_cons (ds_set (i := 9) scFits.nd rfl (.inl rfl) (de_f (df_lst (da_cons (de_call Un.ok rd_unl hr4 Un.at_ Un.kp Un.bi (da_cons (dv 6) (da_cons (dv 7) da_nil))) (da_cons (de_call Un.ok rd_unl hr4 Un.at_ Un.kp Un.bi (da_cons (dv 7) (da_cons (dv 6) da_nil))) (da_cons (de_callSw Un.ok rd_unl hr4 Un.at_ Un.kp kUn (dkw_cons (dv 7) (dkw_cons (dv 6) dkw_nil))) da_nil))))))
      (dss_one (ds_ret (de_cmp op_eq rd_Eq (de_b (call_rep2 hgd hu) (by rfl) T.repr (by decide +kernel) rd_repr (da_cons (de_f (df_cat (dq (dv 9)) (dq (de_f (df_lst (da_cons (de_call Un.ok rd_unl hr4 Un.at_ Un.kp Un.bi (da_cons (dv 6) (da_cons (dv 6) da_nil))) da_nil)))))) da_nil)) (de_b (call_rep2 hgd hu) (by rfl) T.repr (by decide +kernel) rd_repr (da_cons (de_f (df_cat (dq (de_f (df_rep (dq (de_f (df_lst (da_cons (dv 8) da_nil)))) de_int))) (dq (de_f (df_lst (da_cons de_non da_nil)))))) da_nil))))))))))))), fun ds n K h => ?_⟩
    obtain ⟨rfl, hn, k⟩ := h
    refine ⟨by omega, by decide, by decide, fun v v0 v1 => ⟨rfl, fun g => ⟨rfl, by omega, fun m hm => k m (by omega)⟩, fun g => ?_⟩⟩
    refine ⟨by omega, by decide, by decide, fun z z0 z1 => ?_⟩
    refine ⟨1 + z, rfl, by omega, by omega, by omega, fun ps hp pl => ⟨1 + z, 3, rfl, by omega, ⟨by omega, by omega⟩, ⟨by decide, by decide⟩, fun ms hm => ?_⟩⟩
    refine ⟨ps, ms, rfl, by omega, hp, hm, fun qs ns m hq ql hns hmm => ?_⟩
    have l0 := hp.len0
    have l1 := hp.len1
    have f1 : Fit ms := ⟨hm.asc, hm.val, by have := hm.len; omega⟩
    have f2 : Fit ns := ⟨hns.asc, hns.val, by have := hns.len; omega⟩
    have n1 : ms.length ≤ 3 := by have := hm.len; omega
    have n2 : ns.length ≤ 3 := by have := hns.len; omega
    refine ⟨ps, ms, rfl, hp, f1, ?_⟩
    refine ⟨qs, ns, rfl, hq, f2, ?_⟩
    have sm : ∀ t, speedAt ps (realOf ps ms) t = speedAt ps ms t := fun t => speed_real f1.asc
    have sn : ∀ t, speedAt qs (realOf qs ns) t = speedAt qs ns t := fun t => speed_real f2.asc
    have rm : (realOf ps ms).length ≤ 3 := Nat.le_trans (List.length_filter_le _ _) n1
    have rn : (realOf qs ns).length ≤ 3 := Nat.le_trans (List.length_filter_le _ _) n2
    generalize realOf ps ms = rs at sm rm
    generalize realOf qs ns = ts at sn rn
    refine ⟨ps, ms, qs, ns, 90, rfl, l0, ql.symm, by omega, by decide, by decide, fun h => unl_near ql.symm l1 n1 n2 h, fun ow how => ?_⟩
    have ue : ∀ t, UnlP ps qs rs ts t ↔ UnlP ps qs ms ns t := fun t => by unfold UnlP; rw [sm t, sn t]
    have us : ∀ t, UnlP qs ps ts rs t ↔ UnlP ps qs ms ns t := fun t => Iff.trans ⟨fun h e => h e.symm, fun h e => h e.symm⟩ (ue t)
    have so : ∀ t, ¬ UnlP ps ps rs rs t := fun t h => h rfl
    refine ⟨ps, rs, qs, ts, rfl, ql.symm, by omega, fun o1 h1 => ?_⟩
    obtain rfl := (h1.congr ue).uniq how
    clear h1
    refine ⟨qs, ts, ps, rs, rfl, ql, by omega, fun o2 h2 => ?_⟩
    obtain rfl := (h2.congr us).uniq how
    clear h2
    refine ⟨ps, rs, qs, ts, rfl, ql.symm, by omega, fun o3 h3 => ?_⟩
    obtain rfl := (h3.congr ue).uniq how
    clear h3
    have rng : o3 = .non ∨ ∃ m : Int, o3 = .int m ∧ -10 ^ 40 < m ∧ m < 10 ^ 40 := by
      rcases how with ⟨rfl, _⟩ | ⟨m, rfl, hm'⟩
      · exact .inl rfl
      · refine .inr ⟨m, rfl, ?_⟩
        by_cases c : ps = qs
        · subst c
          obtain ⟨w, hw, e⟩ := List.mem_map.mp (unl_mark hm'.1)
          rcases List.mem_append.mp hw with g | g
          · have := hm.big w g
            omega
          · have := hns.big w g
            omega
        · obtain ⟨u, hu1, ua, ub⟩ := unl_near ql.symm l1 n1 n2 c
          have := near_abs hm' hu1 ua ub
          omega
    refine ⟨(by decide : 3 ≤ 1000), ps, rs, ps, rs, rfl, rfl, by omega, fun o4 h4 => ?_⟩
    obtain rfl : o4 = .non := h4.elim (fun h => h.1) fun ⟨m, _, h⟩ => absurd h.1 (so m)
    have rp : Rp (DV.lst [o3, o3, o3, .non]).py 4 1 ∧ (DV.lst [o3, o3, o3, .non]).pu = true := by
      rcases rng with rfl | ⟨m, rfl, a, b⟩
      · exact ⟨(Rp.list (.cons Rp.none (.cons Rp.none (.cons Rp.none (.cons Rp.none .nil))))).mono (by decide) (by decide), rfl⟩
      · have := Rp.int (i := m) (by omega) (by omega)
        exact ⟨(Rp.list (.cons this (.cons this (.cons this (.cons Rp.none .nil))))).mono (by decide) (by decide), rfl⟩
    refine ⟨one1000r, (by decide : 3 + 1 ≤ 100000), ⟨4, 1, rp.1, by decide, by decide⟩, rp.2, ?_⟩
    have e : ∀ s : Str, K (.bl (decide (V.str s = V.str s))) m := fun s => by
      rw [decide_eq_true rfl]
      exact k _ (by omega)
    refine ⟨one1000r, by decide, by decide, (by decide : 1 * 3 ≤ 100000), one1000r, (by decide : 3 + 1 ≤ 100000), ⟨4, 1, rp.1, by decide, by decide⟩, rp.2, ?_⟩
    exact ⟨rfl, e _⟩
end

section
theorem all_mk {l : PySem.W.OpenLaw} {w : World} {K : PySem.W.Frag} {h : Heap} {mg : Str → Option Value} {fa C f0 f1 f2 f3 f4 f5 f6 f7 f8 f9 f10 f11 f12 f13 f14 f15 f16 f17 f18 f19 f20 f21 f22 f23 f24 p24 f25 p25 f26 p26 f27 f28 f29 : Addr} (X : K.In h) (G : h.Ns mainGlobals mg) (hfa : mg "law" = some (.ref fa))
    {oc0 kV0 dc0 pm0 cd0 ct0 : Value} {od0 an0 : Option Addr} {sl0 : Array (Option Value)}
    {oc1 kV1 dc1 pm1 cd1 ct1 : Value} {od1 an1 : Option Addr} {sl1 : Array (Option Value)}
    {oc2 kV2 dc2 pm2 cd2 ct2 : Value} {od2 an2 : Option Addr} {sl2 : Array (Option Value)}
    {oc3 kV3 dc3 pm3 cd3 ct3 : Value} {od3 an3 : Option Addr} {sl3 : Array (Option Value)}
    {oc4 kV4 dc4 pm4 cd4 ct4 : Value} {od4 an4 : Option Addr} {sl4 : Array (Option Value)}
    {oc5 kV5 dc5 pm5 cd5 ct5 : Value} {od5 an5 : Option Addr} {sl5 : Array (Option Value)}
    {oc6 kV6 dc6 pm6 cd6 ct6 : Value} {od6 an6 : Option Addr} {sl6 : Array (Option Value)}
    {oc7 kV7 dc7 pm7 cd7 ct7 : Value} {od7 an7 : Option Addr} {sl7 : Array (Option Value)}
    {oc8 kV8 dc8 pm8 cd8 ct8 : Value} {od8 an8 : Option Addr} {sl8 : Array (Option Value)}
    {oc9 kV9 dc9 pm9 cd9 ct9 : Value} {od9 an9 : Option Addr} {sl9 : Array (Option Value)}
    {oc10 kV10 dc10 pm10 cd10 ct10 : Value} {od10 an10 : Option Addr} {sl10 : Array (Option Value)}
    {oc11 kV11 dc11 pm11 cd11 ct11 : Value} {od11 an11 : Option Addr} {sl11 : Array (Option Value)}
    {oc12 kV12 dc12 pm12 cd12 ct12 : Value} {od12 an12 : Option Addr} {sl12 : Array (Option Value)}
    {oc13 kV13 dc13 pm13 cd13 ct13 : Value} {od13 an13 : Option Addr} {sl13 : Array (Option Value)}
    {oc14 kV14 dc14 pm14 cd14 ct14 : Value} {od14 an14 : Option Addr} {sl14 : Array (Option Value)}
    {oc15 kV15 dc15 pm15 cd15 ct15 : Value} {od15 an15 : Option Addr} {sl15 : Array (Option Value)}
    {oc16 kV16 dc16 pm16 cd16 ct16 : Value} {od16 an16 : Option Addr} {sl16 : Array (Option Value)}
    {oc17 kV17 dc17 pm17 cd17 ct17 : Value} {od17 an17 : Option Addr} {sl17 : Array (Option Value)}
    {oc18 kV18 dc18 pm18 cd18 ct18 : Value} {od18 an18 : Option Addr} {sl18 : Array (Option Value)}
    {oc19 kV19 dc19 pm19 cd19 ct19 : Value} {od19 an19 : Option Addr} {sl19 : Array (Option Value)}
    {oc20 kV20 dc20 pm20 cd20 ct20 : Value} {od20 an20 : Option Addr} {sl20 : Array (Option Value)}
    {oc21 kV21 dc21 pm21 cd21 ct21 : Value} {od21 an21 : Option Addr} {sl21 : Array (Option Value)}
    {oc22 kV22 dc22 pm22 cd22 ct22 : Value} {od22 an22 : Option Addr} {sl22 : Array (Option Value)}
    {oc23 kV23 dc23 pm23 cd23 ct23 : Value} {od23 an23 : Option Addr} {sl23 : Array (Option Value)}
    {rs24 : List Value}
    {oc24 kV24 dc24 pm24 cd24 ct24 : Value} {od24 an24 : Option Addr} {sl24 : Array (Option Value)}
    {rs25 : List Value}
    {oc25 kV25 dc25 pm25 cd25 ct25 : Value} {od25 an25 : Option Addr} {sl25 : Array (Option Value)}
    {rs26 : List Value}
    {oc26 kV26 dc26 pm26 cd26 ct26 : Value} {od26 an26 : Option Addr} {sl26 : Array (Option Value)}
    {oc27 kV27 dc27 pm27 cd27 ct27 : Value} {od27 an27 : Option Addr} {sl27 : Array (Option Value)}
    {oc28 kV28 dc28 pm28 cd28 ct28 : Value} {od28 an28 : Option Addr} {sl28 : Array (Option Value)}
    {oc29 kV29 dc29 pm29 cd29 ct29 : Value} {od29 an29 : Option Addr} {sl29 : Array (Option Value)}
    {t_GREATEST_WEEK : Tok}
    {t_GREATEST_SPEED : Tok}
    (aC : PySem.W.nsIn K mainGlobals "Calendar" = some (some (.ref C)))
    (a0 : PySem.W.nsIn K mainGlobals "check_week" = some (some (.ref f0)))
    (l0 : K.lookup f0 = some ⟨oc0, od0, .func (PySem.W.fnOf "check_week" "check_week" (defArgs sChkWeek) (defBody sChkWeek) (defScope sChkWeek) .none kV0 dc0 pm0 an0 cd0 ct0), sl0⟩)
    (c0 : PySem.W.codeIn K cd0 "check_week" = true)
    (k0 : PySem.W.keepIn K (.ref f0) = true)
    (a1 : PySem.W.nsIn K mainGlobals "check_weeks" = some (some (.ref f1)))
    (l1 : K.lookup f1 = some ⟨oc1, od1, .func (PySem.W.fnOf "check_weeks" "check_weeks" (defArgs sWeeks) (defBody sWeeks) (defScope sWeeks) .none kV1 dc1 pm1 an1 cd1 ct1), sl1⟩)
    (c1 : PySem.W.codeIn K cd1 "check_weeks" = true)
    (k1 : PySem.W.keepIn K (.ref f1) = true)
    (a2 : PySem.W.nsIn K mainGlobals "is_behind" = some (some (.ref f2)))
    (l2 : K.lookup f2 = some ⟨oc2, od2, .func (PySem.W.fnOf "is_behind" "is_behind" (defArgs sBehind) (defBody sBehind) (defScope sBehind) .none kV2 dc2 pm2 an2 cd2 ct2), sl2⟩)
    (c2 : PySem.W.codeIn K cd2 "is_behind" = true)
    (k2 : PySem.W.keepIn K (.ref f2) = true)
    (a3 : PySem.W.nsIn K mainGlobals "changed_moments" = some (some (.ref f3)))
    (l3 : K.lookup f3 = some ⟨oc3, od3, .func (PySem.W.fnOf "changed_moments" "changed_moments" (defArgs sChanged) (defBody sChanged) (defScope sChanged) .none kV3 dc3 pm3 an3 cd3 ct3), sl3⟩)
    (c3 : PySem.W.codeIn K cd3 "changed_moments" = true)
    (k3 : PySem.W.keepIn K (.ref f3) = true)
    (a4 : PySem.W.nsIn K mainGlobals "nearness" = some (some (.ref f4)))
    (l4 : K.lookup f4 = some ⟨oc4, od4, .func (PySem.W.fnOf "nearness" "nearness" (defArgs sNearness) (defBody sNearness) (defScope sNearness) .none kV4 dc4 pm4 an4 cd4 ct4), sl4⟩)
    (c4 : PySem.W.codeIn K cd4 "nearness" = true)
    (k4 : PySem.W.keepIn K (.ref f4) = true)
    (a5 : PySem.W.nsIn K mainGlobals "nearest" = some (some (.ref f5)))
    (l5 : K.lookup f5 = some ⟨oc5, od5, .func (PySem.W.fnOf "nearest" "nearest" (defArgs sNearest) (defBody sNearest) (defScope sNearest) .none kV5 dc5 pm5 an5 cd5 ct5), sl5⟩)
    (c5 : PySem.W.codeIn K cd5 "nearest" = true)
    (k5 : PySem.W.keepIn K (.ref f5) = true)
    (a6 : PySem.W.nsIn K mainGlobals "is_speed" = some (some (.ref f6)))
    (l6 : K.lookup f6 = some ⟨oc6, od6, .func (PySem.W.fnOf "is_speed" "is_speed" (defArgs sIsSpeed) (defBody sIsSpeed) (defScope sIsSpeed) .none kV6 dc6 pm6 an6 cd6 ct6), sl6⟩)
    (c6 : PySem.W.codeIn K cd6 "is_speed" = true)
    (k6 : PySem.W.keepIn K (.ref f6) = true)
    (a7 : PySem.W.nsIn K mainGlobals "check_speeds" = some (some (.ref f7)))
    (l7 : K.lookup f7 = some ⟨oc7, od7, .func (PySem.W.fnOf "check_speeds" "check_speeds" (defArgs sChkSpeeds) (defBody sChkSpeeds) (defScope sChkSpeeds) .none kV7 dc7 pm7 an7 cd7 ct7), sl7⟩)
    (c7 : PySem.W.codeIn K cd7 "check_speeds" = true)
    (k7 : PySem.W.keepIn K (.ref f7) = true)
    (a8 : PySem.W.nsIn K mainGlobals "check_changes" = some (some (.ref f8)))
    (l8 : K.lookup f8 = some ⟨oc8, od8, .func (PySem.W.fnOf "check_changes" "check_changes" (defArgs sChkChanges) (defBody sChkChanges) (defScope sChkChanges) .none kV8 dc8 pm8 an8 cd8 ct8), sl8⟩)
    (c8 : PySem.W.codeIn K cd8 "check_changes" = true)
    (k8 : PySem.W.keepIn K (.ref f8) = true)
    (a9 : PySem.W.nsIn K mainGlobals "speed_pairs" = some (some (.ref f9)))
    (l9 : K.lookup f9 = some ⟨oc9, od9, .func (PySem.W.fnOf "speed_pairs" "speed_pairs" (defArgs sPairs) (defBody sPairs) (defScope sPairs) .none kV9 dc9 pm9 an9 cd9 ct9), sl9⟩)
    (c9 : PySem.W.codeIn K cd9 "speed_pairs" = true)
    (k9 : PySem.W.keepIn K (.ref f9) = true)
    (a10 : PySem.W.nsIn K mainGlobals "first_unlike" = some (some (.ref f10)))
    (l10 : K.lookup f10 = some ⟨oc10, od10, .func (PySem.W.fnOf "first_unlike" "first_unlike" (defArgs sUnlike) (defBody sUnlike) (defScope sUnlike) .none kV10 dc10 pm10 an10 cd10 ct10), sl10⟩)
    (c10 : PySem.W.codeIn K cd10 "first_unlike" = true)
    (k10 : PySem.W.keepIn K (.ref f10) = true)
    (a11 : PySem.W.nsIn K mainGlobals "_law_well" = some (some (.ref f11)))
    (l11 : K.lookup f11 = some ⟨oc11, od11, .func (PySem.W.fnOf "_law_well" "_law_well" (defArgs sWell) (defBody sWell) (defScope sWell) .none kV11 dc11 pm11 an11 cd11 ct11), sl11⟩)
    (c11 : PySem.W.codeIn K cd11 "_law_well" = true)
    (k11 : PySem.W.keepIn K (.ref f11) = true)
    (a12 : PySem.W.nsIn K mainGlobals "_law_take" = some (some (.ref f12)))
    (l12 : K.lookup f12 = some ⟨oc12, od12, .func (PySem.W.fnOf "_law_take" "_law_take" (defArgs sTake) (defBody sTake) (defScope sTake) .none kV12 dc12 pm12 an12 cd12 ct12), sl12⟩)
    (c12 : PySem.W.codeIn K cd12 "_law_take" = true)
    (k12 : PySem.W.keepIn K (.ref f12) = true)
    (a13 : PySem.W.nsIn K mainGlobals "_law_number" = some (some (.ref f13)))
    (l13 : K.lookup f13 = some ⟨oc13, od13, .func (PySem.W.fnOf "_law_number" "_law_number" (defArgs sNumber) (defBody sNumber) (defScope sNumber) .none kV13 dc13 pm13 an13 cd13 ct13), sl13⟩)
    (c13 : PySem.W.codeIn K cd13 "_law_number" = true)
    (k13 : PySem.W.keepIn K (.ref f13) = true)
    (a14 : PySem.W.nsIn K mainGlobals "_law_paces" = some (some (.ref f14)))
    (l14 : K.lookup f14 = some ⟨oc14, od14, .func (PySem.W.fnOf "_law_paces" "_law_paces" (defArgs sPaces) (defBody sPaces) (defScope sPaces) .none kV14 dc14 pm14 an14 cd14 ct14), sl14⟩)
    (c14 : PySem.W.codeIn K cd14 "_law_paces" = true)
    (k14 : PySem.W.keepIn K (.ref f14) = true)
    (a15 : PySem.W.nsIn K mainGlobals "_law_marks" = some (some (.ref f15)))
    (l15 : K.lookup f15 = some ⟨oc15, od15, .func (PySem.W.fnOf "_law_marks" "_law_marks" (defArgs sMarks) (defBody sMarks) (defScope sMarks) .none kV15 dc15 pm15 an15 cd15 ct15), sl15⟩)
    (c15 : PySem.W.codeIn K cd15 "_law_marks" = true)
    (k15 : PySem.W.keepIn K (.ref f15) = true)
    (a16 : PySem.W.nsIn K mainGlobals "_law_pace" = some (some (.ref f16)))
    (l16 : K.lookup f16 = some ⟨oc16, od16, .func (PySem.W.fnOf "_law_pace" "_law_pace" (defArgs sPace) (defBody sPace) (defScope sPace) .none kV16 dc16 pm16 an16 cd16 ct16), sl16⟩)
    (c16 : PySem.W.codeIn K cd16 "_law_pace" = true)
    (k16 : PySem.W.keepIn K (.ref f16) = true)
    (a17 : PySem.W.nsIn K mainGlobals "_law_twin" = some (some (.ref f17)))
    (l17 : K.lookup f17 = some ⟨oc17, od17, .func (PySem.W.fnOf "_law_twin" "_law_twin" (defArgs sTwinL) (defBody sTwinL) (defScope sTwinL) .none kV17 dc17 pm17 an17 cd17 ct17), sl17⟩)
    (c17 : PySem.W.codeIn K cd17 "_law_twin" = true)
    (k17 : PySem.W.keepIn K (.ref f17) = true)
    (a18 : PySem.W.nsIn K mainGlobals "_law_nearest" = some (some (.ref f18)))
    (l18 : K.lookup f18 = some ⟨oc18, od18, .func (PySem.W.fnOf "_law_nearest" "_law_nearest" (defArgs sNearL) (defBody sNearL) (defScope sNearL) .none kV18 dc18 pm18 an18 cd18 ct18), sl18⟩)
    (c18 : PySem.W.codeIn K cd18 "_law_nearest" = true)
    (k18 : PySem.W.keepIn K (.ref f18) = true)
    (a19 : PySem.W.nsIn K mainGlobals "_law_joined" = some (some (.ref f19)))
    (l19 : K.lookup f19 = some ⟨oc19, od19, .func (PySem.W.fnOf "_law_joined" "_law_joined" (defArgs sJoined) (defBody sJoined) (defScope sJoined) .none kV19 dc19 pm19 an19 cd19 ct19), sl19⟩)
    (c19 : PySem.W.codeIn K cd19 "_law_joined" = true)
    (k19 : PySem.W.keepIn K (.ref f19) = true)
    (a20 : PySem.W.nsIn K mainGlobals "_law_hidden" = some (some (.ref f20)))
    (l20 : K.lookup f20 = some ⟨oc20, od20, .func (PySem.W.fnOf "_law_hidden" "_law_hidden" (defArgs sHidden) (defBody sHidden) (defScope sHidden) .none kV20 dc20 pm20 an20 cd20 ct20), sl20⟩)
    (c20 : PySem.W.codeIn K cd20 "_law_hidden" = true)
    (k20 : PySem.W.keepIn K (.ref f20) = true)
    (a21 : PySem.W.nsIn K mainGlobals "_law_fits" = some (some (.ref f21)))
    (l21 : K.lookup f21 = some ⟨oc21, od21, .func (PySem.W.fnOf "_law_fits" "_law_fits" (defArgs sFits) (defBody sFits) (defScope sFits) .none kV21 dc21 pm21 an21 cd21 ct21), sl21⟩)
    (c21 : PySem.W.codeIn K cd21 "_law_fits" = true)
    (k21 : PySem.W.keepIn K (.ref f21) = true)
    (a22 : PySem.W.nsIn K mainGlobals "law" = some (some (.ref f22)))
    (l22 : K.lookup f22 = some ⟨oc22, od22, .func (PySem.W.fnOf "law" "law" (defArgs sLaw) (defBody sLaw) (defScope sLaw) .none kV22 dc22 pm22 an22 cd22 ct22), sl22⟩)
    (c22 : PySem.W.codeIn K cd22 "law" = true)
    (k22 : PySem.W.keepIn K (.ref f22) = true)
    (a23 : PySem.W.findIn K (.ref C) "__init__" = some (some (.ref f23)))
    (i23 : PySem.W.isFn K (.ref f23) = true)
    (j23 : PySem.W.fnIn K f23 = true)
    (l23 : K.lookup f23 = some ⟨oc23, od23, .func (PySem.W.fnOf "__init__" "Calendar.__init__" (defArgs sInit) (defBody sInit) (defScope sInit) .none kV23 dc23 pm23 an23 cd23 ct23), sl23⟩)
    (c23 : PySem.W.codeIn K cd23 "Calendar.__init__" = true)
    (k23 : PySem.W.keepIn K (.ref f23) = true)
    (a24 : PySem.W.findIn K (.ref C) "week" = some (some (.ref p24)))
    (g24 : PySem.W.specialIn K (.ref p24) "__get__" = some (some (.builtin "property.__get__")))
    (t24 : PySem.W.takesIn K (.ref p24) = some true)
    (r24 : PySem.W.recIn K p24 "property" = some (.ref f24 :: rs24))
    (l24 : K.lookup f24 = some ⟨oc24, od24, .func (PySem.W.fnOf "week" "Calendar.week" (defArgs sWeek) (defBody sWeek) (defScope sWeek) .none kV24 dc24 pm24 an24 cd24 ct24), sl24⟩)
    (c24 : PySem.W.codeIn K cd24 "Calendar.week" = true)
    (k24 : PySem.W.keepIn K (.ref f24) = true)
    (a25 : PySem.W.findIn K (.ref C) "speeds" = some (some (.ref p25)))
    (g25 : PySem.W.specialIn K (.ref p25) "__get__" = some (some (.builtin "property.__get__")))
    (t25 : PySem.W.takesIn K (.ref p25) = some true)
    (r25 : PySem.W.recIn K p25 "property" = some (.ref f25 :: rs25))
    (l25 : K.lookup f25 = some ⟨oc25, od25, .func (PySem.W.fnOf "speeds" "Calendar.speeds" (defArgs sSpeeds) (defBody sSpeeds) (defScope sSpeeds) .none kV25 dc25 pm25 an25 cd25 ct25), sl25⟩)
    (c25 : PySem.W.codeIn K cd25 "Calendar.speeds" = true)
    (k25 : PySem.W.keepIn K (.ref f25) = true)
    (a26 : PySem.W.findIn K (.ref C) "changes" = some (some (.ref p26)))
    (g26 : PySem.W.specialIn K (.ref p26) "__get__" = some (some (.builtin "property.__get__")))
    (t26 : PySem.W.takesIn K (.ref p26) = some true)
    (r26 : PySem.W.recIn K p26 "property" = some (.ref f26 :: rs26))
    (l26 : K.lookup f26 = some ⟨oc26, od26, .func (PySem.W.fnOf "changes" "Calendar.changes" (defArgs sChanges) (defBody sChanges) (defScope sChanges) .none kV26 dc26 pm26 an26 cd26 ct26), sl26⟩)
    (c26 : PySem.W.codeIn K cd26 "Calendar.changes" = true)
    (k26 : PySem.W.keepIn K (.ref f26) = true)
    (a27 : PySem.W.findIn K (.ref C) "__getitem__" = some (some (.ref f27)))
    (i27 : PySem.W.isFn K (.ref f27) = true)
    (j27 : PySem.W.fnIn K f27 = true)
    (l27 : K.lookup f27 = some ⟨oc27, od27, .func (PySem.W.fnOf "__getitem__" "Calendar.__getitem__" (defArgs sGet) (defBody sGet) (defScope sGet) .none kV27 dc27 pm27 an27 cd27 ct27), sl27⟩)
    (c27 : PySem.W.codeIn K cd27 "Calendar.__getitem__" = true)
    (k27 : PySem.W.keepIn K (.ref f27) = true)
    (a28 : PySem.W.findIn K (.ref C) "__or__" = some (some (.ref f28)))
    (i28 : PySem.W.isFn K (.ref f28) = true)
    (j28 : PySem.W.fnIn K f28 = true)
    (l28 : K.lookup f28 = some ⟨oc28, od28, .func (PySem.W.fnOf "__or__" "Calendar.__or__" (defArgs sOr) (defBody sOr) (defScope sOr) .none kV28 dc28 pm28 an28 cd28 ct28), sl28⟩)
    (c28 : PySem.W.codeIn K cd28 "Calendar.__or__" = true)
    (k28 : PySem.W.keepIn K (.ref f28) = true)
    (a29 : PySem.W.findIn K (.ref C) "__and__" = some (some (.ref f29)))
    (i29 : PySem.W.isFn K (.ref f29) = true)
    (j29 : PySem.W.fnIn K f29 = true)
    (l29 : K.lookup f29 = some ⟨oc29, od29, .func (PySem.W.fnOf "__and__" "Calendar.__and__" (defArgs sAnd) (defBody sAnd) (defScope sAnd) .none kV29 dc29 pm29 an29 cd29 ct29), sl29⟩)
    (c29 : PySem.W.codeIn K cd29 "Calendar.__and__" = true)
    (k29 : PySem.W.keepIn K (.ref f29) = true)
    (z_int : PySem.W.nsIn K mainGlobals "int" = some none)
    (z_len : PySem.W.nsIn K mainGlobals "len" = some none)
    (z_abs : PySem.W.nsIn K mainGlobals "abs" = some none)
    (z_max : PySem.W.nsIn K mainGlobals "max" = some none)
    (z_min : PySem.W.nsIn K mainGlobals "min" = some none)
    (z_range : PySem.W.nsIn K mainGlobals "range" = some none)
    (z_repr : PySem.W.nsIn K mainGlobals "repr" = some none)
    (z_list : PySem.W.nsIn K mainGlobals "list" = some none)
    (z_enumerate : PySem.W.nsIn K mainGlobals "enumerate" = some none)
    (z_sum : PySem.W.nsIn K mainGlobals "sum" = some none)
    (z_divmod : PySem.W.nsIn K mainGlobals "divmod" = some none)
    (z_sorted : PySem.W.nsIn K mainGlobals "sorted" = some none)
    (z_zip : PySem.W.nsIn K mainGlobals "zip" = some none)
    (z_set : PySem.W.nsIn K mainGlobals "set" = some none)
    (z_isinstance : PySem.W.nsIn K mainGlobals "isinstance" = some none)
    (z_bool : PySem.W.nsIn K mainGlobals "bool" = some none)
    (q_GREATEST_WEEK : PySem.W.nsIn K mainGlobals "GREATEST_WEEK" = some (some (.int 12 t_GREATEST_WEEK)))
    (q_GREATEST_SPEED : PySem.W.nsIn K mainGlobals "GREATEST_SPEED" = some (some (.int 3 t_GREATEST_SPEED)))
    (pgC : PySem.W.plainGet K C Str.empty = true)
    (hdC : PySem.W.hasDictIn K C = true)
    (poC : PySem.W.plainOver K C = true)
    (mkC : PySem.W.makesIn K C = true)
    (kcC : PySem.W.keepIn K (.ref C) = true)
    (saC : PySem.W.findIn K (.ref C) "__setattr__" = some (some (.builtin "object.__setattr__")))
    (nC_speeds : PySem.W.findIn K (.ref C) "_speeds" = some none)
    (nC_changes : PySem.W.findIn K (.ref C) "_changes" = some none)
    (sfC : PySem.W.selfFirst K C = true) :
    ∃ fd : FuncData, (∀ (s : Shared) (v : Value), BindsTo s fd ⟨[v], []⟩ [("script", v)]) ∧ ∀ base : Heap, K.In base → base.Ns mainGlobals mg → FnG l.prog w K mg base 11 fa fd ["script"] (spLaw K) := by
  have e := hfa.symm.trans (PySem.W.mg_of X G a22)
  cases e
  have F_sChkWeek := fun_mk (st := sChkWeek) l0 c0 k0
  have b_sChkWeek := F_sChkWeek.binds (ps := ["number"]) fun _ _ _ _ _ _ us hl => match us, hl with | [_], _ => rfl
  have m_sChkWeek := PySem.W.mg_of X G a0
  have k_sChkWeek := k0
  have F_sWeeks := fun_mk (st := sWeeks) l1 c1 k1
  have b_sWeeks := F_sWeeks.binds (ps := ["one", "other"]) fun _ _ _ _ _ _ us hl => match us, hl with | [_, _], _ => rfl
  have m_sWeeks := PySem.W.mg_of X G a1
  have k_sWeeks := k1
  have F_sBehind := fun_mk (st := sBehind) l2 c2 k2
  have b_sBehind := F_sBehind.binds (ps := ["changes", "index"]) fun _ _ _ _ _ _ us hl => match us, hl with | [_, _], _ => rfl
  have m_sBehind := PySem.W.mg_of X G a2
  have k_sBehind := k2
  have F_sChanged := fun_mk (st := sChanged) l3 c3 k3
  have m_sChanged := PySem.W.mg_of X G a3
  have k_sChanged := k3
  have F_sNearness := fun_mk (st := sNearness) l4 c4 k4
  have b_sNearness := F_sNearness.binds (ps := ["moment"]) fun _ _ _ _ _ _ us hl => match us, hl with | [_], _ => rfl
  have m_sNearness := PySem.W.mg_of X G a4
  have k_sNearness := k4
  have F_sNearest := fun_mk (st := sNearest) l5 c5 k5
  have b_sNearest := F_sNearest.binds (ps := ["moments"]) fun _ _ _ _ _ _ us hl => match us, hl with | [_], _ => rfl
  have m_sNearest := PySem.W.mg_of X G a5
  have k_sNearest := k5
  have F_sIsSpeed := fun_mk (st := sIsSpeed) l6 c6 k6
  have b_sIsSpeed := F_sIsSpeed.binds (ps := ["number"]) fun _ _ _ _ _ _ us hl => match us, hl with | [_], _ => rfl
  have m_sIsSpeed := PySem.W.mg_of X G a6
  have k_sIsSpeed := k6
  have F_sChkSpeeds := fun_mk (st := sChkSpeeds) l7 c7 k7
  have b_sChkSpeeds := F_sChkSpeeds.binds (ps := ["speeds"]) fun _ _ _ _ _ _ us hl => match us, hl with | [_], _ => rfl
  have m_sChkSpeeds := PySem.W.mg_of X G a7
  have k_sChkSpeeds := k7
  have F_sChkChanges := fun_mk (st := sChkChanges) l8 c8 k8
  have b_sChkChanges := F_sChkChanges.binds (ps := ["changes"]) fun _ _ _ _ _ _ us hl => match us, hl with | [_], _ => rfl
  have m_sChkChanges := PySem.W.mg_of X G a8
  have k_sChkChanges := k8
  have F_sPairs := fun_mk (st := sPairs) l9 c9 k9
  have b_sPairs := F_sPairs.binds (ps := ["one", "other"]) fun _ _ _ _ _ _ us hl => match us, hl with | [_, _], _ => rfl
  have m_sPairs := PySem.W.mg_of X G a9
  have k_sPairs := k9
  have F_sUnlike := fun_mk (st := sUnlike) l10 c10 k10
  have b_sUnlike := F_sUnlike.binds (ps := ["calendar", "other"]) fun _ _ _ _ _ _ us hl => match us, hl with | [_, _], _ => rfl
  have m_sUnlike := PySem.W.mg_of X G a10
  have k_sUnlike := k10
  have F_sWell := fun_mk (st := sWell) l11 c11 k11
  have b_sWell := F_sWell.binds (ps := ["script", "place"]) fun _ _ _ _ _ _ us hl => match us, hl with | [_, _], _ => rfl
  have m_sWell := PySem.W.mg_of X G a11
  have k_sWell := k11
  have F_sTake := fun_mk (st := sTake) l12 c12 k12
  have b_sTake := F_sTake.binds (ps := ["well", "many"]) fun _ _ _ _ _ _ us hl => match us, hl with | [_, _], _ => rfl
  have m_sTake := PySem.W.mg_of X G a12
  have k_sTake := k12
  have F_sNumber := fun_mk (st := sNumber) l13 c13 k13
  have b_sNumber := F_sNumber.binds (ps := ["well"]) fun _ _ _ _ _ _ us hl => match us, hl with | [_], _ => rfl
  have m_sNumber := PySem.W.mg_of X G a13
  have k_sNumber := k13
  have F_sPaces := fun_mk (st := sPaces) l14 c14 k14
  have b_sPaces := F_sPaces.binds (ps := ["well", "size"]) fun _ _ _ _ _ _ us hl => match us, hl with | [_, _], _ => rfl
  have m_sPaces := PySem.W.mg_of X G a14
  have k_sPaces := k14
  have F_sMarks := fun_mk (st := sMarks) l15 c15 k15
  have b_sMarks := F_sMarks.binds (ps := ["well", "size", "cap"]) fun _ _ _ _ _ _ us hl => match us, hl with | [_, _, _], _ => rfl
  have m_sMarks := PySem.W.mg_of X G a15
  have k_sMarks := k15
  have F_sPace := fun_mk (st := sPace) l16 c16 k16
  have b_sPace := F_sPace.binds (ps := ["paces", "marks", "at"]) fun _ _ _ _ _ _ us hl => match us, hl with | [_, _, _], _ => rfl
  have m_sPace := PySem.W.mg_of X G a16
  have k_sPace := k16
  have F_sTwinL := fun_mk (st := sTwinL) l17 c17 k17
  have b_sTwinL := F_sTwinL.binds (ps := ["well", "paces", "marks"]) fun _ _ _ _ _ _ us hl => match us, hl with | [_, _, _], _ => rfl
  have m_sTwinL := PySem.W.mg_of X G a17
  have k_sTwinL := k17
  have F_sNearL := fun_mk (st := sNearL) l18 c18 k18
  have b_sNearL := F_sNearL.binds (ps := ["paces", "marks", "twins", "pairs", "wide"]) fun _ _ _ _ _ _ us hl => match us, hl with | [_, _, _, _, _], _ => rfl
  have m_sNearL := PySem.W.mg_of X G a18
  have k_sNearL := k18
  have F_sJoined := fun_mk (st := sJoined) l19 c19 k19
  have b_sJoined := F_sJoined.binds (ps := ["paces", "spots", "pace"]) fun _ _ _ _ _ _ us hl => match us, hl with | [_, _, _], _ => rfl
  have m_sJoined := PySem.W.mg_of X G a19
  have k_sJoined := k19
  have F_sHidden := fun_mk (st := sHidden) l20 c20 k20
  have b_sHidden := F_sHidden.binds (ps := ["well"]) fun _ _ _ _ _ _ us hl => match us, hl with | [_], _ => rfl
  have m_sHidden := PySem.W.mg_of X G a20
  have k_sHidden := k20
  have F_sFits := fun_mk (st := sFits) l21 c21 k21
  have b_sFits := F_sFits.binds (ps := ["well"]) fun _ _ _ _ _ _ us hl => match us, hl with | [_], _ => rfl
  have m_sFits := PySem.W.mg_of X G a21
  have k_sFits := k21
  have F_sLaw := fun_mk (st := sLaw) l22 c22 k22
  have b_sLaw := F_sLaw.binds (ps := ["script"]) fun _ _ _ _ _ _ us hl => match us, hl with | [_], _ => rfl
  have m_sLaw := PySem.W.mg_of X G a22
  have k_sLaw := k22
  have o_sInit : Own K C "__init__" f23 := ⟨a23, i23, j23⟩
  have F_sInit := fun_mk (st := sInit) l23 c23 k23
  have b_sInit := F_sInit.binds (ps := ["self", "speeds", "changes"]) fun _ _ _ _ _ _ us hl => match us, hl with | [_, _, _], _ => rfl
  have h_sInit : Meth K C "__init__" f23 := ⟨a23, i23, k23⟩
  have MKC : Mk K C f23 := ⟨mkC, a23, i23, kcC⟩
  have F_sWeek := fun_mk (st := sWeek) l24 c24 k24
  have b_sWeek := F_sWeek.binds (ps := ["self"]) fun _ _ _ _ _ _ us hl => match us, hl with | [_], _ => rfl
  have P_sWeek : PropOf K C "week" p24 f24 := ⟨a24, g24, t24, _, r24⟩
  have F_sSpeeds := fun_mk (st := sSpeeds) l25 c25 k25
  have b_sSpeeds := F_sSpeeds.binds (ps := ["self"]) fun _ _ _ _ _ _ us hl => match us, hl with | [_], _ => rfl
  have P_sSpeeds : PropOf K C "speeds" p25 f25 := ⟨a25, g25, t25, _, r25⟩
  have F_sChanges := fun_mk (st := sChanges) l26 c26 k26
  have b_sChanges := F_sChanges.binds (ps := ["self"]) fun _ _ _ _ _ _ us hl => match us, hl with | [_], _ => rfl
  have P_sChanges : PropOf K C "changes" p26 f26 := ⟨a26, g26, t26, _, r26⟩
  have o_sGet : Own K C "__getitem__" f27 := ⟨a27, i27, j27⟩
  have F_sGet := fun_mk (st := sGet) l27 c27 k27
  have b_sGet := F_sGet.binds (ps := ["self", "at"]) fun _ _ _ _ _ _ us hl => match us, hl with | [_, _], _ => rfl
  have h_sGet : Meth K C "__getitem__" f27 := ⟨a27, i27, k27⟩
  have o_sOr : Own K C "__or__" f28 := ⟨a28, i28, j28⟩
  have F_sOr := fun_mk (st := sOr) l28 c28 k28
  have b_sOr := F_sOr.binds (ps := ["self", "other"]) fun _ _ _ _ _ _ us hl => match us, hl with | [_, _], _ => rfl
  have h_sOr : Meth K C "__or__" f28 := ⟨a28, i28, k28⟩
  have o_sAnd : Own K C "__and__" f29 := ⟨a29, i29, j29⟩
  have F_sAnd := fun_mk (st := sAnd) l29 c29 k29
  have b_sAnd := F_sAnd.binds (ps := ["self", "other"]) fun _ _ _ _ _ _ us hl => match us, hl with | [_, _], _ => rfl
  have h_sAnd : Meth K C "__and__" f29 := ⟨a29, i29, k29⟩
  have clC : Cls K C := ⟨pgC, hdC, poC, saC⟩
  have mgC := PySem.W.mg_of X G aC
  have n_int : mg "int" = none := PySem.W.mg_none_of X G z_int
  have n_len : mg "len" = none := PySem.W.mg_none_of X G z_len
  have n_abs : mg "abs" = none := PySem.W.mg_none_of X G z_abs
  have n_max : mg "max" = none := PySem.W.mg_none_of X G z_max
  have n_min : mg "min" = none := PySem.W.mg_none_of X G z_min
  have n_range : mg "range" = none := PySem.W.mg_none_of X G z_range
  have n_repr : mg "repr" = none := PySem.W.mg_none_of X G z_repr
  have n_list : mg "list" = none := PySem.W.mg_none_of X G z_list
  have n_enumerate : mg "enumerate" = none := PySem.W.mg_none_of X G z_enumerate
  have n_sum : mg "sum" = none := PySem.W.mg_none_of X G z_sum
  have n_divmod : mg "divmod" = none := PySem.W.mg_none_of X G z_divmod
  have n_sorted : mg "sorted" = none := PySem.W.mg_none_of X G z_sorted
  have n_zip : mg "zip" = none := PySem.W.mg_none_of X G z_zip
  have n_set : mg "set" = none := PySem.W.mg_none_of X G z_set
  have n_isinstance : mg "isinstance" = none := PySem.W.mg_none_of X G z_isinstance
  have n_bool : mg "bool" = none := PySem.W.mg_none_of X G z_bool
  have v_GREATEST_WEEK := PySem.W.mg_of X G q_GREATEST_WEEK
  have v_GREATEST_SPEED := PySem.W.mg_of X G q_GREATEST_SPEED
  refine ⟨PySem.W.fnOf "law" "law" (defArgs sLaw) (defBody sLaw) (defScope sLaw) .none kV22 dc22 pm22 an22 cd22 ct22, fun s v => .of_eq rfl, fun base _ _ => ?_⟩
  have T : Blt mg := ⟨n_int, n_len, n_abs, n_max, n_min, n_range, n_repr, n_list⟩
  have Q : Con mg := ⟨⟨_, v_GREATEST_WEEK⟩, ⟨_, v_GREATEST_SPEED⟩, n_enumerate⟩
  have Z : Cal K mg C := ⟨clC, nC_speeds, nC_changes, mgC⟩
  have CWk : At l.prog w K mg base 1 "check_week" ["number"] spChkW _ _ := ⟨ok_chkW F_sChkWeek Q, m_sChkWeek, k_sChkWeek, b_sChkWeek⟩
  have IBh : At l.prog w K mg base 1 "is_behind" ["changes", "index"] (spBehind K) _ _ := ⟨ok_behind F_sBehind, m_sBehind, k_sBehind, b_sBehind⟩
  have IS : At l.prog w K mg base 1 "is_speed" ["number"] spIsSpeed _ _ := ⟨ok_isSpeed F_sIsSpeed Q, m_sIsSpeed, k_sIsSpeed, b_sIsSpeed⟩
  have S1 : At l.prog w K mg base 2 "check_speeds" ["speeds"] (spChkS K) _ _ := ⟨ok_chkS F_sChkSpeeds Q T IS CWk, m_sChkSpeeds, k_sChkSpeeds, b_sChkSpeeds⟩
  have S2 : At l.prog w K mg base 2 "check_changes" ["changes"] (spChkC K) _ _ := ⟨ok_chkC F_sChkChanges Q T IS IBh, m_sChkChanges, k_sChkChanges, b_sChkChanges⟩
  have GI : FnOk l.prog w K mg base CX0 3 _ _ ["self", "speeds", "changes"] (spInit C K) := ok_init F_sInit Z T S1 S2
  have L : Tk l.prog w K mg base _ _ := ⟨ok_take F_sTake T, m_sTake, k_sTake, b_sTake⟩
  have B : Nb l.prog w K mg base _ _ := ⟨ok_number F_sNumber T L, m_sNumber, k_sNumber, b_sNumber⟩
  have W : At l.prog w K mg base 1 "_law_well" ["script", "place"] (spWell K) _ _ := ⟨ok_well F_sWell T, m_sWell, k_sWell, b_sWell⟩
  have Pa : At l.prog w K mg base 2 "_law_paces" ["well", "size"] spPaces _ _ := ⟨ok_paces F_sPaces T L, m_sPaces, k_sPaces, b_sPaces⟩
  have Ma : At l.prog w K mg base 3 "_law_marks" ["well", "size", "cap"] spMarks _ _ := ⟨ok_marks F_sMarks T L B, m_sMarks, k_sMarks, b_sMarks⟩
  have W1 : Pp l.prog w K mg base C "week" (spWeek C) _ _ _ := ⟨P_sWeek, ok_week F_sWeek Z T, b_sWeek⟩
  have W2 : Pp l.prog w K mg base C "speeds" (spSpeeds C) _ _ _ := ⟨P_sSpeeds, ok_speeds F_sSpeeds Z T, b_sSpeeds⟩
  have W3 : Pp l.prog w K mg base C "changes" (spChanges C) _ _ _ := ⟨P_sChanges, ok_changes F_sChanges Z T, b_sChanges⟩
  have Gg : FnOk l.prog w K mg base CX0 1 _ _ ["self", "at"] (spGet C) := ok_get F_sGet Z T
  have Pc : At l.prog w K mg base 1 "_law_pace" ["paces", "marks", "at"] spPace _ _ := ⟨ok_pace F_sPace T, m_sPace, k_sPace, b_sPace⟩
  have Cw : At l.prog w K mg base 3 "check_weeks" ["one", "other"] (spWeeks C) _ _ := ⟨ok_weeks F_sWeeks Z W1, m_sWeeks, k_sWeeks, b_sWeeks⟩
  have T5 : Blt5 mg := ⟨n_sorted⟩
  have Ch : AtR l.prog w K mg base 3 "changed_moments" (spChanged C) _ := ⟨ok_changed F_sChanged Z T5 W3, m_sChanged, k_sChanged⟩
  have Cw0 : At l.prog w K mg base 3 "check_weeks" ["one", "other"] (spWeeks0 C) _ _ := ⟨Cw.ok, Cw.at_, Cw.kp, Cw.bi⟩
  have Pr : At l.prog w K mg base 4 "speed_pairs" ["one", "other"] (spPairs C) _ _ := ⟨ok_pairs F_sPairs T ⟨n_zip⟩ Z Cw Ch o_sGet Gg b_sGet W2, m_sPairs, k_sPairs, b_sPairs⟩
  have GR : FnOk l.prog w K mg base CX0 5 _ _ ["self", "other"] (spJoin mxI C) := ok_or F_sOr T Z MKC GI b_sInit Pr
  have GN : FnOk l.prog w K mg base CX0 5 _ _ ["self", "other"] (spJoin mnI C) := ok_and F_sAnd T Z MKC GI b_sInit Pr
  have Ns : At l.prog w K mg base 1 "nearness" ["moment"] (spKey nr) _ _ := ⟨ok_nearnessV F_sNearness T, m_sNearness, k_sNearness, b_sNearness⟩
  have Nr : At l.prog w K mg base 3 "nearest" ["moments"] spNearV _ _ := ⟨ok_nearestV F_sNearest T Ns, m_sNearest, k_sNearest, b_sNearest⟩
  have Un : At l.prog w K mg base 4 "first_unlike" ["calendar", "other"] (spUnl C) _ _ := ⟨ok_unl F_sUnlike T Z W1 Cw0 Ch Nr o_sGet Gg b_sGet, m_sUnlike, k_sUnlike, b_sUnlike⟩
  have Tw : At l.prog w K mg base 4 "_law_twin" ["well", "paces", "marks"] (spD (Wc C) fTwin) _ _ := ⟨ok_twin16 F_sTwinL T L Pa Ma, m_sTwinL, k_sTwinL, b_sTwinL⟩
  have Nl : At l.prog w K mg base 2 "_law_nearest" ["paces", "marks", "twins", "pairs", "wide"] (spD (Wc C) fNear16) _ _ := ⟨ok_near16 F_sNearL T Pc, m_sNearL, k_sNearL, b_sNearL⟩
  have Jo : At l.prog w K mg base 8 "_law_joined" ["paces", "spots", "pace"] (spD (Wc C) fJoin16) _ _ := ⟨ok_joined16 F_sJoined T Z MKC GI b_sInit sfC o_sOr GR b_sOr o_sAnd GN b_sAnd, m_sJoined, k_sJoined, b_sJoined⟩
  have Hi : AtG l.prog w K mg base 9 "_law_hidden" ["well"] (spD (Wc C) fHid16) _ _ := ⟨ok_hidden16 F_sHidden T L Pa Jo Nl Un, m_sHidden, k_sHidden, b_sHidden⟩
  have GF : FnG l.prog w K mg base 10 _ _ ["well"] spFits := fits_ofC (ok_fits16 F_sFits T Z L Pa Ma MKC GI b_sInit Tw Nl Un (kb_unl F_sUnlike) Hi)
  exact ok_law (by decide) F_sLaw T W GF m_sFits k_sFits b_sFits
end
end DK
open PySem PySem.W PyProof.Rows
set_option maxRecDepth 100000 in
set_option maxHeartbeats 0 in
theorem PySem.Challenge.cw_dueclocks_k16_first_unlike_speeds_holds : PySem.Challenge.rw_dueclocks_k16_first_unlike_speeds.Holds := by
  w_on; o_law; k_head; (case hw => w_witness2)
  k_fill
  refine DK.walkG (l := PySem.Challenge.rw_dueclocks_k16_first_unlike_speeds) (n := 63) (k := 11) (x := "script") (sp := DK.spLaw) rfl (by decide) rfl ⟨rfl, by decide, by decide⟩ (fun w h Y => PySem.W.kIn_of Y) ?F (fun J H a ns hl hO hS => ⟨a, ns, rfl, DK.Scr.of hO hS, hl, fun _ => rfl⟩)
  case F =>
    intro w mg fa h KX G hmg
    refine' DK.all_mk KX G hmg ?aC ?a0 ?l0 ?c0 ?k0 ?a1 ?l1 ?c1 ?k1 ?a2 ?l2 ?c2 ?k2 ?a3 ?l3 ?c3 ?k3 ?a4 ?l4 ?c4 ?k4 ?a5 ?l5 ?c5 ?k5 ?a6 ?l6 ?c6 ?k6 ?a7 ?l7 ?c7 ?k7 ?a8 ?l8 ?c8 ?k8 ?a9 ?l9 ?c9 ?k9 ?a10 ?l10 ?c10 ?k10 ?a11 ?l11 ?c11 ?k11 ?a12 ?l12 ?c12 ?k12 ?a13 ?l13 ?c13 ?k13 ?a14 ?l14 ?c14 ?k14 ?a15 ?l15 ?c15 ?k15 ?a16 ?l16 ?c16 ?k16 ?a17 ?l17 ?c17 ?k17 ?a18 ?l18 ?c18 ?k18 ?a19 ?l19 ?c19 ?k19 ?a20 ?l20 ?c20 ?k20 ?a21 ?l21 ?c21 ?k21 ?a22 ?l22 ?c22 ?k22 ?a23 ?i23 ?j23 ?l23 ?c23 ?k23 ?a24 ?g24 ?t24 ?r24 ?l24 ?c24 ?k24 ?a25 ?g25 ?t25 ?r25 ?l25 ?c25 ?k25 ?a26 ?g26 ?t26 ?r26 ?l26 ?c26 ?k26 ?a27 ?i27 ?j27 ?l27 ?c27 ?k27 ?a28 ?i28 ?j28 ?l28 ?c28 ?k28 ?a29 ?i29 ?j29 ?l29 ?c29 ?k29 ?z_int ?z_len ?z_abs ?z_max ?z_min ?z_range ?z_repr ?z_list ?z_enumerate ?z_sum ?z_divmod ?z_sorted ?z_zip ?z_set ?z_isinstance ?z_bool ?q_GREATEST_WEEK ?q_GREATEST_SPEED ?pgC ?hdC ?poC ?mkC ?kcC ?saC ?nC_speeds ?nC_changes ?sfC
    (case aC => k_is)
    (case a0 => k_is)
    (case l0 => k_is)
    (case c0 => k_is)
    (case k0 => k_is)
    (case a1 => k_is)
    (case l1 => k_is)
    (case c1 => k_is)
    (case k1 => k_is)
    (case a2 => k_is)
    (case l2 => k_is)
    (case c2 => k_is)
    (case k2 => k_is)
    (case a3 => k_is)
    (case l3 => k_is)
    (case c3 => k_is)
    (case k3 => k_is)
    (case a4 => k_is)
    (case l4 => k_is)
    (case c4 => k_is)
    (case k4 => k_is)
    (case a5 => k_is)
    (case l5 => k_is)
    (case c5 => k_is)
    (case k5 => k_is)
    (case a6 => k_is)
    (case l6 => k_is)
    (case c6 => k_is)
    (case k6 => k_is)
    (case a7 => k_is)
    (case l7 => k_is)
    (case c7 => k_is)
    (case k7 => k_is)
    (case a8 => k_is)
    (case l8 => k_is)
    (case c8 => k_is)
    (case k8 => k_is)
    (case a9 => k_is)
    (case l9 => k_is)
    (case c9 => k_is)
    (case k9 => k_is)
    (case a10 => k_is)
    (case l10 => k_is)
    (case c10 => k_is)
    (case k10 => k_is)
    (case a11 => k_is)
    (case l11 => k_is)
    (case c11 => k_is)
    (case k11 => k_is)
    (case a12 => k_is)
    (case l12 => k_is)
    (case c12 => k_is)
    (case k12 => k_is)
    (case a13 => k_is)
    (case l13 => k_is)
    (case c13 => k_is)
    (case k13 => k_is)
    (case a14 => k_is)
    (case l14 => k_is)
    (case c14 => k_is)
    (case k14 => k_is)
    (case a15 => k_is)
    (case l15 => k_is)
    (case c15 => k_is)
    (case k15 => k_is)
    (case a16 => k_is)
    (case l16 => k_is)
    (case c16 => k_is)
    (case k16 => k_is)
    (case a17 => k_is)
    (case l17 => k_is)
    (case c17 => k_is)
    (case k17 => k_is)
    (case a18 => k_is)
    (case l18 => k_is)
    (case c18 => k_is)
    (case k18 => k_is)
    (case a19 => k_is)
    (case l19 => k_is)
    (case c19 => k_is)
    (case k19 => k_is)
    (case a20 => k_is)
    (case l20 => k_is)
    (case c20 => k_is)
    (case k20 => k_is)
    (case a21 => k_is)
    (case l21 => k_is)
    (case c21 => k_is)
    (case k21 => k_is)
    (case a22 => k_is)
    (case l22 => k_is)
    (case c22 => k_is)
    (case k22 => k_is)
    (case a23 => k_is)
    (case i23 => k_is)
    (case j23 => k_is)
    (case l23 => k_is)
    (case c23 => k_is)
    (case k23 => k_is)
    (case a24 => k_is)
    (case g24 => k_is)
    (case t24 => k_is)
    (case r24 => k_is)
    (case l24 => k_is)
    (case c24 => k_is)
    (case k24 => k_is)
    (case a25 => k_is)
    (case g25 => k_is)
    (case t25 => k_is)
    (case r25 => k_is)
    (case l25 => k_is)
    (case c25 => k_is)
    (case k25 => k_is)
    (case a26 => k_is)
    (case g26 => k_is)
    (case t26 => k_is)
    (case r26 => k_is)
    (case l26 => k_is)
    (case c26 => k_is)
    (case k26 => k_is)
    (case a27 => k_is)
    (case i27 => k_is)
    (case j27 => k_is)
    (case l27 => k_is)
    (case c27 => k_is)
    (case k27 => k_is)
    (case a28 => k_is)
    (case i28 => k_is)
    (case j28 => k_is)
    (case l28 => k_is)
    (case c28 => k_is)
    (case k28 => k_is)
    (case a29 => k_is)
    (case i29 => k_is)
    (case j29 => k_is)
    (case l29 => k_is)
    (case c29 => k_is)
    (case k29 => k_is)
    (case z_int => k_is)
    (case z_len => k_is)
    (case z_abs => k_is)
    (case z_max => k_is)
    (case z_min => k_is)
    (case z_range => k_is)
    (case z_repr => k_is)
    (case z_list => k_is)
    (case z_enumerate => k_is)
    (case z_sum => k_is)
    (case z_divmod => k_is)
    (case z_sorted => k_is)
    (case z_zip => k_is)
    (case z_set => k_is)
    (case z_isinstance => k_is)
    (case z_bool => k_is)
    (case q_GREATEST_WEEK => k_is)
    (case q_GREATEST_SPEED => k_is)
    (case pgC => k_is)
    (case hdC => k_is)
    (case poC => k_is)
    (case mkC => k_is)
    (case kcC => k_is)
    (case saC => k_is)
    (case nC_speeds => k_is)
    (case nC_changes => k_is)
    (case sfC => k_is)

