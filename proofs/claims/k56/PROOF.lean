import PyProof.Rows.All
import Wide.All
import OpenK.AllK
import Wide.FinOn
import Lean
import PySem.Challenge.RW_graphpack_k56_whole_makes_through_packs
set_option maxHeartbeats 0
set_option compiler.extract_closed false
theorem cQ{P:Prop}(h:∀G:Prop,(P->G)->G):P:=h P id
theorem Jp0(h:True:=by rfl):True:=h
def Aa:=Jp0._auto_1
theorem Jp1(h:True:=by decide):True:=h
def Ab:=Jp1._auto_1
theorem Jp2(h:True:=by first|exact .inl rfl|exact .inr rfl|assumption):True:=h
def Ac:=Jp2._auto_1
theorem Jp3(h:True:=by intro _;rfl):True:=h
def Ad:=Jp3._auto_1
theorem Jp4(h:True:=by first|exact Or.inl rfl|exact Or.inr (Or.inl rfl)|exact Or.inr (Or.inr rfl)):True:=h
def Ae:=Jp4._auto_1
theorem Jp5(h:True:=by first|exact Or.inl rfl|exact Or.inr rfl):True:=h
def Af:=Jp5._auto_1
theorem Jp6(h:True:=by exact λ_ _=>rfl):True:=h
def Ag:=Jp6._auto_1
theorem Jp7(h:True:=by first|exact Sr0 _|with_unfolding_all rfl):True:=h
def Ah:=Jp7._auto_1
theorem Jp8(h:True:=by first|rfl|with_unfolding_all rfl):True:=h
def Ai:=Jp8._auto_1
theorem Jp9(h:True:=by first|exact nobehind _ (by decide) (by decide)|rfl):True:=h
def Aj:=Jp9._auto_1
theorem Jp10(h:True:=by with_unfolding_all rfl):True:=h
def Ak:=Jp10._auto_1
theorem Jp11(h:True:=by intros;with_unfolding_all rfl):True:=h
def Al:=Jp11._auto_1
theorem Jp12(h:True:=by first|rfl|(subst_vars;rfl)):True:=h
def Am:=Jp12._auto_1
set_option bootstrap.genMatcherCode false
set_option genSizeOf false
set_option compiler.postponeCompile true
set_option compiler.extract_closed false
set_option linter.all false
set_option tactic.hygienic false
set_option genInjectivity false
set_option linter.all false
def xa:="abcdefghijklmnopqrstuvwxyzABCDEFGHIJKLMNOPQRSTUVWXYZ_0123456789'!?".toList
open Lean Parser in
def xi(s:List Char):Nat:=match s.map λc=>xa.idxOf c with
|[a]=>a
|[a,b]=>53+a*66+b
|[a,b,c]=>3551+(a*66+b)*66+c
|_=>0
open Lean Parser in
def xr:Nat→Syntax→Syntax
|0,s=>s
|n+1,s=>if s.getKind==``Term.anonymousCtor then .node .none ``Tactic.rcasesPat.tuple #[mkAtom "⟨",mkNullNode (s[1].getArgs.map λx=>if x.isAtom then x else .node .none ``Tactic.rcasesPatLo #[.node .none ``Tactic.rcasesPatMed #[mkNullNode #[xr n x]],mkNullNode]),mkAtom "⟩"] else
 if s.getKind==``Term.hole then .node .none ``Tactic.rcasesPat.ignore #[mkAtom "_"] else .node .none ``Tactic.rcasesPat.one #[s]
open Lean Parser in
def xq(t:Array Syntax)(o:List (Name×Syntax))(f:Syntax→Syntax)(s:Syntax):Syntax:=match s with
 |.node _ k a=>if k==``Command.open&&(o.lookup s[1][0][0].getId).isSome then (o.lookup s[1][0][0].getId).getD s else if k==``Tactic.skip then (f (t.getD 0 s))[1][1][0][0][0] else if k==``Tactic.done then (f (t.getD 1 s))[1][1][0][0][0] else
  if k==``Tactic.apply&&s[1].getKind==``Term.paren&&s[1][1].getKind==``Term.byTactic then s[1][1][1][0][0][0] else if k==``Term.quotedName then f (t.getD (xi s[0][0].getAtomVal.toList.tail) s) else
  if k==``Term.app&&s[0].getKind==``Term.fun&&(s[0][1][0][0].getId==`ζ||s[0][1][0][0].getId==`ϑ) then let b:=s[1].getArgs;let v:=s[0][1][0].getArgs.map Syntax.getId;s[0][1][3].rewriteBottomUp λx=>match v.idxOf? x.getId with|some i=>b.getD i x|none=>x else
  if k==``Tactic.delta then .node .none ``Tactic.unfold (a.setIfInBounds 0 (mkAtom "unfold")) else if k==``Tactic.Conv.delta then .node .none ``Tactic.Conv.unfold (a.setIfInBounds 0 (mkAtom "unfold")) else
  if k==`«term#[_,]» then .node .none ``Term.anonymousCtor (a.setIfInBounds 0 (mkAtom "⟨")|>.setIfInBounds 2 (mkAtom "⟩")) else
  if k==``Term.anonymousCtor then .node .none `«term#[_,]» (a.setIfInBounds 0 (mkAtom "#[")|>.setIfInBounds 2 (mkAtom "]")) else
  if k==``Tactic.tacticLet__ then let p:=s[2][0];if p[0].getKind==``Term.anonymousCtor then .node .none ``Tactic.obtain #[mkAtom "obtain",mkNullNode #[.node .none ``Tactic.rcasesPatMed #[mkNullNode #[xr 99 p[0]]]],mkNullNode,mkNullNode #[mkAtom ":=",mkNullNode #[p[4]]]] else .node .none k a else
  if k==``Command.declaration then let d:=s[1];.node .none k (if d.getKind==``Command.definition then if (d[3][1].getKind==``Term.byTactic||d[3][1].getKind==``Term.paren)&&s[0][4].getArgs.isEmpty then a.setIfInBounds 1 (.node .none ``Command.theorem #[mkAtom "theorem",d[1],.node .none ``Command.declSig #[d[2][0],d[2][1][0]],d[3]]) else a.modify 0 λm=>m.setArg 4 (mkNullNode #[.node .none ``Command.noncomputable #[mkAtom "noncomputable"]]) else a) else .node .none k a
 |.atom _ v=>.atom .none v
 |.ident _ r v p=>.ident .none r v p
 |s=>s
open Lean in
def xp(t:Array Syntax)(o:List (Name×Syntax)):Nat→Syntax→Syntax
|0,s=>s
|n+1,s=>s.rewriteBottomUp (xq t o (xp t o n))
def xw(s:List Char):Nat:=s.foldl (λn c=>n*66+xa.idxOf c) 0
set_option hygiene false
open Lean Parser in
local macro_rules
|`(command|mutual $cs* end)=>do
 let l:=(cs.getD 0 default).raw[1]
 if l[1][0].getId != `T then Macro.throwUnsupported
 let t:=l[3][1][1].getSepArgs
 let o←`(command|set_option tactic.hygienic true)
 let u1←`(command|open Spec PyProof.Rows L2)
 let v1←`(command|open Spec PyProof.Rows)
 let a1←`(command|set_option backward.match.sparseCases true)
 let b1←`(command|set_option backward.match.sparseCases false)
 let x1←`(command|namespace DL)
 let y1←`(command|namespace L2)
 let o:=[(`T,o.raw),(`U,u1.raw),(`V,v1.raw),(`A,a1.raw),(`B,b1.raw),(`X,mkNullNode #[x1.raw,u1.raw]),(`Y,mkNullNode #[y1.raw,v1.raw])]
 let z:=((cs.getD 1 default).raw[1][3][1].isStrLit?.getD "").toList
 let e←(List.range (z.length/11)).mapM λi=>`(command|noncomputable def $(mkIdent (.str `PySem.W.Fast s!"tw{xw ((z.drop (11*i)).take 11)}")):ident:=0)
 return mkNullNode (((cs.drop 2).map λc=>let c:=xp t o 99 c.raw
  if c.getKind==``Command.omit then .node .none ``Command.end #[mkAtom "end",if c[1][0].getId==`z then mkNullNode else mkNullNode #[c[1][0],mkNullNode]] else c)++(e.map (·.raw)).toArray)
mutual
def T:=[some,true]
def Z:="b1nP9RNzHlrgs1OMq9HTz0gMBt82bP!rngltOCAK_RqhbdI4HZEdxr9iRwrZ6bVw_Xa0QLiJGrPEWlRlsuWXT2fGaQYcx0uEG?3cfhXb9SNLM1hgpuARuH5YoiMugSHreBrljDpJOAwLIAxei6RsD?or5helq't5tF7sqk7?!x!v3!2jbvReT9zpP82iZVMrHu?F9'hSaWA7Zl!Mab4tExwpT_gbe8eYaO2'XwOgW_QBe9O!r!c'x'2Eq_z2hirUKK'Mwlq!ln7tTw0IVSpeHjYkDXx61CfmAltGiSEhFj0TI8nD8IG?hMM!sdE82gjfJhlzvTkdfpg0yUgbHx'63cmPPCX8zGZbf6Qrt7xbDp9esF3QaofGHThsOJ'VbOQiQlND5D2q?r7!fFNYSDOETNafS7Zka9igAIgzV5ZE6FcWNetjzaUmnkaPfwUV37GqgsWhQu40jj8z!4jMdohUVu3eJhH?2d2FQj4Ug0YW_SHeww2hDPYMs7B9iPe0O6lvREymskw2Pix_uDEHeydZgAs'T_!dM?LwPwQXf1gLedZBV!K0!ht'KmnVD6u8bUl2vcMVx53lcTZeYZVobpel4bAh_avAdk7Hk!biUL8ij4pYdT_1Vo6eg6BR'1SzNHlYgdH56D9Soi54Jm?90NO5aVIwP4KFTfshNcMaAKnMO1b'FLpJ4gCevgYhVUuJ_1y2lLg1kwxhDE5fA67!7YqCFfaTPycJo5qPJgOohwAmHOfScu!ATzq9p!okqIOlAI9qI5kHV0?oCOTpCjRsNuwdvlnqhhDtZ?6eBUWds7z0P?c'CPeD7rziRWeXnhyIWeHPafp5lDGSUaPWJ_PaceqL'WIS8XaO8AESdz9Dsh84b?CfSuo'k'fvBugQnunalQQ_w48zdAhdMdkaC6Sz1ec!LHIdtOD4gafSvViTRg!eM4jTD_Ifv2fR1YIKaPjXMi2AsmT?ql?Qlg3YoFP'gdKeOdOVOLlG1sd4FM?qh!r9Wi5JMssz0UmAlTvF5P7Cfzwh8UPmrU4bNPiWbBFfGtemsfs??2iWO60QftD2h8mO2?IbI8?Fwi?0CFkpEwRg4!'!MlLAoMK4F?aFjj5Y'5hPW?3idlYOgPEJq4h1EX75GVYsjf2XrYLz59eahrGPG!LsZPgfwUxHyOcFPxh9vUfQ'ui8ukm0q?CCKJscj3UtgECbe5Ta'p?FV!ZRBkgEXdVQ54N5Wc3OZC6gSlp0c1KQWQjrKw9klPh75kmDXZfGqei9sgtsPexUsULTAJZykyz2d!7wzbKdSm1t9rbS'WjY1DQl8vorre?m6xDTgOsShL?8dbCc0rggRnbWaaNJohcNe?b_WGvecczWd5h'?teei21zMQ!GMPvf7mhz8n!QFbkBv6I2yGeFdlpT4P'u'rBPlJXiVeI73JSgh8VQ'!YbMSk5w6t2hmi06j7Umt8r4QaBgln_q4fPkNjby4e1dQnjQ1gGIqGlJ2gPMc81f?tSjpiXilvJk1gv6UcdNtZeeUXZKzflb4W0zc_nYfpx2Z'cgX6QjH0G9y!winRfiunDx_Kl2Ob1'uwMel7x'bs_a8di?20JaYCF1_wPaVDcxTJ9RTHuwtlRYKfzE5EOcflABoP0iX1gclw41X49ecuglCtsxKRnMgjvmd'eShPdCk0r7YZ4TDDmjQgmz0'MTXjhBI38aRm5n?e8!pBZxi9Muhsg16MuuycXiuxo1l3Wy8DitWbXFL1LlEcsu68GQLWGmfsd8e?ooG8yj3RG?5rV5EEfu!?Jy?dFkLdHEhkZ3TCNPkFJLkFPJFnPd'9LMkRKNSpgmpuS0ggu'6ietr9CvwMhdekjLfG?bppLkqL0VODYPSmiG0qM_CafVpgAo6FrTOYEIbNMFXwBUptwlqvWGvvAHimh4tPU8p9uLbcx6TnKpWTdYet'?X7w33?VlQsWeCcrxR2fCgH!HqvAJDavgruARjFlHay9OKwRu6vIhyV4BFVtgEXaZhp4_rCyq8fMEHWPHTBIXgMjZTES4ttjicQWY4zmLU8ktRtLSCSDWZa2090uranX7asfBaGe0gx6knEKA9_F33jg7NEU'itYEPjKKNnrqlrWvjktiuf5U_c2kjPa'p5EMPYgioBg9TDKhCf4zFRnuG_r?eutcwW?varOaaC5HxTpUq5iGGtAZJrYr9fGMj1fnJuWjeQTNg6wbMjjfHeCLxXwIDkaIL7S7p0jcJewrJ3NSA1M1kY5GIHKMftFg4ki2JleLqofNBnT8loqVGhOLJYmT6iI7dn5k8oxhV_!dYuNT3gG?CliJHaQLoydjrlIZY_MhYyukc_82c8adTbccRME759wSZSbVhunAhfkbOiWp0I7QnyoxiHvsv'KCgkKbIL90BRljaajV3a'GwykG6dAFk2S9msIMlr_4aaIzbDKbA0ywIv!XUxjSPXUN1Gd_0iGuD88aKk9yeqtBRMX'CSWgQvBji72yFDjcl6IbiEpWlbo1ZQO2MyCtf'TZ0R'!ggBlT'598X4hMXi1bYgiky1HbbkCcfX4IgqHcAbVBOZs?BTaLMAo0YCzDXiiX2qD0GNKucURi4HR6KftdUTpDLslDxcdxm6dwuCnrFagIIBSRuzb0dAVH983h3ooaWUhBZJ0tibbqM0RoAm0Xqc1fIs6opmSQlJVOwPVlC9Gchg_mRakqTOdgA9?XNARVSkuAvQsYP_DpltTuEoh_4CYblTSjFW9G5befSSeY3dleGlHxNkXdt97UgrbBFiW?j?EfxsvQ4HBigUe2!AoxUgXX_eMlB1XyNtBTbyTgAZXXKAabnJwiVx!5KNlslxQuK95rrbgBB3rUVlUhkph7GH0'8zrj7yWKAp1X50a524saO3!Y6g'_2rJL3r5ocjSWSKLHIRhhECZ_yOmvAObRah9lqoU84kFg2bFcQGG!kacMykCPCL2lrAMquAF3pPc4MjNc4Lt5wcPPNx1OV_jRdhQy1k5Jg_JhM0'cygqvkslnGb!sKhvdvglO6'Vj2F_rggS'''SZBazdUa0d_tCU?YdvBFZw8VtpCbX0Z'fdWcrMlyZYNPuAnu_jizn4'7aTyoiXQzfxshErJg!TGN?LEdWSgHhpjidNHNQibvadE6g!4qeF0FER6xh5sllF7JP4E'0FhWz2t1hu_rUf'JwQiyeF9'f9u4aQLnGLffDslsNMENIRfpZCek'hmQffhhkHq'Jdzwffkrh1Kc0wbeWlWc1Wiyh0eMUEjJiJ'ASeKzqQX3K4jweKfyeIp6B4Xac2h9XEY03ueoThizU10_SaBNwo5P'zXTdTplgKLzXq1dMrMiSEsrr?dmdCMof0DrRdcUyW20jkH6c9968zZe7twc0Ul22sS0BOcX3BT4mA4STcTTthCwA?a6czLgHyeft!jcnMfGEC5bHVcayWk1halxnakJq_EDXLtSbLxsPFUsRw?buzkUgXt8tfbhp0'?y'4vhk!29e5kzAjjk89gZ_JXyXdkT7YCzbD28QbdPBeBQ1B59jW!opA1V7S3jT9EOSJfP'6jTziRiDl1XXjH5gqAqi8g2jCwby??V45mjtI0vI4AdBijn_vrtyDBcta7WjB3Vg0LHjda45Di0OdXjcuM1XiOMfdi2jROiL1GsRia'w?DqyM2nh8dQXDD'KIQhH73YLoUctShamFfB0QCdrg7Ey61kQgbwgSNgMR5Lj3agSF5r!PJA82h6iLcl3RjbOeQyrVwvyai!dbaaOxilTAGfqFr?AP3RXdfqrM7PnCTH?cw3RSPtumn2gcyddh7I8H4fb?jZV76pq7faf6QiHFRctaDOJ4_T9Ch?aAQj4pG3BhmlfpxhAZ'zixjRSleGtPmrkhE02Tkk2rargSLBO3GaK9KaQKY'eg0EEtaQn_otKwILUeqoX2aBjmF!iJrXCoakYhrdUUIhMsu6UBj2ZxDvzVZPOf?uJ_MGZgSTauZng5ksvWVbnEFiMmIJrhiS6Bv2BdJbegMSho2WJ?uZgxujgzoi_d7fPzgYWUwBfgfeff16HJQocefzudB8oN14d8G!UQNKavvdQ!3dcqd4WEdL1uQuGm!j2c8FFP_KbCigkD'SxK'U9IHkCT9O9hwlOwjSNjdFhZC8SiUuQuWoVObra3hQnMq3mxLae65IGj0NyOaUHlPvwL95TgGbsnHEyAnzbPA6V_I2NVJh1nhYAgUE1Jf1JFR!pZMN0eWzF4'egdk5eDHUQY'joPVayQy9'NDI7FbAE'6d2?vUsct2QIE1evH8cN_SnbR4LLccDNwOvBY8BsakRWSeMMJhWi5ly'!jAvMPdnhTlWkZ2Tpgso_S2JJ5fqi90lfJ4HJgfdfLk'9LNTYNf52B!3Xb6'naqdmKvggirfb?1BdwDEpGujjia2P3CrU7gcxyemskBkXf1Ul9RDMrV?foiYp3az?sIdekM_bU7OZCc43w58RnxTGbSIERzzzQavbs_icFzn9JEkYbCA2rMrg1kp68nKWh!YGg5cCk_Zlquug_N_NFwyFxGcWMlae?CFIacgChmG63U2AklK36ROkmWziM8Fjv1Ahb1iGHg3qIj6SvgxsDKou1AHvgwKTzaX6oMCgwI2Dvd6OE?gwh_t75LJirglryb1f6vt3giNHoQeoLz0ghJND9'RN2Wf?b!ek?jya9f!u04qS4'Jpf'YuKai1O!Qf7Y'yXK_qz4f6hDkwTqXFOaLLRY3g!2DcfTjPHdvynBZaLHdiFIaFLwaK?SPbYJ?UFfKU3?QnlixefKGK6P8R37wfHFcxNjMhCYfDvt5jrvRA1fChlgnPJ_OLaJYq2oLUzo1fv2E5D_zPp8fsZWxezVNUTfmXj'xfZCy'fkt2W9MENpdfi!AARM'IJRff8gHqOZpCpfdg7SNltTcLfb0w2UkhgLje?kTI2El8Epe!6qhVcqnHLaGPcTOK'SXPe6qZXES7YjdaFJ5F07u8JseZwfAKKpJISeXkPPSQlorqeQOKu9Z7y6PeNxDSgjyQ3OeL90H4GD8?beGOxF45fDTgeqM7jGLrYMEenvQ47KiLaOemyH?VSUuzIelQTyhR1w72eiwF46ci9GrefnhPCI43a?d?37wOVIntsd?IlyAmXyS'd'V'mumDYPXd5'O6'tz6f'azSOEHT!oXud2Mpm_n7QB!azqqy07c7ACd1gZbKUEIC9d0QGVMuPoXgd_XK'0uOwxpazahn0QoUC'dYvF'aq!Dp_dWuPXdtAWgKdVe!uUt5?dadU?t!IyeV3hdSOPFMnt!?BdSjrnvx4Gv3dP1yPaSgrktdKJo_ecZz'edAvinudLwoEdwRhc4de0C4do4r7k7UDsedopx85g72i5dmf27yatMJLau8Uu!anwugdk21LkK5NAXdhavutGgs_udfXYxqkGy_SdeAnyg3cBMdc'HYo3N_YMtc'jeQ2QY3kbc7e?rCZl_ijatbB8Cye1Juc0tG7XvClK3c_W1qf8XiKYcYflsmg'YsGcTsrUHyhW_KcQmCM_OzwHcabRF1wrj9RXcGIQZywIs38cGmznNQjUKacBMc0'9eB1_czeZeNO6VYvcsM?gPp'sPycrXZeRNhm7!cjM6rK4xtbDan'EQQeLLzAceLY_OzSTj?b!Y3!l49D8zb7gkALf6bvPame31OwReDNb1EU6V7tp3Eb04uuBt_7LzbZ4CBS81J!RbZIKQT52cdGbTKM9D8cvdRbSphVdYIKL2bKblW!gKJ1KbJJMEQ!?5__bA?jv8O28K'brCgSWEl96Lbof?3PNZBrCbmmMjn!vqSZlV!XoNpt_4XlOTKWXZbePebkM8NdC!CYZlJnukVDAQR7lE9ZRoxLTpplA9DsCYkg4alv30u32lVtUltUL?mua1IqlnHsxpnxbfnbh71hgh2LPAlb6hr8Xu3Jsk?P8dROg3hjk?ueRDX5II?k3eNu1n28F7k1OxyNVw1l!kTtdlgjHfWTkRV20UAeJqGkPfwJ?c36MvkMyT3JMUKtHkGuLlJ?KOYLkDgjUSzXe?CktVFF!yP4tekqV?EXqTAmzkqFi7BjRkRGkmrvIoDRVxZklFQ044PTl9kaW3IOZ1K3Lj?BL9IaZYdyj7L?RJmbFzWj0EAUOLluG5jT15Fo8w0SCjSb!YYJB_EHjQGnwgHqLptjNYUxsyIfwBjEni_!ThZi0jCLJtFx2thIjA!UNqY_F_7agltjTVx'DBjuCGbRgOj09jnQB2ku?WYFjk6Xil'JR8UjfOIj4DF5SwjcWEeU7J_IOi1syEj2TwTqi0m1NIn98t!iZ?DU6I4DT?iW2TNwDNwpIiTx0v3b9UhBiTwB_EGNYtCiR!akzfb1Z5iPfphsdlGCriOf?Hv2h5eeiGVa?6h??rrisrH22LiP7liqoxlDa!0BAik9'GRaubVvikWQqqq61eViiFu'ZZG'PgigsGLLt34JSicCiGUmNDZfa_LfZevfFlgh8tHKs_G?1Ih7crTYSxkSGa_dI8E5rDXBh4j4_YMCr8aaZHKvZ1GOythZM__7n!R_BhZlcnuAL9'DhT50Ca4!EIAhSGuxKMimffhOxL3t1bJb2aYgoYA8'ZVNaXKLUHzG4fihCBaOAwPoQchzNU?hx1gy9hw2hi_BDwDrhuQFOWfnTC8hk_W0HGNoMXaVrNgA2gQsphhDJSNOjZB0hcMnl_kQMZzhbOxj6iOiRRg?tvH!AHre9g?p4bD4Yk1Rg7hWwE2Pg9vg66Dpq4642Xg4GsIpl5zyKg1k0tJKIWitgYPmpU7AlMlgWH4OYDxgrIgWvT5l1_aJDaR'r3HnY6i2gNnRlY1TmxtgMkSxWJXCMsgLmiRVGkzttgKajMizcnEbgG08SkDqPFagBVyaUA4sgNgAj_WgeyrnSgzJZ!67WtOZ"
end
set_option maxRecDepth 100000 in
open_top opn for PySem.Challenge.rw_graphpack_k56_whole_makes_through_packs
mutual
def T:=[(by refine cQ λGQ kQ=>?_),(by refine kQ ?_),some,true,`ao Str,Addr,none,.int,`ao D,`ao Nat,λζ ξ=>by rw[ζ];exact ξ,(`U),.lst,.inl,λζ=>(ζ).length,.str,false,`i->`eC,Option.bind_some,.tup,.inr,Shared,this,List.length_map,.non,pins,Value,`aW H s,W.Frag,λζ ξ χ=>if ζ then ξ else χ,(`a5),λζ=>(by with_reducible exact ζ),Expr,autoParam,if_pos,List.map_cons,absurd,s.heap.objs.size,List.map_map,X.env,cons_of,`ao V,(gv 0),sizeLine,List.length_append,World,by lia,ps.length,Txt mg,λζ ξ χ=>j4 (x:=ζ) (y:=ξ) χ rfl,fsc rfl rfl rfl rfl `bf,(gv 1),`ao (`gh),Heap,λζ ξ χ=>Fun K ζ ξ χ fa fd,λζ=>`c (.nx ζ),nilB,List.length_cons,λζ=>λcdv A outer s H E hr=>have S:=ζ;by apply `boJ,.ref,.nil,`ao Int,Bool,λζ=>((ζ:Nat):Int),#[_,rfl],`ao `A,decide,List,if_neg,Around,FnScope,(by rw[e2] at e1),0,List.map_append,Program,`ao `f,λζ=>by rw[ζ];rfl,λζ=>(by rw[ζ] at this),(`a_),g δ,xs.length,l.length,`ao Pt,.cons,`c o,λζ=>d9 (ds:=ζ) rfl,l.map,`ao Ent,base,`A->`fz,(gv 2),λζ=>(by simp only[ζ]),`ao (`az'),`q_ `A,wpAny,`c d,D->Ds->`aT Ds,`ao `bY,Option,by decide +kernel,`ao α,λζ ξ=>Inv X `z σ ζ ξ,`c v,s.heap,λζ=>show ζ by lia,by simp,Stmt,`ao Q3,r.length,Vb v,`I rfl,by decide,(gv 3),λζ=>by simpa using ζ,.none,`H (`az!) Ab,(by intro pins s σ H Q I h),`ao (`j'),Bool.and_eq_true,λζ=>by exact ζ,λζ=>.ow (`m ζ),List.range,.sh F,List.append_assoc,(`aU),H₀,B₀,`q0 ds,its.toArray,λζ ξ=>by rw[← ζ];exact ξ,(by let#[B,b1,b2,env]:=en.ex),(n:Int),decide_eq_true,λζ=>(by let#[d,en,h,k]:=ζ),(gN 2),(`fA),`c `q,λζ=>`c (`an (ζ)),λζ ξ χ=>`me P w K mg `aJ CX0 ζ fa fd ξ χ,Nat->Nat,"Reader",`aT Int,ys.length,0,λζ=>show ζ from rfl,D->`Bb,`q1 H δ,λζ=>(by let#[r,en,e1,k]:=ζ),pure,λζ=>by show ζ;lia,B5.mp,rest,D.str,`cP H H',items,(ha B δ),λζ ξ=>if ζ then `c ξ else `g,`I h,(j:Int),(·.1),C2 _,λζ=>`n2 ζ,strOf,`c u,I.hok,λζ ξ=>p6 (δ':=ζ) ?_ ξ,`ap h,`ap e,D->`i->`az?,Want,decide_eq_false,Vals,as.zip sos,d::ds,ds.length,
(z8 `aL v5),Nat.zero_add,held,λζ ξ=>`aP _ _ ζ _ _ ξ,PD X e g,λζ ξ χ=>ζ `j9 w `aJ X G ξ (λF=>χ) rfl `az9,`h i,`h 0,(`c1::δ),s.toks,(z8 `Q v5),D.tup,(R S),Str->`iR,(by rw[e1,e2] at h),`I e,λζ=>`Kw (`an ζ),by omega,(`cQ),[`gi],e.fl,B.length,List.size_toArray,S.names,`p _,λζ ξ χ=>(`n2 (z70 rfl (p6 (δ':=ζ) ξ χ))),(`Bc (`mf 1000)),List.replicate,eval,X.mg,Paired,(gv 4),(gv 5),False,(gN 3),(`Kx rx),Ds->`eC,`ap `az,λζ ξ=>`Ky ζ ξ rfl,Wb ps,S.un,Int.toNat_natCast,`p x,List.getElem?_map,lean,.sh (`iS),(`ch),.bl _,(by let#[t',rfl]:=ry),`c `g,List.flatMap_cons,Same,`ag a,.type,(k:Int),(gc `q2),List.getD_eq_getElem?_getD,flat,.builtin,λζ=>by have:=ζ;lia,`aT `f,`h _,λζ=>(`n2 (ζ ?_ ?_)),PD X a ga,.ow `aAa,A4.mp,ps.map,`c x,`t ds,δ[i]?,B7.mp,vs.length,C6.mp,List.nil_append,h'.objs.size,λζ=>λx y H Q=>ζ,String,λζ ξ=>fun σ H Q=>ζ σ H ξ,(wg0 I q `az),λζ=>`c (`de ζ)=_,D.int,λζ=>`n2 ζ,"tuple",`p s,λζ ξ χ=>ζ `z s σ H ξ I χ,.fin,gA δ,`h 1,body,(i+1),0,H b=`g,(`_!),`iT H σ δ,`bZ `l,λζ ξ=>`aP `eD X.A ζ ξ `iQ s,List.append_nil,λζ=>`Kv K `hP ζ,RelV,`m xs,.dct,(gc `Bd),.Name,Sum.inr,`p c,S.begun.length,p.vals,caps,S.begun,λϑ=>`nb `dZ (ϑ),pre.length,(ix L),outer,bdS e1,`iU d,λζ=>`c (`m (ζ)),ga δ,PD X b gb,(by simp only[`s] at h),(`df `boK),`dU=`uK,X.prog,S.wait,X.calm=`d,SubO,.sh `KA,ks.length,(`Ba `hO w),(z8 `Z v5),Runs,λζ=>by rw[ζ];lia,λζ ξ=>(`cr ζ ξ).flatten,`ao `G,gb δ,.sh W,h.nd,h.len,`ao `a0,`H (`_?=`n3::`Be) Aa,`Bf `aAd `n3,List.zip_cons_cons,List.length_range,cT_Reader,List.mem_singleton.mp,(`aAb),.sh `uL,"web",scope,A5 ?_,.sh C,r.mono,leans,.sh p.d,λζ ξ=>z8 ζ (z8 ξ v5),(`aAe),λζ=>by simp[ζ],`m _,`aT V,`b_ xs us,CallR,List.length_reverse,.ow `q3,λζ=>ifD _ _ _ ζ,Scope,(by intro pins s σ H x y v u Q I rx ry h),List.replicate_succ,D->`aj,`H (`mg) Aa,λζ=>z70 rfl (ζ),λζ ξ=>p6 (δ':=ζ) rfl ξ,`aT D,(`Ba `dT X.w),"self",.value,s.length,`m ds,(`ax (yd0 `iV)),.sh S,(`b0),items.size,k.toNat,
`c `d,λζ ξ=>by rw[ζ,ξ];rfl,List.reverse_cons,λζ ξ=>yv0 (δ':=ζ) ?_ ξ,`dw y u,PE X e te,Gr H H' B B',`bn h,"list",(gN 0),`c c,by kernel_rfl,lkd j,2 ^ 62,`ao Key,Value.ref,(`uM),List.length_singleton,(gc (`gj)),.bl b,s.cps.toList,C5 _ rfl,(`aaa).1,laid,(`O rfl rfl),[`iW],λζ ξ=>{ cls:=ζ,data:=ξ },x=`cQ,List.length_take,λζ ξ χ=>FnD P w K mg `aJ ζ 1 ξ χ,meth,name,nm.length,q.to,es.length,.seq,`c r,λζ=>(by let#[x,H1,I1,r1,q1]:=ζ),(hb B δ),`ap `E,`bZ h,HOk P w H h,X.N.Nodup,A.handled=`g,λζ ξ=>`boL (ζ) (λ_=>ξ),λζ=>(by exact `u (`u ζ)),λζ ξ=>.mk λB δ=>ζ ξ,(by simp only[`s] at e1),`H (`dV) Aa,λϑ ϕ=>`bt 1 ϑ (spD K ϕ),λζ ξ χ=>okD (k:=0) (G:=ζ) F ξ (χ) `j!,ClsN K `bv W7,`v->Prop,A6 _,(·.2),λζ ξ=>(`KB s ζ ξ),A.in1,`h k,B6 e,`h z,`q4 two,`t xs,kn p,qual,X.base,False.elim,λζ=>.sh (`h ζ),s.heap.get?,`h `bm,h'.get?,Bw.xr0,T.length,.frz,its p,`ac δ',List.getElem?_eq_getElem,(`aab),j∈B,(k+1),`c k,FuncData,call,(`gW),Vb p.2,`c `KC,(0:Int),`ao Env,(`aAc),`H (∀x,foldedSetIterable `j? `N x=`bD x) Ad,`q5 `aac,`aad K H,`H (`mh) Aa,(by rw[e3] at e1),`q5 `aae,`eb z,λζ ξ χ=>w50 rfl (p6 (δ':=ζ) ξ χ),λζ ξ=>p6 (yr0 (d:=ζ) ?_) ξ,Ok S,λζ=>(`n2 (vj0 rfl λp=>#[ζ,?_,rfl])),λζ ξ χ=>ζ `j9 w `aJ `KD `KE ξ (λF=>χ) rfl `az9,Str×D,"part",`h 2,en.same,(`Bg),pool,`h `bN,.own,ent es c,`p n,bootBuiltins,λζ=>.ow (o8 p (R ζ)),λζ ξ=>`Kz ζ ξ [] pos,X.env.locals,`Bh=`aF,`h j,(`Bi),δ.set,`h n,.bool,(`n4 `Q),`c2 hd,value,λζ ξ χ=>FnD P w K mg `aJ ζ 2 ξ χ,s₁,`dw v u,[`cQ],(`gX).bind,(`aaf),λζ ξ χ=>w00 (items:=ζ) rfl ξ χ,λζ ξ=>v40 (items:=ζ) rfl ξ,λζ ξ=>oA (z8 ζ v5) ξ,λζ ξ=>(`n2 (A1 (ζ ξ ?_))),`H (`aag) Aa,List.lookup_cons,Ds->`q7,Ds->`KF,(by let#[v,e,r]:=h),List.all_eq_true,[`c1],λϑ ϕ=>`bt 2 ϑ (spD K ϕ),`ag `L,dpN i δ,(`mi),(`q8),(a:Int),`ag p,"table",(W5 ?_),`c e,(λz=>nomatch z),`c y,closed,ObjOk,(`dh),.sh (`aai),.sh WD,"row",`c3 `bO,λζ=>k _ H `q6 ζ,(lkv π),`gk s1,`n z,.sh `Bj,
λζ=>`H (Gl X ζ) Aa,λζ ξ=>by rw[ζ,ξ];lia,(ob `aah),(gc (`uN)),(gN 4),S.length,h.objs.size,I.len,(`q9),(`b9),its.toArray.size,K.lookup,λζ=>(ζ).toArray,(`di he _ h),scope.names,λϑ ϕ=>`D ϑ (`c ϕ) `g,(`aAf),gt δ,at'.sl,Gw.qi0 _ _ `E,`q_ (`iR),`ao (`KG),`H (`aAg) Ab,pl.isList,λζ ξ=>#[_,_,rfl,ζ,ξ],List.map_nil,D->D,Ds->`Bk,λζ=>fun δ=>`ka ζ,(by intro H B x y dx dy d Q hb rx ry h k),(w60 `n5),(vp0 (xk0 (gc `Bl))),λζ ξ=>yv0 (wx0 (ζ)) ξ,As es as,λζ ξ χ=>okD (k:=1) (G:=ζ) F ξ (χ) `j!,prog,mainGlobals,.rcd,λζ ξ=>{ ζ with heap:=ξ },[p.d],S.un.length,"record",.Attribute,I.list,(i:Int),H' b,λζ=>λb o e=>ζ,`cR `eV,X.stack,λζ ξ=>OpR X (`Bm ζ) ξ,(`bE `aaj),(`u n),pairsOf,λζ ξ=>ob (o2 ζ ξ eqD),"length",(λb ds r b' h=>uz0 h),get_set,`aak x=`eX,List.getElem?_append_left,as.length,λζ ξ χ=>yh0 1 ζ ξ `eW noT χ,Pt.d,`c `q!,made,λζ=>by rw[ζ];simp,assign,0,λζ=>.bl (`an (ζ)),`c b,λζ ξ χ=>by rw[ζ,ξ];exact χ,"dict",w.length,Nat×`i,`cE=k::u,0,k _ _ `gY e,`dw x u,`q? ds xs,λζ=>fun σ H Q=>ζ,0,List.mem_cons,`t `mj,λζ ξ χ=>j4 (x:=ζ) (y:=ξ) rfl χ,λζ=>λD σ H=>ζ,λζ=>`O (d:=ζ) ?_ rfl,`aH `fB,#[rfl,rfl],(`Kx r),(by intro pins s σ H D I h),`ra `Bn hs C0,λζ=>(by rwa [ζ] at this),λx hx=>?_,a::l,`aA=`aQ,`H (`KH) Ae,λζ=>ζ _ _ p hu,λζ=>ζ _ _ `gZ hu,λζ ξ=>λd=>match d with|ζ=>ξ|_=>`y,`rb s1,.text w,z70 rfl `ec,p.all,k<`V,X.xe,`aT `A,`h `g_,λζ ξ χ=>`uO K `bg `bh ζ ξ χ,λζ=>Rp K H B ζ v,(`eY),"number",`h `iY,(b:Int),A4.mpr,(`g0),`P->`KI,cLine,`c `aal,.ins,Room,"text",CloseOk,`hQ c l,opened,S.wait.length,`dj::ws,z.symm,`c `q',λϑ ϕ=>`k (zi0 (ϑ)) ϕ,items.length,λζ ξ=>{ ζ with count:=ξ },`mk a,X.fs,ns.length,by rw[ze0],List.cons_append,(j+1),D.nx,λζ=>(ζ).reverse,I.loc,n.toNat,`n q,(r:Int),W.length,λζ ξ=>`iZ #[ζ,ξ,rfl],.sh `uP,(yw0 hp),(`fC h' tk),λb hb=>?_,`c `kc,en.b0,hbase,hline,λζ=>(ζ).map `fB,λζ ξ=>`aP _ `fD ζ _ _ ξ,List.take_succ,λζ ξ=>yd0 (by rw[ζ,ξ]),q::ps,
(`ml `Q),(d7 0),(`rc `uQ),(z8 `a6 v5),λζ ξ=>wa0 0 `bv W7 ζ ξ,`kd d,(by repeat (any_goals (first|assumption|wp_step))),`KJ V,I.ok.kind,CmpOp,PE X a ta,`dw x v,λζ ξ χ=>(`n2 (A1 (ζ ξ χ ?_))),λϑ=>`nb `eD (ϑ),V->`i0,"str","int",List.flatten_cons,(by rw[ze0] at h),RpO K H B d a,PDA X `gl gA,∀a,`n6->B a,∀a,B a->`n6∨`aAi,PID X tg `j? gi,hq.to,`Bo+1<`i1,bdS h,(`ak (128+r%128)),λϑ ϕ ϖ=>(`bL (ϑ) (ϕ ϖ))=_,[`c1,`ed,.un],Wf ps `gm,Ws ps,l.prog,Str×Nat,(λds d h=>xj0 h),iter,(`aA).bind,starEach,.free,S.hold,Hp->Prop,"begun",tupI,.sh `Bq,`h b,I.kIn,List.getElem?_set_ne,`ag l,(`rc `n7),"_law_x",`h `cS,.sh d,z.length,C4.mpr,.sh (`iX),cls es,"look",Pt.rcd,(`aaa).2,S.names.length,`c3 `fB,s.heap.push,(`uR:Int),λζ=>λb o hb e=>ζ,.Subscript,`c a,λζ=>ζ `bg `bh δ,(`uS),(gN 5),w=`eF,`h x,(`dx),pd `uT,kv.1,eff l fl n,λζ=>`h (ζ:Int),start,HT.sIx,"set",(`n8),(ob `aAj),(gc (`n9)),as.find? `KK,s∈T,j.toNat,.sh `mm,(`eZ),λζ=>W5 (yi0 ζ),.sh (`fE),NodeOk,`aH `bO,"_law_classes",es1.size,I.bare,I.free,(`hR s h'),-(`e_),e.all,gx δ,r1.length,p.vals.length,(`Br),λζ=>`c (`n',R ζ),`aam=`KL,.sign,h.vals,λζ=>(ζ).map `p,St->`ke,λζ=>(`q,`cs ζ `N),ns[k]?,(by delta closed),H p=`g,(upd H a o),λa z=>?_,(n+1),λζ=>∀{ds:`i} {xs:`P},ζ,`p a,List.lookup,`Bs b,PSsB,λϑ=>`bb (`o? ϑ),λζ=>Tel F a (ζ),(by apply `aM `cF),λ_=>rfl,[`mn, `kf],λζ ξ=>ζ `z s1 σ H1 ξ I1 q1,mulL,λζ=>show ζ from r,λz=>?_,.Tuple,(`KM),(xn0 rfl),`ao (Key×V),(`kg `Q),D.bl,λζ ξ=>#[ζ,H,I,rfl,ξ],`ao (`e0×V),α->β->Prop,λp hp=>?_,`H (`uU∨`uV=`i2) Ac,SqT K H a xs,(I.ok.hd hc),(by intro X hP hw hK hc i pins s σ H E I hf st hg),(by subst hP hw hK),A1 ?_,#[_,ho,rfl],List.any_cons,`H (X.fn y=`d∨`KN y=`i2) Ac,λζ=>`c (`h (ζ)),`dy ks ds,`aan d,λζ ξ=>PD X ζ (o2 ga gb ξ),(by let#[v,rfl,r1]:=rg0 r),(by simp[vw0] at e),`I hb,`ap hb,nrf d=`d,`c `Bt,tr d=`d,`n! ps,λϑ ϕ=>`k (`aG [ϑ]) ϕ,`ao (`j),(`df `aAb),λϑ ϕ=>`X (`h ϑ) ϕ rfl,λζ=>∀ps:`_,ζ,`aG `hS,
λζ=>p6 (ζ) rfl,(R7 (gc `Bl)),λζ ξ=>wr0 (by rw[ζ,ξ]),w≠`dj,λζ ξ χ=>z40 ζ hr `E (o4 ξ χ),λϑ ϕ ϖ=>`b8 cD2 ϑ (ϕ F T ϖ),FnOk,λζ=>(ζ:Nat)<=`R,X.N[i]?=`c4,Gl X x,`n rfl,(`aao),h.get?,λζ=>o2 ζ `dz ixD,(`rd),"value",s1.trans,`KO j `KP,as++[L],apos,`i3 C dx fs,as.map,`cR `dg,(`re),if_false,λζ=>∀cl s H ex,ζ,Option.map_some,`Bu=`aF,ps.take,flats,`m es,`p `g1,(`cG),.fields,vs.map,codeAny,kys l,[`eE],I.tuple,(`fF),holding,PSsD,[a,b],u30 kvs k,(`aAh),(`uX),"digits",inst S,(`ba `boM),(N:Int),`uW=`aF,λζ ξ=>HOk `dT X.w ζ ξ,assignEach,s1.heap.objs.size,f2 b hb,F1.mpr,e.bad,Value.type,(`aap),"some",adj x,`c (r,R S'),(`b1),`Bv=`c (`n?),i.toNat,s30 ds,(gv 6),"drawn",[`ee, "k"],λζ ξ=>`aP ζ A ξ Q E s,(`dA x pos),s'.heap,its.length,RpL K H B d a,Bool.true_xor,`rf s1,J.w.openOk,.Assign,λζ ξ=>wl0 `eW noT ζ `aar ξ,`eG<=20,I.nms,.sh `oa,"met",[`uY, `Bw],"law",S.ends,(d7 1),T.b_len,λζ ξ χ=>z7 (op:=ζ) ξ χ ?_ ?_,`aaq=`eX,Result->`fz,`ao (`f×`dW),Bool.eq_iff_iff,by simp at h,`i4 k X.A,r.get,λζ=>(by exact `u (`n ζ)),λζ=>∀l:`aV,ζ,λζ ξ=>Rps K H B (ζ) ξ,`KQ d,`H (`aAk) Af,(by rw[w80] at r1),`KR `aas,`uZ κ,`ao κ,ZipApart z TI TO i1 i2 l1 l2,λζ ξ=>(`rg ζ ξ),λζ=>(by let#[r,en,e1,kk]:=ζ),.row vs,z70 rfl `g2,(`Bc `KS),`u_<=20,e∈es,S.wait.tail,List.getElem?_modify,λϑ=>`ac (`gs ϑ::δ),`aAl<=`hT,`Bx<=100,`By ds b,PsOk.len,Pa n p,Bk es,[`ee],λϑ=>by refine ϑ,(`q,`aat),λζ=>o2 ζ `cT ixD,(yu0 v5),`bh a,"waiting",`mo s2,`p `hU,.bl `d,.table,`c `ci,(`gn),(`mp),es.map,`h 4,cpos,0,(unG wc0 `dz),someO,"names",`e1 a,"byte",NB (H a),`p (`u0 kd),`p z,(gc (`od)),`p "",A.units,`c ds,2 ^ 2600,B++[j],(λds d h=>t20 h),(`fG),λζ=>.sh (`m ζ),binaryOp,.deep,List.take_length,"name",(`kh),λζ=>.ow (o8 p ζ),L.length,I.hok.fresh,"dog",`c (`go a),r1.same s2,λx=>`aAm,λϑ=>`h (`ak (ϑ)),.sh (`Bz).d,λζ ξ=>`H (`kb ζ `N=ξ) Aa,I.laid,`p `aau,(`aav elt [#[tg,`j?,ifs,0]] `ef pos),(`c5),"zip",Around.under_plainId,setN,e.ms.length,
(Bw.small `l),j<`V,`bb acc,.sh `aaw,(m:Int),(`o (pb p)),V.str,s₁.heap,`c (.rf d),"sorted",xo0 ks k,λζ ξ=>R (.ok (`u1 ζ)) ξ,δ.length,"sign",(a==`BA)=`q,us.length,sliceBounds,G1 δ,r2.length,λζ=>(ζ).map `h,(lo:Int),Sum.inl,[`ki],It `V d,Gr.less,KV kvs vs,(g i j),kn `ob,λζ=>#[ζ,H,`u2,`al,q],`aax=`c4,λζ=>(ζ).map `bO,getItem,(`KU),typeLookup,λζ ξ=>EP X `z σ Q ζ ξ,λζ ξ=>∃a xs,`aay/\ζ/\ξ,`Kv K `hP c=`c (`BB),List.find?_cons,b≠a,(`o (t40 ys)),or_false,Bool.false_xor,"enumerate",rawInt,`b2<=`R,`KV `dB,om0 `c6,(`mq),Nat.sub_self,`c l,ix ps,λp=>`aaA,`t `u3,(`oc bare),`p w,`aAn `KT,K0.mp,`aaz kd n,(`aaB),`gp=`g3,NL p.2,True.intro,`p y,r'.length,λϑ ϕ=>`gt (`dA ϑ p) ϕ,"spelled",λζ ξ=>P3 ζ `kj ξ e `g4 fin,List.length_drop,λζ ξ=>by show ζ;rw[ξ],λζ ξ=>o4 ζ (o4 ξ d8),`b_ vs us,`KW=`BC,(by rw[`boN,`boO]),(`BD),`u x,xs.drop,λζ ξ=>`K (C7 ζ ξ) `aAo,Unit->`fz,λζ ξ=>by rw[ζ];exact ξ,`aW H' s',λζ ξ=>(`n2 (ζ (thn `KY ξ))),(by intro pins s σ H vs us Q I r h),rv.length,`ap C0,λζ ξ χ=>`aP `eD X.A ζ ξ `iQ χ,(by let#[f0,f1,f2,f3,f4,f5]:=hf it `az),λζ=>#[_,rfl,ζ],`n e,`u4 `e2,if_true,`I `E,List.all_cons,`ar N ps `u5,`KJ `f,names,Bool.false_eq_true,(`KZ),`c `Bl,`c [],`c `u6,[`eH],.fn ks ds,(by let#[xs,e,r]:=h),(by apply `bo h),λζ=>(by let#[t,en,h,k]:=ζ),λj hj=>?_,`ap z,`q5 (`u7 `BE),`i4 m X.A,k::ks,λ_ _=>rfl,`kk n1,(`aAp),Heap.size_push,`c2 h,(by simp only at h),(by rw[e2,`s] at e1),(by let#[xs,rfl,rx]:=rl0 f4),vr0 h,(wu0 1 `n5),(vs0 `Z),`bn `l,λd hd=>?_,(R9 (v20 2 `a6)),["thing"],(`aC:Int),λζ ξ=>`O ζ (`O ξ rfl),tgs vs,λζ=>`Bp _ (ζ)=_,x<`V,(by rcases `c7 hx with z|z),`dU≠[],c∈v30,Inv `gm B T S,[`dX,`u8],λζ ξ=>`ar ζ `cj (n6 ξ),λζ ξ=>W9 ζ (z9 ξ `BF),λζ=>#[_,D5 X G ζ],Array,λζ=>Rps K H B ζ xs,λζ ξ=>Env K ζ B σ ξ,(`b'),(`u9),ps.flatMap,λζ=>`H ((ζ).any `bO=`q) Aa,(`aaH H),`aT (`i),by assumption,`L+1,(`fI),.cell,λζ ξ=>`aaC K H B as ζ ξ,λζ ξ χ=>`K (show ζ from ξ) χ,at'.same,
λζ=>yg0 0 `bv ζ `K_,`t `aAq,`c3 pr,env.same,λϑ ϕ=>#[ϑ,rfl,rfl,ϕ],`h `u',`p "at",`ct x,`u!=sc,`oc `K0,.name,(`aX),web ps,List.length_nil,kvs.length,`ag b,(`gq),.sh (`rh),List.length_zip,o.cls,0,.BoolOp,.func,(`eg),"item",(gc `y),hw.it,λϑ=>(ϑ:RS).ends,ks.zip,"cat",(`fJ),`KO 0 `KP,ps.zip,W.codeIn,scope.names.lookup,(`K1),vs.toArray,(`fH),(xp0 nm),(`rc `kf),`c (`ms),h.elim,(`a7 hl),t σ H Q,SeqAt.EqAt,s.TypeIs,(`kg `aAr),(`ml `a6),g1 δ,(`dC),(`dD:Int),(by rw[`S,`e3]),r.map,.sh NL,`p q.1,λζ=>λcl s H ex=>ζ,hr.units,I.pin,S.begun.map,"place",(`kl),"reversed",I.cell,(`aAs),`ao β,G `BG,dkv ks vs ps,(`rc `oi),`aB<=`R,o.data,(`fC h' t'),`bD `g,hf b hb,`hW hq,owL i δ,trivial,trees,λζ ξ=>.ow (`dy (`n ζ) ξ),(`aAt),strKeys,FnAtH,`i6 H a sub,(`g6 H a sub),(by rw[wh0]),λζ ξ=>`H (`K2 ζ ξ `aaD `N=`u?) Aa,x.length,l.flatMap,`p `i5,(`n `K3),hb ps B T d,`va S nm,Km.ur0,`m `aaE,`c (`BH),(`ak (128+d)),.function,s00 ys,`cu F l m,s1.free,`mt `e1,`h `vb,np' l fs `ck,bindArgs,(lm f l),`gr x,s.gens,`K4 H,(`BI `BJ),(vs++dvs),`KJ `A,slice,δ[j]?,λζ ξ χ=>∀H₀ B₀ δ,ζ X ξ χ,en.fr,hplain,(`aAu),(`K5 hb),Obj.mapSeq,h1.objs.size,(`bP),2 ^ 20,(`Ba P w),λζ ξ=>Env X.K ζ B σ (ξ),[`aAv],(`mu),(`KX),k∈ks,λζ ξ=>`m ((ζ).map ξ),λζ ξ=>E2 (Q1 (p:=ζ) ξ),λζ=>o2 `Q ζ ixD,w.cps.toList.map,v=`y,(ob `BK),hw.len.2,.sh (W),`vc `aAa,(0,[]),(qr0 S kd),[`c1,`ed,`K6],`gs S',`p (`aAw),λζ=>`t (ζ `aAx),(`a7 `w),Whl q,s∈N9,λζ ξ χ=>[ζ,ξ,χ,.un,.un,.un],`ag c,putAt,`p b,λζ=>fun σ' H' en'=>ζ,X.s₀.heap.objs.size,`t `mv,λ_ _ _ q=>q,λζ=>λxs H Q=>ζ,ht.typeIs,(`ag D),λζ ξ=>`Kz ζ ξ [] `oe,λζ ξ=>p6 (δ':=ζ) `eI ξ,(plN (vz0 0 `km `og)),λζ ξ=>by rw[ζ];show ξ;lia,h.cnt,`h `hX,(`oh `e4),o.length,`iR->`fz,`aE r t,`ao (`aAy),(by by_cases hb:b=a),λζ=>λ_ _ _ H _ I h=>ζ,`rj=`g,`H (`aAz) Ab,(`aaG op),PE X b tb,λζ ξ=>U2 hp (thn ζ ξ),λϑ ϕ=>`db ϑ λx H1=>ϕ,Cls K C,(by obtain rfl:u=`oj:=rx),x::xs,List.getElem?_replicate,
λζ=>(by simp only[ζ,`mw]),V->`bw->`bw->`KI,s3.heap.objs.size,λϑ=>`WC `lj H ϑ,s2.heap.objs.size,λζ=>`c (.bl ζ),Ds->`aT (`bw),`dy `K8 ds,as.Nodup,r.live,(`bQ `boQ),`mx (PGD `vd tg idx f),`mx (PD `vd elt ge),`dy _ _,(by let#[a,ys,rfl,q,rr]:=r1),`H (`rk) Aa,`H (X.N=N) Aa,`H (X.N[j]?=`g5) Aa,(`aaI `my),`Bs c,`aAA H,`hQ c ps,(ps0 1),List.map_reverse,λζ=>w50 rfl (ζ),List.flatMap_append,(by rw[`cH] at hj),Gw' ps,`BL=`d,λϑ ϕ=>`eA (p6 (ϑ) ϕ),λζ ξ=>p6 ζ (p6 ξ rfl),np' l f fl,(vp0 `aaJ),[`kn, `BM],w.cps.toList.length,sub_len,λζ=>`BN (ζ) _=_,.sh `aaK,`BO k `aaL,λζ=>yg0 0 `bv ζ `K_ `b!,List.length_modify,(`Bc `aAB),[`c1,`ve,`BP],(`aAC),List.count_cons,(`K9),(x%6).toNat,hp.gp,λϑ ϕ=>`bt 3 ϑ (spD K ϕ),λζ ξ χ=>okD (k:=2) (G:=ζ) F ξ (χ) `j!,λζ ξ χ=>FnD P w K mg `aJ ζ 3 ξ χ,(z10 (z30 0) `vf),(by let#[f,fd,F9,a9]:=h9),w::ws,(`ki),`ag f,`h 128,EnvS,(`ko),"unended",fold z,`aH pr,(kb B),X.fn x=`d,`KN x,`mk b,`ag z,"_law_script",DecidableEq,cnt p,kindS,.ret,I.tok _,(`rl),λζ=>`K' K ζ=`d,(n6 st),(`eH),λζ=>`K! `oe (ζ),.sh (`BQ),`m [],(L:Int),X.env.scope,`bD `q,named,(`eG:Int),Sl.ow,(`aaM N'),.sh (`K?),CN_Reader,(`dA x p),(kt T),B8 _ e,attributeBase,`cs o `N,(`aaN),`fN `Lr,C4.mp,Pd.app,List.getElem?_append_right,Gw.qj0,λζ ξ=>{ S with digits:=ζ,count:=ξ },.dK kvs,(c:Int),S.count,(`BR),"kind",L.getD,(`aH `h),pre.map,(`ak 0),`a7 hb,Q v H',∀a,B a->`ol,(`gt `vg `gl),Loc `u! x,λζ=>`c (`t (ζ)),D.lst,λζ=>o2 ζ `cT gtD,.sh (`om),.root,w=`rm,x/(`bN+2),λζ=>xn0 (v50 ζ),B8 _ q,Pt.table,`bR n,pd `vh,wz0.mp,(`i7),(`u_),(`ag fa),ns.map,(`La),`p `mn,"0123456789abcdefghijklmnopqrstuvwxyz",`c `rn,I.freeC,(`e5),"range",sp vs H Q E,kindOf,xs=`BW,(`kp),f d δ,"len",λζ=>(ζ).isSome=`d,`Bs a,(lkv f),ix B j,.sh `g8,λζ=>hb ps B T ζ,`bR l,E4.mpr,link `cl,λζ ξ χ=>FnN P w K mg `aJ ζ ξ `cj χ,.sh `Lp,4*`u_+`fJ,σ[j]?,λζ ξ=>wl0 f gt ge ζ ξ,`dY=`aB,`m vs,(gN 6),vt0 q,W.wb.its,`b_ xs its,b≠`gu,σ.length,λζ=>(ζ).objs.size,W.findIn,
λζ=>`H (`vj o ζ `N `aaO=`vk) Aa,`c δ',`bc n,`I hl,g `Lb,xo0 ks q,λζ ξ=>(`cr ζ ξ).foldl `aaP ⟨⟩,`c2 hx,`cI d n=`d,(s60 N j p b ds),"out",(`ak (n%128)),`dY=`c8,(`aAJ),.ow `aAE,`aAF `BS,`aAD `KT,(`Lc),`aH `Ld,[`aAG,`m q.2],qs.map,(`aAM),(`BT g),[`aaQ],x.1=c,`rq<=`R,(shp es),(`ot),(`h i t),λϑ=>`e? `mu (`fi ϑ),ps.drop,.call,λζ ξ=>st ps ζ B T W ξ,Value.str,λv2 H2 s2 r2=>?_,`c p.2,List.filterMap_cons,`hY=`g,its.toList,(`aaR),#[_,`e7,rfl,rfl],(hi - lo).toNat,λζ=>`boR a ζ b pos,first,`aAH `fK `ef `L f cd,λϑ=>`b6 (ϑ>>=_) s,`kq<=`R,caps.length,(ys++[y]),s2.toks,DL.Ds,`c (`aaS),¬B a,(`BU s),λζ ξ=>∀B δ,ζ X e ξ,dd.typeIs,e.own,(`Le),`gv->`mz,(`h_),.NotIn,Value.none,B4 `w,(`on),`ag d,`hZ `vi,h'.push,(`aAI),λ_ _ _=>`cx,z.elim,at'.w.hd,at'.bad,`vp `bq,λζ ξ χ=>`aaU (ζ) b1 b2 ξ χ,λζ=>#[q,en,e2,ζ],(by simp only[`ae,`rp]),λϑ=>`dN (`o? ϑ),`Lf j,(`mA j).flatMap,.sh (`ro),`m (`mt ap),.ow (`Lg),List.range'_succ,λζ ξ=>w90 `bp SB ζ ξ,x∈o,List.range',λϑ=>`X ϑ `gn rfl,λζ=>λa ha b hb e=>ζ,`KO k `KP,(`aaV),le0 S kd n,S.spelled.length,d=`y,xp0 `e6,h.pa p hp,web W,N9.getD,λζ ξ χ=>[`eJ,`Lh,`g9,`g',`eh,`aAK,`vm,`Li,`aAL,`boS,ζ,ξ,χ],`ei g,(d7 3),`vn hj,`c (.rt d),λζ=>o2 ζ `dz u90,(z8 `cv v5),(`ml `cw),(`n4 `aL),λζ=>o2 ζ `dz yf0,λq hq=>?_,λζ=>show ζ from ru,(`i8 H `eK),isStr,λζ=>xl0 (z00 `bp ζ),λζ ξ=>z8 (oA ζ ξ) v5,`bn rfl,λζ=>xa0 we0 [ζ],λζ=>o2 `oo ζ xm0,(xu0 `d),(gc (`ri)),(gc (`op)),"count",λζ ξ=>`dy (`n ζ) (ξ),T.b_range,(`aaT),`n i,`bZ e,`ao (κ×`A),`aT HO,o.dict=`g,codeAmong,λζ=>λb xs q=>ζ,X.outer,frs `h0,λζ ξ χ=>(`K7 ζ ξ).trans χ,Array.length_toList,V->`BX,Operator,λζ ξ=>A1 (ζ (A1 (ξ))),(by intro pins s σ H R I h),`A->`aaW,λζ ξ=>λx H1=>ζ σ H1 ξ,λζ ξ=>ζ λ_ _ _ _ _ _ _ q=>ξ q,`h1 op r,(by intro pins s σ H xs us Q I r h),K.In `aY,Sem `aj,`I hk,(by exact`boT),NoAttr K C f,`ap q,λ_=>`g,λζ=>by rw[ζ,yb0],PA X es t,`me `dT X.w X.K `ct `fL CX k f fd ps sp,
`BY X.K fd ps ds,`b_ dvs ds,kh0 CX X E,`fM hq,PA X `gl t,N.length,ws.toArray,eq_of_beq,`aT `G,y=`rr,xs=[],λζ ξ=>OpR X ζ (ξ X.K),i<`aB,λζ=>ζ K x y H Q,`h a,`oq+1<`i1,(by rcases `bF hx with rfl|hx),`ap hc,λζ ξ=>A1 (E7 ζ (ξ) `boU),`aaX X.N N',λζ=>fun δ=>`boV ζ,λζ=>fun δ=>`Lj ζ,signs,`a7 hj,`dk=`or,ih h2,`a7 e1,h.at',λϑ ϕ=>by apply `bo ϑ;cases h;exact ϕ,λζ ξ=>ζ K B δ ξ σ H Q,(by delta oA at h),λζ=>(by let#[r,en,e,k]:=ζ),L2.PI.imp,λζ=>(by let#[items,en,e1,k]:=ζ),(by let#[x,t,rfl,r1,r2]:=r),PDF X e g,Rps.snoc,`mx (PFD `vd ifs gt),(by let#[x,r,rfl,h1,h2]:=h),g9.mp,"bool",.fn _ _,"isinstance",(by intro H B xs ds d Q hb r h k),`a1×`i,`b2=n,KT H kvs xs,H a=`Lk,`rq<`R,(jn0 ry),(by cases `boW),`aaY [e],(by let#[hp,g,d,tk,os]:=s),PX X e gx,(by rw[e2,e3] at e1),`ej ds n=`d,List.all_map,(by delta lean at l),λζ=>ζ p `gZ hu,λζ=>ζ _ `gZ hu,q1.to,(he B δ),`Ll s3,(by delta oA z8 v5 at h),u00 0 n,λζ=>o2 ga gb ζ,D->`r,(by rename_i ks ds),(`aAN r2),(by rw[`boX]),λζ ξ=>#[ζ,_,rfl,ξ,?_],st.hTI,`ao (`aaZ),List.nodup_cons,`mB ds=`d,λζ ξ=>if ζ then ξ else `g,(`Lm),(by by_cases bc:b=c),(B4 q),`Ln=n,b≠c,at'.dp,(go δ).bind,(by delta pn0 at h),r.1=c,decide_eq_true_iff,λζ=>`ap (λz=>ζ),λζ=>`c (`c (ζ)),(A7 _ z),(w60 (oA `aa_ se0)),p.few,(R7 `cT),n<`os,`t [_,`gw],(`o `fH),(`aAO),(by injection e with e),(wu0 3 `BZ),yz0 ks vs k,(`Bc (`mf 10000)),.sh `rs,λζ ξ=>`Kw (xor ζ (ξ)),λζ ξ χ=>`vq (l:=ζ) (d:=ξ) rfl rfl χ,a::ks,d::vs,Str->D,pu0 l f fl,λe he=>?_,λζ=>`aa0 ζ,λζ ξ=>`Ky ζ rfl (`O ξ rfl),λϑ=>`Jc (`jI ϑ xv0),λζ ξ=>p6 (yr0 ζ) (ξ),[`K6],λζ ξ χ=>p6 (f ζ ξ _ `bf) χ,adj i,rel f p,nB B d,λζ ξ χ=>ζ ξ (m:=`Lq) λy hy=>`kr χ,D.non,`c2 z,λϑ=>`dd (ϑ:Int),k<`dD,(q20 S),g `b!,S1.wait,`i9<100000,(by rw[`boY]),λζ=>by show ifD _ _ _ ζ=_;apply `aAP;rfl,λζ ξ=>p6 (δ':=ζ) `boZ ξ,[`c1,s1,`ed],[`c1,`ks,.un],[`c1,`ks,`aAQ],[`c1,`ed,`rt],[`c1,`ks,`aa1],`aa2=0,(`vr `aAR c),α->α,(`aAS T),pre++d::`bG,
s∈`gm,wr++`i',Cl ps L,Mt ps 0 r,λζ ξ χ=>vg0 [ζ,`kt,al ξ]=`c χ,λζ ξ=>j4 (y:=ζ) ξ rfl,λζ ξ χ=>[`eJ,`Lh,`g9,`g',`eh,ζ,ξ,χ,.un,.un,.un,.un,.un],λζ ξ χ=>∃t,mg ζ=`c (ξ χ t),λϑ ϕ=>`bt ϑ `cj (spN K ϕ),λζ ξ χ=>okN (k:=0) (G:=ζ) F ξ (χ) `ou,(top 22),(top 25),[`ku, "k"],[`uY],λϑ ϕ ϖ=>`dv ϑ=`z9 (`h ϕ ϖ),λϑ ϕ=>`b8 cD1 ϑ (ϕ F T),λϑ ϕ=>`b8 cD2 ϑ (ϕ F T),λϑ ϕ ϖ=>`b8 cD1 ϑ (ϕ F T ϖ),model,D->`eC,λζ=>by have z:ζ:=`a5,(`dl),`kb es `N,λζ ξ=>`H (ζ=ξ::`BE) Aa,e::es,`fO b,`ag C,(`fP),`aT `aj,(`aa3),compareOp,`q=`d,X.A.units,Option.map,(`B_),o++[x],sub.lookup,(`mC),`fQ b,σ[i]?,"_law_k",n.length,λζ ξ=>Pk ps B T ζ B' T' ξ,`kv c ps,sysModules,`c `gx,`c so,`cR `B0,`kb [] `N,si0.nd,(xa0 N ds),.ow d,λζ=>{ s with toks:=ζ },`b?+1,(uh0 `Ls `Q),xo0 `e8 `h3,"_law_many",Option.bind,S.begun.modify,.sh (`Lt),`h m,N es as W,λw=>`bH (yt0 w),N.map,Gr.same,λζ=>upd H `L ζ,[`g0],V->`KI,Binds,(gc (`Lg)),`h `K3,"function",W.fnOf,by rw[ys0],xs.size,`bH c,`m ys,`p (yt0 w),`fO a,`p (`aa4),σ.set,B b/\¬`bh b,λζ ξ χ=>V6 X s H B n ζ ξ χ,`m (nd r),λζ ξ χ=>`B1 x ζ `bo_ `Lv `u5 ξ kV doc pm an χ ct,λζ=>o2 `Q ζ yx0,H a=`aF,List.getElem?_set_self,(`B2),F5.mp,p.1=k,wi0 `dT X.w,(z8 g v5),s.heap.IsList,leS a b=`d,val `e8 `kw n,`dy (`n `e8) `kw,"classes",λζ ξ=>[`g',`bd,`Lw,`bo0,ζ,ξ],`n ks,S.spelled,(`vs),`p `g!,`h `vt,yy0 es as p,λζ=>yy0 es as ζ,fil fl n,`e9 ps r,h.trans,items.drop,`kd (`aa5),Bw.Lk,(top 83),.sh (`Lx).d,λζ=>`g7 P w H h a ζ,`n h,IsPart,(by delta Rp at h ⊢),rel.val k,(`u2),spliced,its.size,Value.bool,IsPair,A1 (D3 ?_),min `B3 `Ly,other,`t (`cG::ns),Pd.len,`B4::`fH,(`aAU),isName,λζ=>R7 (qu0 ζ),(gc (`mD)),λϑ ϕ ϖ=>xl0 (ϑ 0 `bv ϕ ϖ),.sh `mE,(`kx:Int),`vu+1,h.new,[`i5, `g!, `g1, `hU],λζ=>`K! pos (ζ),(`B6),bs `V,sc.names.lookup,Pd.get',`p x.1,e.n=c,W.map,ones l,λζ=>(ζ).resolve_left,(`B5),(hr.mono hk),(`Lz ([]:`am).toArray),λϑ=>`hR s (`kz ϑ),λϑ=>`m (`o? ϑ),(pq ps x).d,`e9 `vv L,
(1:Int),(`o `ky),`aa->Prop,.NotEq,NameKind.cell,(n,k),(`c `i_),`LA op b=`q,λζ ξ=>by rw[← ζ,ξ],λζ=>λv H' s r=>ζ,λζ ξ χ=>fun σ H Q=>∃B δ,ζ ξ B δ χ σ H Q,λζ ξ=>Rps K ζ B ds ξ,`LB hi,`p y t,`q_ GenState,`kz (k50 J),J.extBut,W.CodeHd,s₁.heap.get?,r.2.1,(`kE h.go),D8.mp,l.filterMap,A7 _ hb,B7.mpr,a.length,(`aAV),(`aAW).1,(`aAW).2,λζ=>(by let#[p,hp,rfl]:=ζ hj),Pn.put,.sh (`B8),ok.un,T.map,(P es W),[`vw, `aa6],"_law_web",(`dB n:Q3),λζ=>vd0 (u80 ζ),small,λζ=>dkv [] [] ζ,yd0 (by rfl),`LM ?_,F a b,`dA y p3,A7 _ hq,λz=>e `i!,`vx i 0,(`g?).zip,λz=>z,`kz `aa7,H b=`aF,λζ=>`aAX ζ `aY h',Gr.fresh,(oA `ca xh0),`q4 i2,itm p,λζ ξ=>vu0 ζ ξ `g `LD,(`LE),.ow (`LF),(plN `aAY)," 0123456789abcdefghijklmnopqrstuvwxyz",its `ob,(`B9 i `rn),λb o e n hb hx=>?_,ok.kind,λζ=>St->Hp->(ζ)->Prop,(b,o),`c (`aAZ),IsTup,λϑ ϕ=>`dt (`f1 ϑ ϕ) `f7,forIn,(`aA_).names.lookup x,`ao DL.D,ge δ',gi δ,`mF vs,SqL' K H B a xs,Rp K H B d x,λζ=>ζ X.K B δ g,(`vD),`c (`aa8),`D `B' `g (H1 b),¬B b,`ao `aj,StrsAre,p1.isList,`ha `LG,λϑ=>`gy i (`bb ϑ),λζ ξ=>ζ λy=>eqF y ξ,knd.is,(`di ho _ h),(`rr),Pd.set,∀a,B' a->B a,(by delta lean at h),`B! d x u,List.mem_singleton,List.not_mem_nil,Str.ofString,(by rw[`ru,← hl,`LH]),λζ ξ=>ZSt ζ z TI TO i1 i2 l1 l2 S xs ys ξ,(no0 H l),λζ=>`H ((ζ==`aa9)=`q) Ab,"keys",.done,Shared.TypeIs,(`BV `vl),I1.kept,s'.heap.get?,at'.w.len,λζ=>`gy i (.ow (mk (`t (`cG::ζ)))),J.toArray,m_values,wr0 `iV,`h `kA,E9 rfl,l.find?,(`O rfl `e'),(`oc nz),(z8 `Z `b3),λζ=>o2 `Z ζ yx0,λζ ξ=>[`bd,`cJ,.sh (ζ),ξ],w.cps.toList,(`o (kt T)),.sh `ov,(`cl:Int),.sh (`B?),λζ=>.ow (pd (kb ζ)),parts,`aA0 `LI,Sl.sh,`ow `vy,λζ ξ=>(ζ).map (ξ::·),λζ=>(ζ).count `dj,ws.length,List.length_tail,`vz `hb,I.tnd,I.tin,`ah _,(`mG g),λϑ=>(`o ϑ)<=12,hN.wb,(gc (`h 6)),(ux0 0 1),x%6 - 2,`h `vA,(ux0 6 7),(`aa! s6 s7),λζ=>`c (.rt ζ),N9.take,λζ=>`I #[rfl,ζ],(`aa? `ek),.sh O3,λζ=>`cI ζ 50=`d,[`vw, `LJ],(d7 4),(`Ca x `a8 cdv),`abb `bq,
(`aA1),(`O ?_ rfl),λζ=>o2 ζ `cT eqD,`t (`abc),(by rw[`bo1]),λζ=>o2 `e4 ζ xm0,(xu0 `q),(`mI),(z8 `Q `d_),j∉B,λ_ _ q=>q,(`aat),(`ag x),T.obj,(`LK),Pd.imp,M.extBut,λζ ξ=>show ζ by simp[`cU,ξ],yz0 ks vs q,Array.getElem?_toList,PySem.Str,`h4 xs,`kx<=100,M.length,λζ=>∃σ' H',`aba/\ζ,λζ=>λv H' s' r=>ζ,en.mut,λζ ξ=>`mH `dZ A ζ R ξ,(`LL),i≠j,λζ ξ χ=>yh0 1 ζ (ξ) `eW noT χ,(`ml `aL),λζ ξ=>v40 (items:=ζ) ξ l1,(`Cb `e4),λζ ξ=>by rw[ζ,`bZ ξ],λζ=>ζ `aAT ?_ ?_,λζ ξ χ=>v8 (op:=ζ) ξ χ ?_ ?_,`B7=`aF,known es,I1.laid,`BY K fd ps [],`n k,`aE r ih,H b=`bS,`rv=`mu,∀b xs,`aA2->`hY=`i?,`ja (wp0 q hn) q,b∉ex,λζ ξ=>Un fs ex H ζ h ξ,Un.kept,λζ=>∀b o,`aA3->ζ,b∉ch,(by have e:b=it:=`vB),λζ ξ χ=>`g7 `dT X.w ζ h' ξ χ,N.Nodup,`aj->`ke,PT X a tA,(`rx .And (`abd) pos),(`rx .And `aA4 pos),(`rx .Or (`abd) pos),(`rx .Or `aA4 pos),(`abe .Not a pos),λζ=>λv σ H Q=>ζ,I.kept,PassesOwn `eD X.A `N `iQ,λζ=>D0 (C7 ζ hb),λh' eb=>#[rfl,`aA5 (`kB (eb b o hb e))],(`ba `bo2),λζ ξ=>fun σ H R=>ζ σ H ξ,(`di hi _ h),(`ox .Add),λζ=>Q (.bl ζ) H,`an (x=y),W.isFn K `e2=`d,`c dx,`ap hk,Cls X.K C,λϑ ϕ ϖ=>`aW (upd H ϑ ϕ) ϖ,`I q,`i4 k A,#[us,[]],(us++ds),List.length_replicate,λζ=>`aA6=`c #[oc,od,`ry ζ,osl],A1 `rz,(by try apply `bo3),`c i,(`aA7),(`kC a b pos),(`Kx ry),k7.lookup,List.foldl_cons,n<=`R,Params,IntsAre vs ns,#[t,rfl],x.cps.size,`aa0 h,(`vi),by subst M;rfl,`t _,G2 δ',D->`q7,λζ=>ii λi j=>`c (ζ),α->Str,∀o,`Cc->H' a=`aF,`u ks,λζ=>∀{d:D} {v:V},ζ,(by let#[x,r,e,h1,h2]:=h),`ao `dW,(RpL.toO rfl h),`LN=`kD,`Cd hl,∀v H',`bI->`abf->`vC,`ha `Ce,(o2 ga gb f),λζ=>tD K B δ ζ,Op2 X.K r f,PTD X a gt,PTD X c gt,PDA X es gA,λζ ξ=>#[ζ,en,e1,`abg ξ],PD X `vE `LO,PGD X tg idx f,`H (`vF) Af,λζ ξ=>PSD X `abh (ζ ξ),λζ ξ=>i00 ζ `z s σ H D I ξ,i<`jb,(`aA8).mpr,(by exact`bo4),s2.trans,`H (`aA9) Aa,(`df `bo5),(`LP).1,`uO K H B H (`abi N vs) `BG,(`bQ `bo6),(by delta L2.start xa0),(`ba `bo7),λb o e=>?_,
Rp X.K H B d x,λζ ξ=>Op2 K (rI0 ζ) ξ,`Cf h,λζ=>(by let#[a,xs,rfl,q,r]:=ζ),λζ ξ χ=>`Kz (`hV ζ ξ `mr) χ [] `oe,`aaX N N',`cV d=`d,λζ ξ=>fun δ=>ζ λr=>ξ,λζ=>`c (.ow (ζ)),(by by_cases e:`Cg),`bn e,o.isSome,H b=`vG (k.map kV),PE X o td,(`Ch),`c6=`aA',(by rw[`kk n2] at h4),`I hf,λζ ξ=>ζ B δ `z s σ H Q I ξ,Nat.mul_comm,λζ ξ χ=>λp hp=>k _ _ ζ (ξ hb hp χ),(by dsimp only at h),`vn hk,λζ ξ=>PDF X ζ (oA `Ci ξ),λϑ=>`c (`kN ϑ),λζ=>(ζ).get? b=`aF,λ_=>?_,`LQ `aY f,`B7=`c oa,`Cj l1 xs,`Cj l2 ys,(`aA!),(`e7),`ao (V×V),`LR=`c p,(`abj),λζ=>by rw[ζ] at r ⊢;exact r,H d=`Lk,`Bo+2<`i1,(λa b=>`Ck),`c (`oy sub),(by delta L2.opened),(by delta L2.closed),`aT ResB,List.getElem?_cons_succ,`vp `l,(`hd),(`u z),λζ=>ζ _ _ _ _ ro,ge0 ns d,(by let#[c1,c2]:=J.w.back),(pa0 d).bind,PN X i o go,ClsN X.K c F,`H (f∈F) Ab,(by let#[q1,q2]:=hc.ok C hC),(by rw[e3,`s] at e1),`eb q,env.free,λζ=>by rw[ζ] at h ⊢;exact h,PTX X a gt,List.filterMap_cons_some,(by rcases `bF q with rfl|q),λζ ξ=>`abk #[ζ,`a_,ξ],(R7 (ye0 (`el `LS (oA `d_ wb0)))),(`k `x h),[`mn],[`rA],(`LT),(`ba `bo8),λζ=>`c (`vH ζ)=_,w50 rfl `abl,(by rcases `bF hd with rfl|hd),λζ ξ χ=>yh0 1 [] ζ `eW noT ξ χ,ux0 4 5,`t (`aA? `aBa),(`Cl),(λv hv=>by cases hv),(`Cm),vl0.mp,`t `kF,`I `LU,k∉ks,`t `aBb,(`abm).Nodup,(by rw[`b4,`x,`oz] at l1),(`bE (3<=`R)),q90.mpr,[`ee, `Cn],[`oA, `LV],(ob (`vI `aBc)),(v10 `abn `kG),λζ=>xl0 (R9 ζ),(`h5 `Q `abo),(R7 `rB),[`aa6],DL.un0 ds es,List.getElem_map,(z00 `cy `aBd),[`ku, `abp, `h6],λds=>vq0 (ds++`LW),λζ ξ=>oA (z8 ζ ξ) vg0,`c `KA,xr0 rfl,dgs l x,(n%128),λζ=>show ζ by omega,[`LX,S,.sh `abq],λζ ξ χ=>ob (o2 ζ ξ eqD) χ,(by rw[`bo9]),λϑ=>`fN (`ak ϑ),`c3 λq=>`LY,`c p.d,Dfs adj S c o T r,Pw n p,tgs `dE,ms W k l U o T `oB,List.dropLast_concat,`uZ α,(`aBe),(`aBf),`cl<=60,`rC _ w2,nW ps B W d,Res.nx,B.Nodup,hw.its,Mt ps a r,qv0 (nd r),`h `abr,λζ=>`c (`y,R ζ),`dU=[],`dD<=60,List.map_singleton,λζ=>∀(b u:`i) (δ:Ds),ζ,
(`oC (N0 b u)::δ),(by rcases k4 hk with rfl|rfl|rfl|rfl),[`c1,`vJ,`he,.un],λζ ξ=>yv0 (wx0 (δ':=ζ) ?_) ξ,w=`vK∨`kH,`vL∨`abs,[`ks,s1,`LZ],List.drop_left,{ S with spelled:=w,names:=`abt },λζ=>`c (`cb ζ),Runs.one,`aBg hv,(`jc S2 c),`i9<90000,ws.count `dj,rest.length,(by injection h with h1 h2),λk hk=>?_,(`L_ `abu),(by intro S k u ws p pre I hn hB hL hu hk hp h0 he hw),ix L j,i<`oD,λζ ξ=>#[ζ,vb,ξ,h.cl],c.lt k hk,(`fR (b:=`q) ?_),N es as0 W,(`ba `bo'),(`vM%4).toNat,λζ=>nw0 ns ζ `E `E,λζ ξ=>sm0 (δ1:=ζ) rfl ξ,(`Co .un .un),λζ ξ=>[`g',`Lw,ζ,ξ,s4,s5],`abv `L0 `e! yc0,(`ba `L1),λζ ξ=>`ar ζ `mJ (n6 ξ),λϑ ϕ=>`bt ϑ `mJ (spB K 0 ϕ),λζ ξ χ=>okB (k:=0) (G:=ζ) F ξ (χ) `h7,λζ ξ χ=>FnT P w K mg `aJ `bv ζ ξ `abw W7 χ,λζ ξ=>`ar ζ `abw (n6 ξ),λϑ ϕ=>`bt ϑ `abw (spB K 0 ϕ),FnT P w K mg `aJ `bv `abx 1 `L2 W7 xv0,λϑ ϕ=>`b8 cN1 ϑ (ϕ F T),W.nsIn,λϑ=>`c (`lG ϑ)=_,λζ=>by let#[t,rfl]:=ζ,λϑ ϕ ϖ=>d9 (ds:=ϑ) (`O ϕ ϖ),.Call,(`kI),λϑ ϕ ϖ=>{ ϑ with heap:=ϕ,toks:=ϖ },(`n'),aT_Reader,bT_Reader,`aT Res,κ×V,Vis `u! x,Hp->VK->Prop,λζ=>`ao (Str×ζ),(λx=>`aBh),`c q,`vN ?_,X.env.scope.names.lookup,ps.getD,(.row []),λζ=>RpG K H B ζ a,λζ=>(ζ).all `bo!&&`bo?,`mf 1000000,(`L6),`ag t,ys.map,sos[k]?,r/128,(`di ha _ h),λ_ _=>`cx,(yj0 0),Ent.d,`rE xs,swapsWith,(x:Int),λζ=>SqL K ζ a xs,Gr.own,.sh (`gz),hs.2,(`Cp),`c3 `L7,W.keepIn,backTo,`h N,`u p.1,(frz δ),`Cq++[b],λc=>xp0 [c],strKind `hO w,l.take,`dy (`n []) [],.sh (`h x0),.sh (`h y1),(`dk).bind,`c `Cr,(`n8).trans,λ_=>`cx,`b2+1,λϑ ϕ=>w70 (`O rfl ϑ) ϕ,(`L5),`bc `V,(`ak 1),isTup,`h (N/4),`p (`bR [b]),(xx0 st),.sh (`kt),`vP ps,ys.size,λϑ=>`e? `h_ (`fi ϑ),behindInMarks,env.at,(x.2:Int),(`c 2),`L8 S,`m l,(`aBi),Nat.min_self,λn=>`bH (`vQ),"size",`aaH _,`gA `d,λζ=>λv1 H1 s1 r1=>ζ,l[i]?,(oA gA f),hf ds d h,λζ ξ=>IsZ ζ z TI TO a ξ,ps[j]?,(gc (`Cs)),n/128,(`aBj),"told",[`q2],.sh (`Ct),`bH q.1,.sh (`aby),λζ=>(ζ).begun.length,"number_bytes",
cok rfl rfl `bf,[`eE, `rA],T.b_tuple,b_tuple,`L9 ps,xq0 S,(`aBl),nodes,Bw.web,`oE `bq,(`aAv),`t ys,`c3 `dm,names.map,A.deeper,λζ=>m10 X `z ζ b,List.zip,(wi0 P w),(`aBk),[x,y],(`abz),Pt.all,(`o (bs n)),(`fS:Int),`u s,more l `ck,Value.int,`h 9,`jd=`aF,I.base.free,fs.lookup,standAt,(`L'),`mK hq,(eqU x),`u rfl,`c `kJ,(`c `L!),`bD `d,r.same,sos.length,List.getElem?_eq_none,(`abA),uk0 d,`h8 h1,`h8 h2,2 ^ 63,"list_reverseiterator",c≠z,gv δ,λζ ξ=>by let#[a,as,sos,at']:=ζ ξ,env.atN,λζ=>λ_ _ _ _=>ζ,λζ=>o2 `aL ζ yx0,(o2 `a6 `e4 ixD),(`Cu).d,λζ=>o2 ζ `oo xb0,(2*`eG+1),(`kK),rel π p,`c2 hp,r.take,`aa2*128,b<=255,q.2.length,λp=>`an (p.1=n),en `oF bx,en `rF by',"pair_names","sign_of",λζ=>o2 `gB ζ eqD,(·.n),t.cps.toList,(`Ma),bg ps j,as.take,sIx `eL 0 lo,(`vR),λζ ξ=>{ ζ with spelled:=ξ },`m `b5,λϑ ϕ=>Q ϑ (upd H l ϕ),NameKind.free,λi H2 g2 hi=>?_,λζ=>putK kvs k ζ,sr0 e,fold x,`bF h,H b=`oG,2 ^ 64,(`cW id),isL d=`q,(`L?),`g_+1,`p (kw `rG),"_law_name",en.grow,AllBare,nd T.reverse,flp es p,fs.length,.dict,X.env.kindOf x,λζ ξ=>ζ b o e ξ hb hx,I.ok.above,x=`b9,(`cR T),(xs++ys),`c n,cl.lookup,`P->`ke,gt δ',G δ1,λ_ _ z=>z,h.all,`c (`fT o `kJ),Pd.get,`k `abB hi,List.drop_eq_getElem_cons,(yh0 n `dF gi f gt ge),f ds=`aQ,`dA Tn p2,`aW H s',(`ag I),(`oH),hcalm,λb ob q=>`vO,DictEntry,L2.closed,(`abC),(`gw),b.length,`abD `oI,`Cv `vT,(`kM),(`Cw),`kN (vn v),bs (vn v),`h `abE,(kd o),ix T s,(`Cx),`Mb `aBn,λϑ=>[`gs ϑ,`ks,`aAQ],codes,λϑ=>show ϑ from `eY,Held q,ok.few,count_tail,its (`rH),Km.pak ps 0,`aaz `rG `vU,dkv ks vs l,x/(`bN+1),e0.ms.length,e1.ms.length,c∈`abm,"makes","sign_bytes","number_at","want","made_part","_law_part_here","_law_found",V.ref,"<lambda>",`aBq f1 f2,#[hh,gg,dd,tt,oo],X.pn++`z,isTrue,`dA z p4,H p.1,`ag L,λζ ξ=>(ζ: Str)=yt0 ξ,TabOk,λζ=>∀x c,`h9->c≠ζ,(`kC (`dA x p1) (`dA y p2) p3),`aBr x.2 [],xs.map,λζ ξ=>`aP `eD X.A ζ ξ E s,atI xs i,(`kO N vs),`aBo x,X.env.scope.kind,(`aBp),`c `vV,atKey,[e,f],SeqAt.RcNeAt,
λϑ ϕ=>`apj `h_ (`fi ϑ ϕ),`c ob,[(x,c)],callerA,subscripted,(a++b),(`fU),(`ak (a+`abG)),`h (-1),λζ=>`bpa λ_ _ _ _ _ _ us h=>ζ,(`Cy hl),λζ=>λvs H1 s1 r1=>ζ,"class",`p `rF,`abF++sg s,[`rd,`kK],SubOk,k b u q,X.H₀,setItem,`Md H,(`abM ha h),`h (i+j),(`rI us),(`ag sl),λζ ξ=>A1 (m:=`bpb) (P7 ζ ξ),`kP `aB 0 lo,λζ=>(by let#[its,r,ht,hz]:=ζ hx),[`on],(by simp only[`cm]<;>lia),H l=`My,r.append,`rJ K cdv `fK=`d,λζ ξ χ=>`i4 k (`Mc (`aAH `fK ζ `L ξ χ)),`rK y,.next,λϑ ϕ=>`boI λt=>`D `anc ϑ ϕ,`c `bJ,SqT' K H B a xs,.dK `rL,`Me ns xs,`vW `p,(SlR K H B),k H' s,`aBs X.K,en.same.nf,λζ ξ χ=>`uO X.K ζ `bh ξ σ χ,`Cz `dn,λϑ ϕ=>`bt ϑ ps (ϕ K f),rr.length,`abg ?_,λζ ξ=>ζ `dT X.w X.K `ct `fL ξ k ps f,Y10 i δ,λζ=>.bl (xor neg ζ),valueAt,`aBt `Mf,b≠p,λζ ξ=>ζ X.K `bg `bh δ ξ,(`abH),b<`L,s.drawn,`cR `kQ,λϑ ϕ=>`oL [ϑ] (ϕ::`BE),(`Lz ⟨⟩),λϑ ϕ=>`b6 (ϑ ϕ>>=_) _,Prod.fst,(A7 _ hp),(t,HO.tup `Mg)::tx0 as (us.zip ws),`t `Mh,(`dA x p0),(`Lz `rM),gk δ,q.symm.trans,closureFor,BindsTo,OpenOk,`c so.ho,hb.go,us.take,"append",(`ML).bind,ny0 nk,λζ ξ=>by rw[ζ,`S,ξ];rfl,#[q1,q2],ns++[`u9],(`i8 H3 `eK),nm++[f],[`dh],λζ=>by cases ζ<;>rfl,λζ=>(ζ).flatMap ib,(`o `fU),.sh (`abI),(C8 hp),sts ps j,`h `abJ,(xt0 ks `vX),fields,g2 δ,.sh A,.sh Bk,(`abK).map,.sh `Mi,(`mA i).flatMap,`q4 `Mj,`ej xs n,`bF hm,(`n4 `cw),strs_map,`m `rN,λζ=>(ζ).flatMap `aBu,List.map,.sh `aBv,`oJ (a+`Mk),.sh (`t [`K?,`h c]),Lv n v,`h `Ml,(kd (U++o)),(`Mm),kb_mem,(`o (kb B)),λζ ξ=>by rw[ζ] at e;exact ξ,`eb hb,`c3 λp=>(p.1,lkv π p.2),(`aBw),xq0 S k,await,(`CA),(`aH `aBm),`kd (`abL),λζ ξ=>λd=>match d with|ζ=>ξ|_=>`q,Q2.mpr,o0.mpr,λζ=>{ S with names:=ζ },`kd `rO,λϑ ϕ ϖ=>`jc (sp0 ϑ k ϕ ws) ϖ,`wb `kY,(nT T `g8),λζ=>Aft S S1 k ζ,λζ=>Inv `gm B ζ S1,`aBr k [],`CB n v,h.len.2,N9.map `p,λζ=>by rw[ζ];omega,[`dX,`u8,`r2,.sh `ace,.sh (`acf)],(fl4 x).take (x/7%5).toNat,fv es c n,Mx.ne_self,`aC<9,(`Mn).map pr,
λζ ξ=>[`eJ,`Lh,ζ,ξ,.un,.un,.un,.un,.un,.un,.un,.un,.un],"values","links","shaped","held_items","is_new","part_number","text_bytes","folded","unfolded","wanted_items","_law_mixed","_law_fill",λζ ξ χ=>FnT P w K mg `aJ `bv ζ ξ `mJ W7 χ,"is_left",n6 `CC,[F,`iS],sos.set k so',`h 60,`p `oF,(gc (`h 7)),I.closed c,λϑ=>`X `kI (`h ϑ) rfl,λζ ξ χ=>by show ζ;rw[ξ];exact χ,(gc (`vY)),λζ=>o2 ζ `e4 xb0,(`n4 `a6),(gc (`h 5)),(gc (`Mp)),λζ=>o8 p (R (ζ)),∃t,u=`Mo i t,λζ=>by subst M;exact ζ,Pd.impI,q2 f hf,[`CD],[`oK],(up0 0 `rP),(`h 255),Array.getElem?_eq_getElem,(xk0 `cv),Bw.ml0,λζ=>z40 `bpc hr `E ζ,r x y H Q,target,λζ=>λv H' s' r'=>ζ,λζ=>λp H' hp s' r'=>ζ,u=`oj,λζ=>O0 hz rfl (x:=ζ) rfl ?_,`gX=`c ns,(`kg `Z),(z8 (gc (`p `vZ)) v5),(`oh `dz),(`V:Int),`eb hy,`bZ `cK,`h `aa2,pw `V,λζ=>p8 m9 z90 `L3 `L4 ζ,λζ=>ζ `gZ hr `E ?_,T.b_isinstance,T.b_list,(z9 _ S.nd),PWD.pt,#[rfl,?_],ForInStep.yield,`dG++[(kd,[])],[e0,e1],(∀x∈ps,x.ok H),`aT α,Nat->`j,y.cls=`BD,(`Ba P W),(`p x t),#[_,rfl,r],IsTupN,`c (`e? `h_ `aBx),entryOfKey,∃o,`Mq,`CE o,`c _,λζ ξ χ=>#[z,y,ζ,ξ,ob,es,ep,χ,c],H a=`g,∀b u,`abN,base.Ns `hP mg,b∉`je,`Bv=`v_,`L<=a,s.heap.FunFrames,λx c e=>?_,(M b o e hx),(`Mr b o e n hx),(by let#[o',e1]:=`aBy b o e hx),m1++m2,I.step,λζ=>λb o _ _ hc e _=>ζ,Q () s',(`c9 hi).1,I.ok.has,`v0 x c hc,λ_ _ x=>x,λϑ ϕ=>`Uy PE ϑ (tC ϕ),`gA b,λζ=>λx H1=>∃c,`bpd/\ζ,λζ ξ=>thn ζ λv s1 h1=>thn h1 ξ,(by intro wh pins s σ H Q I h),`c `v1,(`CF),(B9 `mL),`dA x pos',`c z,.AugAssign,pyIter,It->`ke,λζ ξ=>Turn P w K tg ζ [it] it (λi h=>ξ),p.isList,`ct `v2=`g,`oL [a] [`aBz],λζ=>(by let#[vs,H1,I1,r1,q1]:=ζ),`a7 q,λζ ξ=>`aBA/\W i ζ ξ H',r xs H Q,Int->Int->V,(tOp r ta tb),λζ ξ=>OpR X ζ (rI0 ξ),0<j/\`aBB,(`ox .Mult),λζ ξ=>ζ (wg0 I q (D9 not ξ)),(by rcases q with q|q),(`abO),H a=`rQ,`Ms m=`g,H1 a=`rQ,PE X o ta,A.depth,`aBC us,∀vs H Q E,`v3->`aBD,λr s' hq=>?_,`Mt apos.atName,`mM [ov] (`abP ov m pl),sc.names,
Str->`aT `aBE,(by intro m nd h1 h2 hk),λζ ξ=>ζ `v4 `bpe m ξ=_,λy hy=>?_,`h' `aBF,Arguments,(`a7 hv),`D (v<0) (v+`bm).toNat (min v.toNat n),(`ak `aBG),s.heap.IsSliceOf sl vl vu `a8,`CG vl lo,`CG vu hi,λζ=>λx lo hi H Q=>ζ,tail_any,(by intro pins s σ H x v vl vu lo hi sl Q I rx hs pl pu h),`k J hw,λζ ξ=>#[`gW,_,`abQ `oM `b? ζ,rfl,ξ],q _ `Mu,IsTupN.new _ _,`aBH r2,`aT Nat,`c j,(`oN),(by rw[`cm]<;>lia),(by let#[its,r,pl,hz]:=`Mv),T0 `l,Bool.or_false,λζ=>∃a xs,`fa/\ζ,ht.isList.typeIs,ht.isList,(`ba `bpf),xs.all ol0=`d,(by rcases hq with hq|hq),λζ ξ=>ζ `Mw ξ `bpg `bph,(by rw[`bpi,`bpj]),λζ=>λxs H Q=>∃p ys,`v5/\ζ,(by let#[u,rfl,rx]:=vals1 r),`bx<=`R,(`Mx),Builtin.List.listTooLong,(by intro pins s σ H x vs v us Q I rx rv h),(`d1 `cm),`jf<=n,`Ca `fK `a8 cdv,`cP H1 H2,(`fC h' `BJ),v=`cG,Nat->`fz,by rw[← hs3],h₁.get? b=`aF,Y.extBut,(x,`kc),Nat.add_sub_cancel_left,λζ=>by have:=ζ;subst M;exact `w,`H (`K2 `oO `Mz `aBI `N=`MA) Aa,λζ=>fun δ=>`bpk ζ,`c `oP,(`gy i `v6),`aT Sl,`jb<=`R,l30 ds,`v7=`c δ1,v7 G1 G2 δ,(by conv=>lhs;delta w90),xs.getD,g _ _ n h,by apply `CH;exact h,(by let#[a,xs,e,q,r]:=h),by delta Rp;rfl,by conv=>lhs;delta Rp,ds[i]?,#[x,rfl,h1],`a7 e,λζ ξ=>#[ζ,[],rfl,ξ,`jg],(by let#[y,t,rfl,h1,h2]:=h),(by cases d<;>try exact `rR),`MB s,by apply `abR;exact h,`abS n,`h!=`MC,(RpG.toO rfl h),h.same,`MD `rS,(`ba `bpl),λζ=>(by cases d<;>simp[ζ] at h),∀σ H Q,t' σ H Q->`rT,λζ ξ χ=>ζ X (`aaF ξ j pos) χ,`ha `ME,(`abT).bad,`H (ii0 b) Ag,(by exact`bpm),(hc B δ),(`hc).bad,(`bQ `bpn),`cP `bg H,(`ba `bpo),(by exact`bpp),`jb - `dn,List.drop_length,λζ=>by rw[← ζ];rfl,(`BU s2),`aBJ `mN,(by let#[B,ds,d,_,r,h,_]:=zQ),(by let#[B,ds,d,hb,r,h,q]:=zQ),(`bQ `bpq),λK d=>by cases d<;>kernel_rfl,(by cases `bpr),(`m (xs++zs)),λζ=>eo0 (g':=ζ) `bps,`ha ?_,`ct `v8=`g,PDA X [e] gA,`hf `v8,(by have hb:`BA<`L:=F7 `E (`aBK:`hP<`L)),(by have hf:`aBL:=`L'),(hN▸ok),λϑ=>λd=>`D ϑ `aQ `g,(`MF).bind,d00 ds,yz0 ks ds q,`t `mO,`i->`aj,
λζ ξ=>`abU/\ζ<=k/\`aBM/\ξ,(kvs.any `abV),(`mP),λz=>e (`aBN z),Rd H a (.dT kvs),(by rcases g with⟨kvs,k,e,ey,l⟩|⟨kvs,k,b,e,ey,eb,l⟩),(`aBO `abW),dd.mapOf,(by let#[z,hd,xs,rel,dd]:=`abX),(l7 hu),(`aBP),DGet H a y o,(`CI).isSome_eq,h _ `CJ,`ao (`aBQ),(`aBO (mb0 `bT e)),(by have hl:`aBR<=`R:=`cX (qa0 kvs k v)),(by let#[b,e,M,r]:=h),(by rcases `MG with⟨rfl,_,_⟩|⟨_,h⟩),#[_,hi],#[_,h],(by rcases z with z|rfl),(by rcases `MG with⟨rfl,_,_⟩|⟨n1,h1⟩),(by rcases `MH with⟨rfl,_,_⟩|⟨n2,h2⟩),`K rfl n3,#[v,e,`ei `aBS],(by exact`bpt),(by let#[B',c1,c2,J]:=en.frz),λζ=>(by simp only[`s,ζ] at hq),`ap hf,[`aAh],.of_wp,#[_,rfl,h],`abY H δ d,λζ=>`H (`vj `mQ ζ `N `aBT=`aBU) Aa,λϑ ϕ ϖ=>PX X (`HU `mQ ϑ ϕ) ϖ,"extend",`kk (C1 h2),`kk (C1 h1),bg0 z n,(`MI - 1),`I h3,decide_eq_true_eq,List.range_succ_eq_map,Rps X.K H B ds xs,`dw y w,`abZ `rU A,V6 X s H B' m e y w,`oq+n<`i1,(by let#[a,xs,rfl,q1,r1]:=rx),X2.mp hn.symm,hz.2.1,dxs.length,by simp[hh],`q5 `aBV,λζ ξ χ=>F0 (q40 I ζ ξ χ ?_ `E `E),λζ=>`CK (ζ::`aae),Int.zero_add,List.getElem?_range,(`bQ `bpu),(`aBW r1),(`cR `MJ),(hT 0 _ st),Builtin.List.listSameRef,updateSeq,(`CL:Int) - 1,`m `ab_,u30 `rL q,k H2 `kR,(`bQ `bpv),(by cases e<;>simp[`cV] at he<;>simp only[wh0,xz0,ys0,w40] at ru<;>subst ru<;>rfl),(B4 h).symm,`CM `d,`CN `aY TI `ab0 `ab1,`ab2 i1 l1 k1,`ab2 i2 l2 k2,(∀c o,`MK->`aBX),A1 (`CO),`dH `aBY,`rV `mR `oQ,A40.mp,λζ ξ=>ζ λo e=>hk _ o (B9 ξ) e,st.hl1,st.hl2,`CP<=`R,λζ=>B9 (C7 hb ζ),hG.above,(H 0 `E),λζ ξ=>`gr ζ=`c (`cR ξ),x.cps.toList,PD X e g1,`ao PKW,(by intro i s H kvs hn hi I hf J Y O hl hp hd hz hR),(by delta Builtin.«dict.update.loop»),`oR qp0 _,(`ab3),(λx hx=>by cases hx),Bool.not_eq_true',But p H H',`c (-1),λζ ξ χ=>∀p,ζ->Q `i_ (upd ξ p χ),"setdefault",List.getElem_zip,zi0 bc,(`ag c0),base.BuiltinsAt mg Pt,b≠Pt,(`ab4),un.frzs,(by cases o<;>exact λz=>nomatch z),`v9 `v',`CQ b _ q `g4 `g4,c.root,`hg `x `fb,(λa=>`D (a=p) `g (H a)),λd=>d,
by delta RpN at h;delta Rp;exact h,by delta Rp at h;delta RpN;exact h,k<`MC,b∉as,`c (`CR,mk),lr0 eb,PN X i e g,`CS `aBZ,λζ=>`oS i k ζ δ,(by let#[c,so,rfl,f1,f2,f4]:=`aB_ r1 e6 hnode),wz0.mpr,λζ ξ=>`vo ζ (`aE ξ `ah),(by let#[#[n0,rest],w0,e0]:=vr0 e1),(by let#[#[c',fs,ds],w1,e1]:=vr0 e0),lc0 w0,(by cases `bpw),(by try dsimp only at e1),(`MM `MN e3),(by exact`bpx),`mB es=`d,`i4 n X.A,`h' hk',(by by_cases hb:b∈`mq),(by rcases `c7 hb with q|q),(`m (es++[dp])),(nl0 e).2,(`aB0),`ab5 ns ps,(by exact`bpy),c.other,(`aB1),O b hb,A80.mp,List.filterMap_cons_none,vu0 its l u c,List.any_eq_true,Pt->`i,.text _,(by let#[p,hp,rfl]:=`gC),(wt0 `hh `kS),(w60 (`h? [] `rW `gB)),mkN 1 we0 uo0,(ob (`vI `aL)),(R9 (v20 1 (o2 `hi (o2 `aL `hi xb0) yf0))),(z00 `bp (`MP `hi)),(R9 (v60 1 (oA `b3 se0))),(ob (o2 `Q `rB g40)),(`ak `KX),D->Prop,-2*z - 1,(2:Nat) ^ 2502,h a A8,[`kp],[`ek],λζ=>λi δ=>∃s,δ=ζ,(by rintro j d δ hj ⟨s,rfl⟩),(`c9 hp).1,#[s',?_],(by have hc:`ab6:=hc),(`o `CT),(D4 _ `CU),λζ ξ=>(match ζ with|`g=>`g|`g5=>(ξ).map `aB2)=_,`CV s=`d,(wu0 2 `n5),(ws0 `aB3 `aB4),(z00 `hj (o2 `Z `rX xg0)),(R9 (v20 2 (ye0 (z8 `kT (`el `rX (oA (z8 `MQ (`el (`n4 `cv) (`ml `cv))) vo0)))))),(`CW (oA `b3 wb0)),`h `LC,x.2<`oT,λζ=>∀(ps:`_) (ks:`a1) (vs:`i),ζ,hp p A8,(`ab7),`t (`aB5),`dy (`n fk) fv,w70 `ab8 `h2,List.filter_map,GB' nm es as,`rY=`br,λx:`j'=>x.1,List.map_take,xr0 (b:=`q) ?_,q50 `l `em `y,xu0 `q `rZ `Mi,`kU=`c4,acc.length,λϑ=>`bb (acc++ϑ),`V<=100,λp=>`MR,(by exact`bpz),`I `l,`en deq,GP nm p,`an (n∈f),(by let#[e',J,rfl]:=`c2 he),[`eE, `mS],[`vw],(`h5 `Q `LS),(`h5 `Q `CX),(`MS `Z),λζ ξ=>`CY pb0 ζ ξ,(ob `ab9),(R7 `aL),(uc0 `aB6),λϑ=>vp0 (`jI `d_ ϑ),(oA `aB7 wk0),λi hi=>?_,["one", "other"],λζ ξ=>w70 (`O (d:=ζ) ?_ ξ) `h2,λζ=>W5 (yi0 (`Lo ζ `h2)),`ac δn,c∈nameS.cps.toList,n<=100,(`d2 n `ab'),[`CZ,`he],λζ ξ=>W5 ((ζ).trans ξ),[`CZ,s],(`cJ),λϑ ϕ=>`eB ϑ (p6 ϕ `ec),(W5 rfl),`aB8 `v!,.sh D',(by intro hT hl m s hm),List.reverse_append,
ix l a,ix ks k,by injection e,`D `kV (bs `aB9) (bs `MT++sg s),(`KO `kW `KP),(`v?:Int),`fS<=100000,[`wa,`aB'],p00 _ `oU,(by show `bpA),(`ab! `kX),.ow `MU,[lkd 0],`eb hd,(`MV),(by let#[k,hk,rfl]:=`MW),λv hv=>?_,L.Nodup,(`aa'),A ps i,`bF z,pd (kb r),.sh (`Lg),`MX j,`p (`wc),`bR sep,λζ ξ=>up0 0 ζ `b!=`c (ξ),`h `r_,`h `C_,λζ=>{ S with digits:=ζ },λζ ξ=>(by rw[ζ,`s,ξ,`s,t50,`s,sn0,`s]),`wd `cK,f `cc ds,`t [`om,vb0 (`dD+5)],`hT<=1000,[`ab?,`he],λζ=>`mT::`eo::`eo::`eo::ζ::_,(ja0 p S _),λζ ξ=>yv0 (δ':=ζ) ξ ?_,`kZ rfl,(`aca),[`aB!,`ve,`BP],`bn h1,[`c1,`K6],`MY+b%128,DL.liftT,`h (`MY+b),(`ba `aB?),[`c1,`ed,`acb],`hk=0,0<=b/\`MZ,(`jc S `C0),S1.wait.count `dj<=S1.un.length,`wd `l,b∈v30,λζ ξ=>by show ζ<=ξ;apply `r0;lia,[`ab?,.sh (`aCa)],trs l=`d,(`ak (N%128)),Bw.fold z,(R1.mp z).2,(by let#[l,hl,hm]:=B10.mp z),(by rw[`bpB] at hm),λ(k:Nat)=>`cS,(`acc),`aCb k f,S1.begun,(by simp only[`J,`be,`jh,`c']),(∀j∈B,`oV),(by let#[N,hN]:=h.pre),100000 - n,`fJ≠0,λζ=>by show ζ<=30;rw[`x];lia,(by show `bpC),I.held,`M_<30,λζ ξ=>∃S1,`d0 S (ζ) `acd/\ξ,(K2 I.wc),(`kd (`we)).begun,(by rcases `c7 hq with z|z),(by let#[c,_,rfl]:=`gC),`dI<25,ls0 `aCc,(by rw[he,`S,`ae] at this),`r1 `dJ,List.zip_map',(`Cu),λζ=>#[ζ,λj e=>nomatch e],p.1∈N9,Cl W L,(by have hN:Ws `vv:=`C1 B as),(by have c1:Cl `vv L:=(mh0 B as h).mpr c),`cI X 50=`d,web `vv,[`eJ,`k_],λζ=>by rw[ζ];apply `mU,Int.toNat_of_nonneg,`acg _ _ `l,λζ ξ=>#[(`aU:(ζ: Str)∈NN),Vq0 x ξ],[e0,e1].getD j e0,e.fl.find? `M0,`aa! (.sh (`r3)) (.sh q.2),fil `ck n,(l++`Mn).map,λζ ξ=>#[_,_,_,p6 ζ (J ξ s4 s5)],[`g',`eh,`oW,`oX,s4,s5],λζ ξ=>show ζ by have:=ξ;lia,[a0,a1,a2,`g',`eh,a5,a6,a7,a8,a9,a10,a11,.sh V],(`M1),(`M2),"is_whole","count_names",`wf `M3 1 xi0,"with_values",λζ ξ χ=>okN (k:=1) (G:=ζ) F ξ (χ) `ou,"met_but","relinked","brought","is_within","wanted_shapes","plain","shaped_pairs",λζ ξ=>`ar ζ `e! (n6 ξ),"is_byte","most_held","made_pairs","pack","item_bytes","known_head",
"name_bytes",Ye0 K mg "KINDS" `C2,"unpacked","bundle","part_bytes","held_bytes","value_number","numbered_value","wanted","part_at","part_starts","item_at","name_at",`fc `M4 `ach vk0,"same","_law_cell_at","_law_make","_law_book","_law_value","_law_part",λζ=>λcl s H ex=>z9 0 (`aU:(ζ:`e).Nodup),(`r4 Q5),(o4 `aci d8),"_law_told","_law_kept","_law_filled",(`fd 46 5),`acj `ack (spN K m),`aCd FnN,(`Ca q `a8 cdv),λϑ ϕ=>`dv ϑ=`z9 (`ag ϕ),h B δ,`kb `gl `N,dkv [] [] l,`a7 h,`C3 `Be,λζ ξ=>RpW ζ ξ B ns a as sos,`C3 `BE,`e9 ps L,(apos.endLine==cpos.line)=`d,(`M5 `abo),`h `oY,2<=`R,X.env.cells.lookup,.local,`dG[k]?,λζ=>RpN K H B as ζ v,`c3 `ia,by simp;lia,as[k]?,[.un],`u7 `aAd,`cs e `N,#[⟨c⟩],.ListComp,(`kv c l).d,xs[i]?,v=`cQ,wanted,bs `oZ,`iZ `aCe,RpNs,pos.line,(`vW `h),.Constant,λζ=>`aCf a [ζ] [b] pos,Same.refl,λζ=>by simp only[`s,ζ] at h,(xk0 `aCg),(`aCh),λp=>(p.1,p.2++[d]),λζ=>xd0 X `ef cl ζ s H ex,.dK [],(`vk),(·++·),"signs",`ag it,.nx δ,`KV `o_,EnvV.mk',put S k d,`A->Sem `A,λζ ξ=>`bpD sc `ef ζ ξ n `dF,λζ=>`acl (ζ:`d3).length,`f×HO,(`bpE),λϑ=>λx hx=>ϑ x `bg_,.sh `rO,S.digits,.bl `q,`bR pre,link `dD,"held",W.emptyDict,.ow ds,("__debug__" : Str),pq ps k,λζ ξ=>fs C c n s3 s4 s5 ζ ξ,λζ=>[`g',`bd,`eh,.sh K,`k_,ζ],Inv X `z σ' H' s',I1.hok.fresh,`aCi pr,b::`bG,.UnaryOp,Rp K H' B d v,λϑ=>λv H1 s1 r1=>ϑ,(`acR (`g3) pos),L2.start,by show `aaj;decide,F8.mpr,(xn0 ?_),`oc `M6,(pv0 4),(`bpF),"start",(`p `aCj),(`hk:Int),w=.cls,`cn++[w],sp0 S0 `cl `M7 (`i'),λϑ ϕ ϖ=>FnN P w K mg `aJ ϑ 1 ϕ ϖ,[`eE, `ok],"hold",`p (`bR [c]),shapes es as,by rw[w40],rs.length,sos++[`acm []],(`M' j).map,(`oZ:Int),bs `eG,(`o `abF),xs++[v],`m `M8,(`ak `M9),`M' `ji,xp0 [b],λζ ξ=>ζ pos `z s σ H _ I ξ,`uW=`bS->`aCk,`d1 `ae,getMethod,λϑ ϕ ϖ=>ϑ (t':=ϕ) (o:=ϖ) `b_l `bq ?_,(by delta RpN at h ⊢),λζ=>`k0 K H B as ζ so,(`hc).same s2,xs≠[],λkv=>`an (`aCl),gv0 `bT e,du0 `bT e,λζ ξ χ=>EnvV K `bg `bh ζ σ ξ χ v,
λζ ξ=>ζ ξ s u w (deq d e),xs.reverse,(`ag i1),(`ag i2),s.heap.IsListIter,xt0 ks k,jq0 `o0 H,partsOf,`V<=20,val fk fv n,(`bpG),(`bpH),[`bH `oA,`vY],λζ=>[`wg,ζ,`aCm,`aB',.un],.sh (`n9),vd0 ?_,.sh `C4,sp++[b],S1.ends,(`m `kF),`h (x%6),Gw.pj0,[`ok, `aaQ],(d7 2),λζ ξ=>∀{f fd},ζ->`me P9 w9 K mg b9 CX0 n f fd ps ξ,`acn x,λϑ=>`an (ϑ+`b_j+`b_k<30),SubO.lst,λζ=>Fun K x ζ st f fd,sIx `eL `eL hi,2*`bN,H l=`g,λζ ξ=>`Kz (`dA ζ p2) ξ [] pos2,.tbl ps,`aW H `k6,Rps.mono,DGet.k,"__name__",`n (`aCn),`aaF (`gz) j `oe,l.Nodup,m.length,.sh `aDS,(`o `C5),Want.fin,(mw0 3 4 5),"shapes",`aco - `M!,E3.mpr,at'.w.own,`acp+2,λζ=>#[_,ζ,rfl,_,rfl,rfl],λζ ξ=>by subst z;rw[ζ] at mu;exact ξ,`c (`fT o u),`C6 x=`ib,I.ok.bs b o e,I.base.slot,`r6 p hp,.Return,λϑ ϕ=>`H (`jz (`mY ϑ `N)=ϕ) Aa,I1.list,vs[i]?,xs.dropLast,Sum Int Str,Rp.mono,`c `v6,(q.mono g2).to,(gN i),(`d2 `eM xs),(l5 ..),(kV k),rel.length,(`bpI),λj=>`aDm,SeqAt.RcAt,un0 ds es,`A->Prop,rx.same,(`bpJ),δ'[j]?,ql0 ds,en.setN,r.2.2,λζ=>`C7 ζ (i:=0) rfl,.List [] lp,"pairs",Pt.row vs,`h (i*j),2 ^ 2500,bs (`wh),(`u_:Int),`mt `bO,fields.map,λy=>eqF y `rs,(gv 8),`c7 hy,T++[s],.ow `M?,(A7 _ hu),A ps x,[`rm,`eF],`m (`wK),`m (`aA0 `aBn),(`i9:Int),Gw.k70,`r7 `aCq,yt0 `eF,L - `dI,`p (`vQ),pre.isPrefixOf,(`Na S `Lc),(`c 1),.sh (`Nb),ok.held,λζ=>{ S with length:=ζ },(`aD7),(`r7 `ic),bun ps,`an (`C9),(`bpK),λζ=>(by obtain⟨C,hC⟩:∃C:D,C=ζ:=`al),`C' `ia,`C' (flp es),(`bpL),"numbers",[`ku, `r8],(top 78),(d7 8),λζ ξ=>tr0 (i:=ζ) hN ξ hd hcd,I.turned,I.mod.glob.keeps I.bk,`Nf v,λa z=>z.1,c≠i1,c≠i2,pyNext,(`Nh:Int),`dA x p2,m*128+d,(`C? `Ni),"root",`adC n,λd m=>hd d (A7 _ m),k==`Nd,ds.getD,(`bpM),fs.map `bO,`c o',`aCr C `L,L2.atI,`acr `kQ [e],`acr `r' [e],`acr x2 `gl,(putK kvs x.k x.v),s2.heap.push,(`aCx),`dB p.1,(`C!).map,`V - `cl,`bH p.1,(`k1).map,#[[u],[]],λζ=>∀l,`acq->`Nc `r9 ζ,#[`Ne,λi H2 x H3 g2 y hi=>?_,`Ne],(λ_ _ q=>`vO),J.w.hd,[`t [],`Ng],"__class__",L2.SubO,h.Ns1 dx mA,
∀f,RelO (`Ms f) (mA f),b=a∨`Nj,`c (`acs),env.cells.lookup,`r! x c e,(`v0 x c e),I.base.tbls,I.base.frzs,`ao L2.V,`hq a=`aF,`CL<=`R,s2.heap,`aB<=i,h.IsListIter,λζ=>by have I1:`act:=ζ,λb hb=>(`si).1,[`mZ],-(`Nk)<j/\j<`Nk,`h (i/j),`h (i%j),mA `fe,W.plainGet,"__init__",s50 f v fs,Str.empty,λϑ ϕ=>`aP `dZ A ϑ (ϕ) E s,e0.bs b o e,(`bpN),"__getitem__",`c `Nl,-`bm<=i,xs[j]?,eqV y x,SqL K H p xs,`h `bx,`h `kq,x=`kl,λζ ξ=>(nj0 CX0 P w K mg `aJ N `fK `u5 ζ ξ A `dK s H E).nox,λζ ξ=>`me P w K mg `aJ CX0 ζ f fd ps ξ,N'[n+k]?,caps.map,(`wi).join,`c `Da,λζ ξ=>∃m',m'<m/\W `dn m' ζ ξ,`wj `r? `bJ,(·.length),`ry fd,`wk/\`bi,q.mono g,`acu g r,λζ=>∀{l:`aV} {m:`sa},ζ,`m fs,λζ=>∀(k:Nat) C dx fs,ζ=`rQ->k=0,RpD K H B ns a,`fT ob `kJ,(`bpO),(`bpP),`Ds H vs,`jj σ H,Gl X `v2,λζ ξ=>ζ `bg `bh δ `z s σ H D I ξ,(b1 a z),`sb=`o1/\`Nm,us[i]?,bs.map V.bl,.bl (bs.all id),λζ=>(by let#[#[cls,dd,data,sl],ho,hc,n,hd]:=ζ),λvs H2 s2 r2=>?_,`aB+`bx<=`R,dictSet,ks.map kV,e.at hi,∃(i:Nat) (d:D),`aCs,(`ac9 s1),m20 (i:=i) hN hi hx hf,2 ^ 40,its.toArray.isEmpty,λζ ξ=>by rw[`cm,← ζ];exact ξ,scanBound,(`aCt),not_or,rr.mono,`t `aCu,isSubtype_type,λζ ξ=>`bpQ `hO w ζ I fp wr G ξ P St,"__length_hint__",Builtin.List.listExtendWith,(k8 _ _ (C1 hb)).trans,`acv hp,DGet.t hp hb,λζ ξ=>FunV K x `fK st ζ ξ dV,λζ ξ=>i20 (E:=E0) F `Db hg hm kp hb ζ lj0 ξ hdb he hpl,xs[k1]?,List.forIn_cons,`aax=`g,`mW->`mz,·.push,`kz `Dc,λζ=>`H (ζ ≠`acw) Ab,tx0 as ps,`c `Nn,d.name,`V - i,(`bpR),ps[i]?,(`c3 `aCv),(`Dd `aCw),(I.ok.hd `NU),(`fC h1 J),L5 qp0 _,E5 g30 ?_,vw0 [] [] ds,ys[j]?,kvs.map,(`cW `o2),xo0 pr.1 q,(by exact λz=>nomatch z),(q10 l),(B4 z).symm,us.drop,(`bpS),ns.set,J.w.node,(wj0 (ho.go B δ)),`n #[rfl,xs,`acx],(unL ns).bind,(et0 p.1).bind,`p c',(`aCp),en.mutB,k=`h!,(D1 _ z),at'.w.all,(`bpT),`kb [`acy] `N,(`bpU),(ns++[`mC]),r.2.1.length<1000,(`bpV),("" : Str).cps,λϑ=>∀{l m:ϑ},`b_v,.sh (`wl),`c `ov,`bb (`aCy),`m `aCz,`h `aCA,`De (tx p),(`bpW),
`o3=`d,(`aCB),(`u c),wt0 g1 g2 δ,λx:`j'=>`aBh,(frz _),ks++[k],(`sc).1,(`bpX),(`bpY),(gv 7),`h (`No),(`ak (a+`aC)),(`ak `LT),λe=>`bH `aCj,(`ak (a+`eG)),λζ=>w90 `wm PAB `bpZ ζ,Nat.min_eq_left,Nat.min_eq_right,`dC::`fH,.sh (`Np),(`c3 lp),λζ ξ=>[`bd,`k_,`acB,ζ,ξ,.un,.un],(`acC:Int),(x::T),h v A8,(`bp_),`bb (nd o),(`dB s:Q3),`V<=60,W.reverse,`bE (`fS<=_),`c `Df,(`bp0),o.map `aCC,`kN (f j),`ac!=`aDy,q.2++[d],λζ=>g10 (es:=ζ) rfl,`m (`aAF `aCD),wd0 rfl,λϑ=>`X (`m (wd ϑ)) `fP rfl,λζ=>am0 ζ `az `az n hn,(`jk (wd ws)),`bp1+3,`c (.ct δ'),`c (.bk δ'),words A k,vb0 (k+5),`m (`wn),(l++[d]),`mV/4,λζ ξ=>{ S with length:=`ff,spelled:=ζ,count:=ξ },(`fH).map,`M_<=30,`acD::ws,by show (`o (`vz _))<30;rw[`x];lia,λζ=>(by let#[w,wr,s1,s2,s3]:=stage p `aCc (`aCE) (`wo hp) h0 pre ζ ds he),S2.ends,(`bp2),ll0 es as c,eff l fl p.1,c.len.2,B.fl.vb,this.gq.few,`n ?_,web (`Dg),Gw.rw0,Bw.Vg0,(x/5+`acp),J l hl,en `oF x,λζ=>w90 `acE FB `u3 ζ,λζ ξ χ=>[`oX,`eh,.ow (td `aCF ζ),ξ,χ],h.ce e he,.sh BN,[`ee, `acF],"_law_names","_law_value_here",[`k2, `aCG, `Nq],"whole",[`oi, `h6, `aCH],λζ=>#[f,fd,o F9,`aCI,`aCJ,ζ],s1.toks,(Y2 _),`Nr s',`p e.n,I.base.keep,λζ=>λcl s H ex pins s' σ H Q I #[B,δ,h]=>ζ,(`bqh),(`bqy),(.sh M),(`bqz),.Slice,Txt.startswith,(`c st),(`aCM).1,(`aCM).2,`p `o6,(`bql),`p "ff",`p "c1",(`bqx),`id e,(`bp3),I.ok.glob,(`bp4),`a7 h1,`a7 h2,λζ ξ=>ζ `z s2 ξ H2 _ I2 q2,λζ ξ=>by rw[ζ];simpa using ξ,Txt.join,(hi B δ),λζ ξ=>`uO X.K ζ `bh H' σ' ξ,`bp5 e,λb z=>?_,#[a,rfl,hb,r],en.same.trans,λj ds a h1 h2=>?_,λζ=>by first|exact ζ|rfl,D.l2i1,λζ ξ=>dn0 (v:=ζ) hg hm ξ hd,λζ=>k l _ `bp8 `bp9 ζ,`bm - 1,λζ=>λb hb=>`bp' id ζ,(`bp!),λζ ξ=>lq0 ζ `z s σ H De I ξ,`acH #[A70,E8],`cr `o5 .un,(gN 1),(`bqc),(`bqd),(`bqe),(`bqf),(`bqg),(`bqi),(`bqj),(`bqk),(`bqn),(`bqq),(`bqr),[`bqv],.sh (`p t.w),List.take_of_length_le,(`o `Nt),Bt.aa0 _ _ `E,λζ ξ χ=>j4 (x:=ζ) (y:=`h ξ) rfl χ,`p "i0",λp=>(`Nu).d,(`bqC),
(`aCK==0&&`Dh==1&&(`acG)==`eL)=`d,`k (Y b n) h,λϑ=>`D `aCl (`kL,ϑ) kv,λj k a ds es h1 h2 h3 h4=>?_,(`bp6),A7 _ A8,`Ns s'.gens,`o4 `a8 s',(`bp7),H p=`Lk,(`bp?),(`bqa),vb0 `jf,PartAt,`cV dk=`d,`acI b q,`vW `de,(`bqb),(`aCL).1,λζ=>fnN 0 `sd ζ sf0,`k3 - i,(`bqm),(`bqo),(`bqp),[0,1,2],(`bqs),(`bqt),(`bqu),(`acJ),(`aCN),[`bqw],`bn `az,`c8=`Di,k40 `bv W7 `cc=`d,r.app r',(`bqA),(`bqB),(j9 `r5),λζ=>p7 A0 rfl ?_ ζ ?_,as[j]?,`V<=`R,λt:Itm=>`bH t.w,(ds++W),operate,P.zip vs,isSubtype,(by let#[hh,gg,dd,tt,oo]:=s),(by have z1:`aCO `e2 `B0:= #[_,e,c]),λq=>e (P4 q),(by injection e with e1 _),(`acK `e7),TriplesOk,cont.toList,`c cv,λζ=>`se/\∃(its:`am) (n:Nat),`wp/\ζ,H dx=`oG,`Nv<=1000,`aCP `o7 a,o.ExactDict,`sf=`Nw es ep,es.toList,∀a b,`aCQ,∀b,`Nj->`hY=`oG,`c (`aCR),`hl<=a,(x b u e).stay,Mut (H x),e=x∨H e=`aCS,∃u,`fQ e=`bS,`c (`go y),`acL r mu,`c (`aCT),λζ=>∀b o,`mW->`dp->ζ,∀b o u,H b=`acM->`hY=`acM,k b ob q,λζ=>λb ps q=>#[⟨⟩,by rw[ζ,q];simp],(upd H x o),K.In `aJ,builtinsNs,`aCU∨`acN,X.env.globals,`Nx=`ib,X.s₀.heap.get? b=`aF,`ao (`ep),s.heap.IsCell,(`acO).1,(by let#[_,o,ho,_]:=I.ok.funs.mem hb),λζ=>by rw[ζ];decide,I.stkSub,`aCV/\`wq/\`aCW,`mX H' h',(`bqD),(by let#[sl,e1]:=`Ny `acP n),(by let#[m,hn,hl]:=`jl),(by let#[e,n,ne,nf,d]:=`acQ),`aW H `sg,k b o (λz=>hc `aCX) e,o.slots,λ_ _ e=>e,(`bqE),λb u e=>?_,∀b u,`aCY,σ'.length=`wr,λζ ξ=>#[ζ,I.os,`k4,`aCZ,`jl,`r!,`k5,`v0,ξ,`bT,`hm],(by let#[m,hn,hl]:=id `jl),(`aC_ `Nz),`kk (C1 hj),(`aC_ (`aC0 x c Y hc)),s'.os=s.os,V->`ke,(`bqF),#[v,H,I,r,h],(by intro pins s σ H Q I hw),(`bqG),`H (∀whole,`aC1=(do let v ← whole;`Mt e.pos;`mM [v] (truthy v))) Ad,λϑ ϕ=>`db t λc H1=>`D `akR ϑ ϕ,(`bqH),(`bqI),c=`d,tb σ H1 Q,(by let#[c,rfl,q1]:=q1),(`ba `bqJ),r.inj r',H a=`i?,λζ=>∃its:`am,`wp/\ζ `aY a `bj/\`se,(by let#[σ',H',I,q]:=h),(by exact`bqK),λϑ=>`iw (te σ H ϑ),λζ ξ=>thn ζ λv s1 #[x,H1,I1,r1,q1]=>ξ,inplaceOp,`mY es `N,λζ=>`H ((ζ).findIdx? `bO=`g) Aa,PE X o to,(`bqL),
`aC2 [tg],`H (`aC3 [tg] e `N=`sh) Aa,`acS [tg] [`ie tg `N],(`bqM),Int->`aC4,λζ=>∃i j,`NA/\`aC5/\Q ζ H,(`Kx r1),`Md H',Nat->`Dj,tn i `aY,J.go i H,(`bqN),`aW H' s2,J.yld i H x H',J.stop i H,λζ=>λi H x H'=>H'=H/\ζ,`h (lo+i),(by let#[o,e,c,d]:=st),(by exact`bqO),(by let#[xs,x,hq,hx]:=hg),(by let#[u,hu,ru]:=rv.get hx),(`bqP),(by let#[o,e,c,d]:=id J),λζ=>λ_ _ _ _ _ st h=>ζ st h,`acT hq,I1.tuple,(`ws `aC6),`k7<=j/\j<`e_,`ax e,PI X tg `j? wi,(`bqQ),I7.unpinned,λζ ξ=>T.keep _ _ _ ζ λb hb o e=>ξ,(f v u),Int->Int->Prop,λζ=>∀(i j:Int) (t u:Tok) (s:`v) (Q:`aK) (E:`aK),ζ,H20 x y=`d,λζ ξ=>`an (ζ i=ξ j)=(i==j),(`Bm `Dk),λi j=>`ig (i<j),λi j=>`aC7,λi j=>`ig (j<i),λi j=>`aC8,`K rfl h,ObjM `aY x dx C mA,W.hasDictIn K C=`d,getAttr,(by let#[od,J,hl]:=I.look),`aC9=`d,λζ=>(by have hb:(g==ζ)=`d:=W1.mpr h),(by rw[`bqR]),e.trans,`wt K `gx f,`Ms f=`aX,λζ ξ=>`bqS (v:=v) (o:=ζ) ξ,I.write,B9 (f8 _),`cs e env,(`bqT),λζ ξ=>by have:=ζ;show ξ<_;lia,Around.under,Code.isFrame,(`bqU),`aC' A,e.frames,λb z=>`K z `az,`o8=`V,(`df `bqV),`e1 `hn::us,`acU=`aX,λ_=>`d,b∈([]:`aw),`vp `aBF,(`bqW),`c `NB,Nat.le_total,Builtin.Slice.slicePlaces,λζ ξ=>A1 (O0 M J (x:=ζ) rfl ξ),λζ ξ=>(`bc ζ).filterMap ξ,List.filterMap_map,tupleItemsOf_,evalPart_none,wpAny_Slice,(`hR s3 (s3.heap.push (`aC! `a8))),(E00 ..),subscriptTail,`t `NC,(by let#[its,r1,p1,_]:=`mK ha),`I h1,`ap h1,`ap h0,IxR X r,(by intro value slice pins s σ H x y v u Q I rx ry h hs),(by let#[its,r,pl,hz]:=`sj),(by let#[j,h1,h2,h3,h4,h5]:=Zz0 he),-(`MI:Int),`o9 lo hi `g n,slicePick,(`bqX),(`bqY),(`bqZ),(`bq_),ol0 x=`d,(`cW `v8),(`aC? `sj),(`aC? `Mv),`c (.dT kvs),typeOf `Nl=`bD (`cR "method_descriptor"),MtR X id r,`wu `fe,(`bq0),(`o `Bg),acc++its,s.heap.update,(by let#[u,rfl,ru]:=rv.one),(by let#[z,its,n,r,hl,e]:=I.lstM hH),#[_,e,rfl],(`m `acV),Nat.succ_mul,OpenLaw,l.most=`ND,.list `aaE,l.row.toRowW,λζ ξ χ=>`bq1 _ ζ ξ _ _ _ χ _ _ _,(by let#[oc,od,kV,doc,pm,an,cdv,ct,osl,rfl,lk,hcd]:=F.ex),x.cps[i]?,
N'.length,Str×`aBE,`NE y=`eX,x.2=`kc->∃c,`NE x.1=`eX,Eq.trans,λ(n,k)=>`D `aDa (n,`Dl) `Dm,`I hc,`wi=`v_,Nat->Nat->`NF,W i m ys H2,newList [],(`m_).2.1,#[?_,?_],`ao (`acW),(`d4).bind,t=`d,λζ=>fun δ=>`bq2 λitems=>ζ,w90 f G `bJ δ,`i->`q7,`bs (i=j),sIx `aB 0 lo,`v7=`wv,by simp[hp],`NG=`eN,`c (`aH h),`NH=`aDb,(`o `b1),`o'=`fV,by delta v7;rw[h],`aA=`eN,.dT `rL,(`ww).map,oC.data=`q! `Dn,`bi->Rps K H' B' ds xs,xs++[x],s _ _ e,(by let#[xs,e,l,r]:=h),RpNs.mono,by apply `abR;exact `acX g h,so=`dx,`ei g `NI,λζ=>lh0 (λ_ _ r=>ζ) `NJ,(by exact`bq3),(by let#[x,ns,e,r]:=h),∀o xs,H a≠`NK,(by rcases h with⟨d',q,r⟩|⟨ks,vs,q,ts,xs,q1,e,q2,r⟩|⟨x,ns,e,r⟩),m[i]?=`ih,l.set i a,`c6=`acY,`NL `k8 h,Rp K H B dx x,(gc `ho),fun σ H Q h=>Zh0 hf h,`H (`Do) Ah,(`bQ `bq4),k _ H' s (`Dp h xz0),(`aaI `wx),(`aaI (`ap hl)),`n yb0,`Dq (k v H' (`mo s) r),FnR X.K r f,λζ ξ=>`me `dT X.w X.K `ct `fL CX0 k fa ζ ps ξ,(vs++[]),∀a,`n6->NB (`bg a),`bg p=`g,PSD X st G,`rf s',λζ ξ=>ζ X `bq5 (ξ gt Ga Gb),Gr H₁ H B B,λζ=>PID X tg e (ζ g),(`bQ `bq6),(by let#[a,xs,rfl,q,rs]:=r),(by exact`bq7),(by let#[x',e4,r']:=rs.get (i:=i) (d:=_) (C9 hi)),y xs `acZ,(by exact`bq8),#[xs,`acZ,`NM],(`bQ `bq9),`NN hlt,`fW hlt,(`ba `bq'),hS.trans,`a7 z,PDF X `oO `NO,`Dr tDT X.K gt,`Dr tD X.K ge,(`bq!),(`bq?),PD X `oO `NO,λζ ξ=>ζ hc hsc ξ hidx hi hg ht he hs,PSD X `aDc (z00 `ac_ `NO),(by split at h<;>cases h),`ab x `fK st,∀ds d,`NP->`aDd/\`aDe,(by rcases (`LP).2 with e|⟨rfl,δ,e⟩|⟨e,hn⟩),(by exact`bra),(by exact`brb),(by exact`brc),(by let#[a,xs,rfl,hq,_]:=r),λζ ξ=>show `g7 `dT X.w H `aY a ζ from ξ,`kb [`NQ] `N,Decidable,`MO `B2,p2.isList,eqS dx dy,`n `fg,`u `fg,PD X o g,`acl [e].length,(`brd),`m0 (C1 (B9 hb)),(by let#[fa,fd,F,hm,kp,hb]:=C),(`wy).bind,(nt0 s),(`k9).bind,(`k9).map,(`sk).bind,`wz=`d,λk=>`aDf,un0 xs ys,deq x y,Nat->`aj,#[`wA `jm x.cps],`k7<=n,`t `ac0,cutD xs lo hi,(`BI `aDg),λζ=>`bre ζ ho hd `ac1,List.nodup_append,(by let#[y,hy,rfl]:=`wB),`dw `ac2 u,
Option.isSome_map,Rd H a `Cr,upd H a `aDh,λζ=>∀w' s',`NR->`dw ζ w'->`brf,∃q,`fQ a=`KL,`dw v r,(by have hz:`c8<=`R:=`bk `ac3 z),by let#[q,_,_,hq,_]:=J;exact`aDi,dc0 I `ac4 hs he (U60 hl hd (rel.put k rv) J),PE X i ty,call_meetsIn,ih `fX,λζ ξ=>`cu (λ(o':`ep) (s:Sl)=>SlR K ζ ξ o' s∨`brg) σ δ,`n `sl,(`ba `brh),(by rcases `h8 e2 with⟨rfl,e3,_⟩|⟨J,e3⟩),`m1 b z,zi0 `w,en.same.free hp,(`ba `bri),DL.fz d,`n `aDj,(λo h=>h),λζ ξ=>`c { cls:=ζ,dict:=`g,data:=ξ,slots:=⟨⟩ },Array.size_append,Bool.and_false,(by let#[a,J,hb,xs,hx,rx]:=`Dt),`n #[rfl,xs,`n (`n hx)],s1 _ _ hx,rx.length,`mY `aDk `N,`kq*`jm,Bool.or_eq_true,"tuple.__mul__",`fO l=`c { cls:=`mu,dict:=dd,data:=`aDl,slots:=sl },items.isEmpty,`wA `eM `bJ,beq_eq_false_iff_ne.mpr,(`eL:Int),`hp*`eM,`wC->deq d d=`d,by delta deq;simp,by delta un0;simp,`cI e m=`d,Rp X.K H B' e y,λζ ξ=>ζ (e:=`ac5) p p' hu ξ,`ac6 A s _ _ (`ac7),(by have s1:`hp=`b2:=by rw[`cm,← `aDn,`a2]),(by have s2:`brj:=`brk),λζ ξ=>ζ (e:=`ac5) p p' `brl hu ξ,beq_self_eq_true,Bool.and_true,`Bo+64<`i1,`ii `k' `o! hz,(`abT).same s3,∃y t,`aDo/\v=`Du,`Dv->`Dv->Prop,Nat->`ac8,`aDp `dn,W.frame,`kB ?_,`m2 `eV,(`ws `Dw),λϑ ϕ=>PE X ϑ (`db te λv H'=>ϕ),(`brm),`sm ds,tree d=`d,`I ht,oA `Ci xh0 δ,∀i s,St i s->`rV `NS `MJ,its.reverse,(`ws (`kz _)),(`K1).map `aDq,(by let#[x,r',rfl,h1,h2]:=r),m60 e3 r2,(by cases y<;>simp only[xu0] at h<;>try cases h),m60 e3 r1,(by let#[b,rfl,hb]:=ab0 e3 `NT),pr.1.length,λζ ξ=>Ya0 (q:=ζ) (v:=ξ) hl,(`aDr),`gy i (`sn (`aDs) `ac'),`Ca `fK dV cdv,`LQ h' `d,`CN h' `L x y,(`brn),(`bro),λζ ξ=>ζ _ _ c3 (`Dx _ _ c1 ξ),#[_,hz,rfl],lo<=z/\lo<=TO/\lo<=i1/\lo<=i2,`h!=`CP,(`fC h tk),(C8 hj),by apply `r0;lia,"tuple.__new__",#[[`mu,`uX],[]],#[_,`e7,rfl],no0 H l b,ih `aDt,(by rcases `Ni with rfl|h),`k (J c `aDu) q,`h!=(`o (xs.zip ys)),H t=`g,(by split at h<;>try cases h),k b o hc e,(by let#[#[old,he],h1]:=st),(s1.mono g2).to,`gr `ij=`c `so,λζ ξ=>ζ ξ hg hm hv `aDv `E `E he hpl,λv H3 s3 r3=>?_,
(`c9 hj).1,of_decide_eq_true,WData.weight,`mY `aDw `N,H x.p=`c (`t [kV x.k,x.v]),M _ _ hl,(`brp),(by injection he1 with he1),decide_eq_false_iff_not,`bx<64,`sp ks,But a H H',`MD `m3,`mP=`g,T20 K=`d,∃B2 J q w,`sq X.K H2 B2 f J/\`aDx J,(`brq),up _ _ (h1 _ _ z),TQ H Pt q,s₁.heap.Ns,`Dy `aJ c0 Pt,(`brr),`Dz b=`aF,`q_ `NW,un.tbls,un.keep,A7 _ (ih h),(by rcases (all _ (q10 lc)).1 with z|z),H c=`oG,#[_,e],`NX H a sub c,SubO.no_tup,λζ ξ=>(by obtain⟨_,all⟩:`brs/\∀p∈ζ,`brt:=`bT a _ ξ),λζ=>fun σ H=>∃sub,`sr/\ζ σ `ss,(by let#[σ',H',I,sub,c,k]:=h),(by exact`bru),j<=`b2,G δ=`fV,∀p,EndB G `wD j p r b',ev.same,rv.mono,`aDz=`aDA,(`brv),by delta RpN at h;exact h,`ac?=`d,by delta RpN;exact h,`v9 `gX,(`bQ `brw),λζ=>(by let#[k',c,so,rfl,f1,f2,f3,f4]:=ζ),(`MM `MN e5),`ac9 s2,λζ=>`ada b1 b2 env ζ at' f1 f2 nk `aDB (d:=`y) (v:=`y) `st,(unL p.2).bind,`c (c,f,e),pn0 `DA `adb f,PD X `gD gv,`su `gD (`c (`aDC)),λζ ξ=>PSD X `brx (ζ i c f ξ),(by let#[so,Y,nk]:=`adc J.w.all),`h (n1+n2),(`MO rfl),J.w.backS,sos[0]?=`rQ,`H (Vis `u! y) Ae,`H (`aDD) Ab,`H ((y==`aDE)=`q) Ab,env.mutB,`ei g l,[ke,`add],(`t `aDF),(`aDG `NY),a4 b hb n,by rw[rq0],λζ ξ=>PS X ζ (λD σ H=>∃H₀ B₀ δ dp δ',`bry/\mx0 i ξ dp δ=`wv/\`brz),λϑ=>`W1 (`W2 `aBZ ϑ),pe0 ns d,x.2 p hp,[.fn (rk `fh) es,`gz],up _ _ e,nk0 H' c,h.Ns `hP mg,`aav elt [#[tg,`j?,[],0]] `ef lpos,λϑ ϕ=>`boI λr=>`D `b_r ϑ ϕ,λζ=>.mk λH₀ B₀ δ=>ζ `DB,(by let#[q,e2,e1]:=`dL),λζ=>λb o e1 e2=>ζ b o e1 (no b e2),a5 b hb n,(`brA),`DC hb,(`DC z),λζ ξ χ=>`aDH (ζ).1 (ξ).2.1 (χ).2.2,`o9 lo hi st `aB,`DD (xs[·]?),(`sv:Int),`hQ _ ps,(by let#[h1,h2]:=E3.mp h),hs b (`DE),(by rcases `c7 `w with q|q),`DF (`jn),`K hb h1,`DF (`u q),(by simp only[`S,`ae] at this ⊢),λa ha=>?_,(`brB),mkN 1 nq0 m00,(R7 `Q),(`brC),(`brD),(`brE),(`brF),[`gi, `m4, `ade],mkF 2 sd0 s70,.sh (`adf).d,xm0 `ho `NZ=`c (`adg),`DG+`N_<=`R,(`brG),(`brH),(`brI),[`iW, `wE, "rest"],mkN 1 ti0 tg0,(`brJ),(`brK),(`brL),mkF 1 nz0 n90,(`brM),
mkN 1 sz0 ss0,(`brN),mkF 1 sa0 sb0,(`brO),mkN 1 rc0 sv0,(`brP),(`brQ),[`gi, "items", "pair"],mkN 1 rf0 rh0,(`brR),(`brS),(`brT),(ps0 2),(`Bc `brU),`h `wF,z.natAbs<`adh,2*`uR+1,(2:Nat) ^ 300,`eG<=`R,`Lf `ji,p00 _ `DH,`adi++tx p,`h `adj,`ik<=20,`h `aDI,(`brV),`o? (pb p),`k!<=12,`eb hm,`q4 pb,(h.it p hp).gp,List.range_succ,c∈d70.cps.toList,(`brW),(`brX),(`brY),(`brZ),(`br_),(`br0),(ps0 3),(`br1),(`br2),(`br3),(`br4),[`ade, `aDJ, "fills", "had", "first", "others"],mkF 3 tm0 tj0,[`ee, `acF, `wE, `gi, "shape"],mkF 2 ng0 nv0,`k!<=20,(`adk).Nodup,xy0 ks vs k v,(`br5),xor `d ((`adl `bH).any `adm),`aC<=20,(ia0 e),yz0 `e8 `kw `h3,(by let#[n,_,rfl]:=`gC),λζ ξ=>w00 (items:=ζ) ξ `em ?_,get_find,λζ ξ=>(F8.mp ζ).2.2 _ q _ ξ rfl,(`br6),`c e.d,h.ge e he,(by rintro j d δ hj ⟨s4,s5,rfl⟩),(`aDK (`N0) `aDL),p6 ?_ rfl,(`oT:Int),shp es x,(D6 hk),(by exact`br7),`N1=`i7,(by rintro j d δ hj ⟨s3,s4,rfl⟩),`k!<=1000,(`br8),acc++(`Bz).pnames,`c `Bj,xr0 (b:=`d) `iV,by simp[`cI] at h,λζ=>∀l:`_,`br9->ζ=`d,(by simp[`ia,`cI,`ej,e]),λζ=>∀{ks:`a1} {vs:`i},`wG->ζ,`D (k=q) `aX `g,`br' e,val `DI `DJ n,ig0 hf n,deq `N2 `N3,by rw[h],(`br!),(`br?),(wu0 2 `BZ),(`bsa),(`bsb),(`bsc),(`bsd),(`bse),(`bsf),λζ=>`CY Zs0 ζ `cT,λζ=>`CY dz0 ζ `n5,(`bsg),(`bsh),(`bsi),(`bsj),(`bsk),(`bsl),`c kv,es2.size,(`bsm),p.length,(`bsn),(`bso),(bh0 1 `dz),(wu0 5 `n5),(`bsp),(`bsq),(`bsr),(`bss),(z8 `adn v5),(`bst),(`ak (a+i)),`h y',[`bd,`cJ,`g9,`aDM],`h `aDN,(`h `aDO),(val 0 l:Int),λϑ ϕ=>(by obtain⟨l,hl⟩:∃l:ϑ,l=ϕ:=`al),l.getD j 0,`g_+`bN,λζ ξ=>td0 [F,`iS,ζ]=`c (`t ξ),`t [`N4,`aDP],λϑ=>`jC fq0 (`bZ ϑ),`ao Itm,`sw `aBu,held.length,ht.right,Nat.add_assoc,(`bm).toNat,(`pa+2*`cS).toNat,`ap `l,`c3 `aDQ,`c (`cb _),λϑ ϕ=>`YB (t ϑ _ _) (`Yv ϕ),.sh (`sx),λζ=>f ζ `i5 _ _ `bf,#[`mn,v,`N5],wnt `rG `vU,λζ=>λq hq=>ζ _ `wH,(`u `CU),`t [`N6,`aDR],(by apply `DK `Cf),.sh (lp p),[F,`k_,.sh (`t [`gz,`h c]),s3,s4,s5,s6],r.Nodup,hT x A8,(by rcases `ado with z|z),`DL p vs,
(by rcases h.lv v hv with rfl|⟨z,rfl⟩|⟨j,rfl,hj⟩),λ_=>`n',xo0 `N7 `sy,(`bsu),List.getLast?_concat,Nat->Prop,`m (nd (`m5)),λζ=>∀{c:Nat} {o T r:`j},ζ,[`d5,k,l,`bb (nd `k?),`aDT,`wI,`kh],ms W k l U `k? (`m5++T) `oB,(by rcases H i hi j hj with q|q|q),(nd (`aDU)),(`aDV),List.range_eq_range',(`pb `bN:Q3),`kW∈B,`bZ `fX,(`N8:Int),`wb `g8,wr0 (by rfl),(`ab! (.sh `y)),(`ab! `dX),`D `kV T `adp,[a,b,c,`adq,e,`wa],λζ=>[a,b,c,.ow (pd ζ),e,`wa],(o++`sz),λζ=>`fR (d50 ζ rfl),`aDW `hb,b60 p _ (by rw[`x]),(by let#[u,hu,rfl]:=`c2 hv),Dfs adj [] c o T r,Yl0 hw hi,(m.lt y hy),DL.putAt,[W,`iS],`c (`L9 `N9),#[.un,.un,rfl],ih λu hu=>hl u `adr,(`bsx),hx.resolve_right `az,(`bsy),nd (`ads),dd ps `k?,p90 `aDX,`ao (`il),(`d2 n `adt),a::b::r,(a,b)::`h4 r,`c (.rt d δ'),S.begun.getD,λζ=>`mT::`adu::`bsz::`adv::ζ,`h `adw,(`o `wJ),(`hT:Int),`kx<=1000,(`LE).set,`adx _ _,λζ=>(ζ).reverse.map `BS,λζ=>pb0 0 `bv ζ g `b!,(`ady)[k]?=_,[`c1,`kp],`c `C4,`wd cv0,{ q20 S with un:=u },`id hw,[`c1,`vJ,s2,s3],`ax J,(`o (wd w)),[`om,`fP],[.sh (`mD),`he],(`aDY).flatten.length,λϑ ϕ ϖ=>`qQ (`bL ϑ (`AB,`oS 0 ϕ (ϖ) _)),`i9<=10000,n<=`aDZ,`dD≠60,`dU=`eF::ws,(by rw[`bsA]),vn0 `cc `pc,`aD_=`m6,λζ ξ=>ex0 S ζ ws hw b p _ _ ξ,(by rw[`aD0,`bz ((`mn: Str)=`adz),mj0,mj0]),(`aD1 hv),(fz0 p S _),trs q.2=`d,`aD_=`la S1,S1.wait.length<100000,`bsB a,[s0,s1,s2,`aD2,`g9],`ow (`N'),(`ak (36 ^ (`adA))),`u' - `aD3,[.sh (`adB),`rt,`DM],`an (`Bx=L),w::`aD4 `ik,sub_len',`kx<60,(e60 p S _),`hk<=8,left `cn `hk `wL=`d,(`N! `adD),(xp0 w),`o9 (`c 0) `g `LD n,`o9 `adE `g `LD n,`N? (`wM),`aa0 hd,`c2 hq,[.sh (`mD),`adF],(by let#[q,_,rfl]:=`gC),λζ ξ χ=>by delta wt0;rw[`Oa (ob `aah ζ=`br),`Oa (ob `aAj ξ=χ)];rfl,`ic (2,`b5),`ic (3,`b5),[`c1,.un],.sh (`t `wN),`cn[`aD5]?=`c nm,`vL->∃k u q,`im/\`lb/\`Ob/\xp0 nm∉`wn,(`ak (2*b)),#[c+1,?_],{ S1 with digits:=`jo },λζ ξ=>∃c,`d0 S ζ (`rD ξ),λϑ ϕ=>`awG (bs ϑ) ((`jc ϕ c)),λc=>?_,#[`DN,`Oc,`adG,ok.wait,`aD6],`Od hf,o00 th rfl,sp.length,
(`jc `sA c),(`adH `ff),`cr `aC `lc++ws,(by rename_i B T j ds B1 B' T1 T' b1 b),(∀d∈ds,`pd),λh hd=>`aD8,(`sB J).2,(by let#[n,h1,h2]:=`aD8),(`bQ `bsC),(by rw[`aZ (n+1+f=(n+f)+1),`be,← h2 f W]),`I hj,`ap hj,K22.sub_len,(`bsD),(`sB hj).2,Pk ps [0] [] (`Oe) L T b1,`Of=`aD9++b1,(by rcases hh with⟨a,b⟩|⟨a,b⟩),(`Og).drop `dI,`K rfl ht,λs=>`e6,I.okS W,λϑ ϕ=>Aft S (`jc ϑ c) k ϕ,`cl::`cE,(`abu).begun,`wO `fB,λζ ξ=>(by let#[S',r',D']:=ih S1 k u ws p (pre++ζ) I1 hn hB ξ `bsE `bsF hp h0 `adI `bsG),(by let#[M,hM]:=hL),#[M,hM],S2.begun,S2.begun.length,(by let#[q,hq,rfl]:=`gC),`t `adJ,List.getElem_range,(`r1 `aD'),(by let#[h,e]:=gt i hi),(sub i hi),dk0 hw c m,(`Oh).1,Z20 hf n,ru0 hfv,(`k1).Nodup,`c7 hv,`c7 hs,(by let#[q,hq,rfl]:=`MW),(`DO `h),pb ps[k],lk (`adK),λs hs=>?_,`c2 hs,nr0.mpr,λe:Ent=>`adL,`jp<=7,`ld p hp,`e9 `DP L,(Yt0 B),web `DP,λζ=>vq0 [ζ,`b']=`aD!,`c (`aD?),q.length,`e9 `adM L1,(by obtain⟨S,hS⟩:∃S:D,S=`sC:=`al),`aEa+23*k,`a3/\`CB m.toNat v,(by rw[`bsH]),Int.emod_nonneg,(`bsI),(`bsJ),(m9L _),λs hs=>(by cases hs),u00 0 9,`h (`Oi),(by rw[`bsK]),`h (-5),(fl4 x).map,(`aCi `bO).Nodup,(`bsL),List.mem_nil_iff,en (two.getD k "") x,(x/1%(`Oj:Int)).toNat,(x/2%(`Ok:Int)).toNat,(`Oj:Int),(`Ok:Int),(`bsM),λζ ξ=>`dy `bsN (xy0 `wP ζ `h3 ξ),td (`aEb) N9,(by apply `adN `kt),ki0.mp #[e,he],`an (`Ol),`ej `wQ 50=`d,same rfl,`t `aEc,`fh<=10,`c (`h `aEd),(`o `adO),!`bsO,(l++[q]),(`bsP),web (`adP),λζ=>web (`e9 `DP ζ),`m [al M,al J],(`bsQ),`ar N ps sc,`aaX N `aEe,`mx (PGD `adQ tg (`ww) f),`mx (PFD `adQ ifs gt),`mx (PD `adQ elt ge),(top 16),(top 17),(top 18),(top 19),[`gi, `m4],(top 20),(top 21),[`ee, "k", "left"],(top 23),[`gi, `adR],(top 24),[`ee, `Cn, `Om],(top 27),[`Cn, `Om],(top 28),(top 29),(top 30),[`ade, `aDJ, "fills"],(top 31),(top 32),(top 35),(top 36),(top 37),(top 39),(top 40),(top 41),(top 42),(top 43),(top 44),(top 45),(top 48),[`ee, `rA, `kf, `LV],(top 49),(top 50),(top 51),`abv `On `wR wf0,(top 52),(top 53),(top 54),(top 55),(top 56),
(top 57),[`eE, `m4],(top 59),(top 60),(top 61),(top 62),(top 63),(top 64),[`ku, `abp],(top 65),(top 66),`fc `Oo `adS v00,(top 67),[`ku, `r8, `Op],`gE `Oq `DQ wk0,(top 68),(top 69),(top 71),(top 73),(top 74),(top 75),(top 76),(top 77),n6 `adT,(top 79),[`Or, `k2],(top 80),[`DR, `Os, `k2],(top 81),[`DR, `k2],(top 82),C__law_mixed,(o4 W8 d8),λζ=>zd0 `bsR hr `E ζ,(o4 `adU d8),(R8 yk0),(`fd 46 0),(`fd 46 1),"end_parts","takes",(`fd 46 2),(`fd 46 6),"takes_digit","takes_letter","takes_name_number","takes_sign",(`fd 46 7),"goes_on","takes_head",[`eE, `iW],(`fd 46 8),(`fd 46 9),"takes_part",[`eE, `vw, `LJ],(`fd 46 10),(`fd 46 11),(`fd 46 12),(`fd 46 13),(`fd 46 14),"takes_known_name",[`eE, `aEf],(`fd 46 15),"names_here",(`fd 46 16),(`fd 46 17),(`bsS),`acj `ack (spD K m),`aCd FnD,`acj `aEg (spB K 0 m),`H (x∉Fl) Ab,FnT P9 w9 K mg b9 c x n ps Fl m,(by let#[f,fd,F9,a9,i9,k9]:=h9),λζ=>#[#[C,f,fd,o F9,aT,`bsT,`bsU,ζ,hm]],(by intros;rfl),`f×Obj,(x==`aa9)=`q,`aT (D×D),(o8 p `cc),W5 `bsW,EP X `z σ Q,`kb [e] `N,`d1 `x,us0 n `dF σ,(x==`aDE)=`q,`dA x px,`bg a=`g,(`M5 `LS),Loc `u! y,S.wait.count `dj,(`dB x.1:Q3),S.un.reverse.map,(E6 _),`adV i hv,[`ri,`gn],(`bsX),po0 n `dF δ,`cR `ij,`gy i (`BH),`dA y py,`bR `Cq,λq=>`aJf,`e0×`aEh,x ≠`acw,λζ=>AtN K ζ B σ δ i a ns as sos,`mf 2000,`DT (q00 rfl),(`bc `dD).map,(`m (`Nt)),S.wait.reverse.map,`p (`u0 q.1),envOfC,`vW V.int,`jq q hq,.sh LL,.sh O1,`BT λn=>`DS,λζ=>by let#[p,xs,rfl,_,hp,hl,rr]:=ζ,`d1 `S,(by rw[`bsY]),.sh (`Lu),(`ak (N/128)),λζ=>by let#[B',T',b,h]:=ih B ζ hm hn hB J,(v9 hr),D8.mpr rfl,`DU `l,`DV fl,Heap.SameBut,(`bsZ),`c `e2,relabel `ef `N,S.names.map,sos++[`acm xs],H b=`i?,X.base.get? b=`aF,(a::`abd),λζ=>`adW (t':=`b?) ζ f0 f1 f3 f4 f5,`hq f,fv0 xs lo hi,hW _ _ _ _,X.N[i]?=`g5,`c (.ow d0),`cR `oQ,e.ms.map,λl=>`t `aEk,[`aEl,`Ng],(`bs0),(`bs1),`n `bN,`ax `DW,λζ=>by rcases ζ with rfl|rfl<;>decide,`an (`wS),by rw[xz0],by rw[e],`mt `Ot,yy0 es as,λc=>`aby,λn=>`adB,env.kindOf,λa=>B a∨a=p,J.w.opAt,
e.ms.getD,λζ=>λv σ H Q=>∃B d δ,tDG ζ idx f B d δ v σ H Q,tupleKind,Itm.b,(`aEn),ws ps F k o T `oB,`fi `bj n,I.base.there,(`q,`aEo),(∀b∈fp,`w4),j<1073741824,λζ=>A.under (`cW `bs3 #[`Bi::ζ,kw]),`c8=`V,NameKind,(`bs4),sIx n 0 lo,r1.append,spos.line,λζ=>∀(cdv:`A) (A:`aq) (outer:`aEp) (s:`v) (H:Hp) (E:XK),`bs6->ζ `bs7 `Lv G,(`adX).lt,H `L=`g,k<`e_,h1.trans,λζ=>by let#[z,hd,vs,rel,dd]:=ζ,ir0 `bT eb,Key×`A,(`o `adY),(`pe `adZ),(`aBU),`cs `mQ `N,`K! pos2 (`BE),λζ=>by let#[q,xs,rfl,hq,rr]:=ζ,`ad_->`ad0->`aEq->`aEr,`ad1 `mR,(`vS rx),J.w.nodeK,K w.params,nh0 i `Bt δ,λr=>y::r,(`bs8),(`bs9),`adl `p,(`bs'),(`bs!),p.vals.map,(`aEs),.sh `M?,.ow `bs?,vd0 `bta,`m `m7,l.modify,(W.ok p hp),λζ=>ζ P9 w9 K mg b9 x n ps m,#[p,hp,rfl],.Compare,(gc `KC),`m `btc,e.fl.map,#[⟨e⟩],`Bu=`bS,`kL=k,.sh `MU,`n (`Ov),`ao Keyword,nm.map `p,λp=>`vH p.2,W.instObj,`c6=`sD/\`m8,`aDp i,[p.1,p.2],λx=>`aEt,(`e? `aAt (`Nw ⟨⟩)),`aEm ++ `Ou,o.map `h,(`o? (sg s)),(`ak `wh),`aH `btb,λk=>(`aa').d,λw=>`B6,W.wb.it p hp,(fil `ck),"_law_word","beginning",D5 X9 G9 a9,F9.kp,(`ak `M!),`DV ps,`DV `ck,2*`ad2+1,(`Ow:`v).TypeIs,λζ ξ=>`wT/\ζ/\∃vs,`pf/\`btd `Mf ξ vs,`DY->G a b,`fT ob u,`c `aEu,`fT ob u',`C6 x=`i2,(`bte),(`aEv)/\∀p∈`Ox,p.1≠b,(`btf),`Bh=`bS->`aCk,I.base,λζ=>(`K7 b (B9 (C7 `mL ζ))).trans,I.ok.cab,`Oy e `N whole,λζ=>`H (`btg ζ e `aaD `N=`u?) Aa,swappedStores,Int->Int,y=`gw,`kz `aEw,`ig (i<=j),`ig (j<=i),W.makesIn K C,λζ=>Env0 P w K mg `aJ ζ `dK s H,λϑ=>`e? `aKs (`mF ⟨vl,vu,ϑ⟩),λζ=>by let#[its,r',pl,hz]:=ζ,(`bth),`ac δ2,(`bti),`b2=`V,(`btj),yz0 ks ds k,`b?+knd.draws k,(.dK (`adY)),#[q,hq],#[z,q],[`ad3,`DZ],`fi `bJ n,deq (`aEi) (`aEj),v.length,ys[i]?=`g5,ys.take,λp=>`D (p.1=q) v p.2,`aEx s1,xt0 pr.1 q,λq hq=>h q (`D_),(`btk),(vv0 `bK t00 he),[`ad3,`DZ,`Oz],λζ=>y=kV q/\u30 ζ q=`c w/\Q w H2,`c (`oC b'),mkB n N j G b ds,`c (r,b'),(λ_ _ _ z=>nomatch z),`hV `mQ f pos',(y==`aa9)=`q,("__classdict__" : Str),[v1,`OB],(`mq).zip,sliceRange,
(`fJ:Int),"fields",λϑ ϕ=>[`eh,`Qk,`Ql,`sn ϑ (ϕ),`a?R,.sh (`XU)],`abD `wU,`fN `sE,(`aEy:Int),(`ak `ad4),`h `btl,λq=>q.2,`h `btm,(`bs_),.ow `btn,`bc `dY,`ad5 `D0,(`fU).map,(m.lt x hx),`cr n [Want.name,`eF],(`bto),wn0 `cc `pc,`bz (`OC `ad6 `vK),λζ=>by rcases ζ with rfl|rfl<;>rfl,.sh `btp,(`dI:Int),λζ=>`aEz λn=>`an (`Bx=ζ)&&`ad7,`kx - 1 - b,ok.names,`k `be he,ih h `ad8,hb ps [] [] (lkd 0),λi=>`D1,`c X,`m (K22.nd q),`aEA+61*k*k,eff l `ck,[`n9,`dC],(`jp:Int),(`btq),"behind",`acn q,`f×`A,`ad' j `y,es.getD j `y,(`btt),`t (`le `OG),X.env.qual,`t `btx,`cs a `N,`ao `aH6,`fO c=`aF,`fQ c=`aF,2*`ad!,`Ot x.p,(`go x),`OE b,(`e? (`cR `v2) (`mF ⟨`h lo t,`h hi u,`h 1 v⟩)),rv.same,(a+1:Nat),names.filter,`aED*48271,`wb `mm,(o++`aEB),z%1000000007,(`btz),(`btr),PySem.Within,`OD H h a (qOf ps),`cs b `N,(`bAy),`hY=`aF,`ad9&&env.scope.kind==`sF,(`bts),`aaq=`kD,(yw0 hl),λζ=>upd H d (.dK (ww0 kvs ζ)),ww0 [] ps,(`sG).map,#[`gH,[]],SubO.ins,.Lambda lp `OF lsc lpos,(`D2 vs).map,(`btu),`t `btw,`bty+2,λζ=>st ps `aEC `wV T ζ (`kX),(`jk `ads),#[z,rfl],λc=>[c],S1.spelled,λp=>(p.1,p.2++[`we]),np' l fs fl,(`abm).map,(`btA),`m `aEE,#[_,en,e1,k],I.turnedL,(`K9).map,(`btv),`cW `btB,(`pb a:Key),(`dB a:Key),`c `aEF,`aEG mA (`ad?),`OH `bO,(p.1=a∨`OA=`oG),Paired.mapP,#[z.1,ht _ _ z.2.1,z.2.2],(show `aEH from x),`Bu=`aea,zi0 (hm b _ q `D3),(jq0 h H).get? b,`OA=`g,I.base.tups,storeName,λb o e hx=>?_,`sf=`fi its n,[v,ov,iv],k it `az o e,I.list_inj,s.heap.IsTuple a `bj,`EX (t':=`ah3) `xt,(`q,`aEI),Nat->`lf,(`btC),`OI (f `wW (`h j u)) Q,`h `pg,-(`Nk)<i/\i<`Nk,`h (i - j),(`btD),[op,op'],`p (i++j),W.lookIn `fe od,`wt K `gx "__setattr__",(`D4).push (`aeb),Yh0 `bT e,s50 f y fs,W.callWith_K,I.ok.mod.kin,callWith,(`btE),`K' K `gx,λζ=>upd (upd ζ dx `aEu) x `aEJ,E3.mp nd,cellsFrom,λζ=>nj0 CX P w K mg `aJ N `fK `ef f ζ A `dK s H E,sIx n n hi,(`hX+`oY*1).toNat,(items.toList.drop (`M!)).take (`acG),Builtin.Tuple.tupleItemsOf,`kP `aB `aB hi,(`btF),`c `m9,(i+n).toNat,ixN `aB i,SqT K H p xs,
SqL X.K H p ys,SqT X.K H p ys,`bT p _ hk,`cr k xs,`aA6=`btG,t { nx:=λ_ H'=>Q `y H',rt:=Q } `OK H,`D5->`aEK,`D ((`aEL&&`OL==`ib)=`d) `Dl k,(`m_).2.2.2.2.1,`OM==`sF,`Nx==`ib,PG `vd tg g,PF `vd ifs tt,PE `vd elt te,as.2.2.2.1,`c `btH,ob ga δ,sep.length,w90 f G `m7 δ,Rd H a `kJ,(`btI),`c `aEM,fd.qualname,H a=`c (dOb ks xs)/\dLn ks=`aB/\`bi,Rp K H' B' d v,`m'=`g,λζ=>∀(k:Nat) a,`aEN->ζ[k]?=`kD,`sH->`cu G l m,`jf=`aB,by rw[xz0] at r;exact r,λH' s=>?_,(`btJ),λζ=>ζ X.K `bg `bh δ G D σ H,Hh b=H1 b,i<=`jb,λζ=>λi j a ds es h1 _ _ _=>ζ,RpO K H' `ON d p,bs.getD i `d,`hp+J.toArray.size,`aec xs i,SqL K H p ys,SqT K H p ys,(ds++es),ds.dropLast,`cV x=`d,`aB*`eM,`D6 d,`OP xs k,DGet H2 a y o,`u7 (`kb `OQ `N),ro.plain,λϑ=>h B' `Lb `z s σ H Q I ϑ,(`nh).mut,(`R:Nat),r1.nil_iff.mp,foldl_rep,(`btK),`OR A s _ _ `d,λζ=>λl hl=>k _ _ `aEO (ζ hb hl rr),h'.SetOf,(jp0 ys),(`lg (`aed)),λζ=>λl hl=>k l _ (`sI hl) (`mo `aEO) #[_,yb0,ζ (`D7 hl)],Moved (C::wr) G s s',ItemsOf P acc' n,ds.reverse,(`lg (`aee)),uj0 rr,λζ=>by simp only[`my,`s,asB,ζ] at h,λζ=>ζ `dT X.w X.K `ct `fL x k ps f dd,(`btL),ds.all `cV,h'.IsListIter,Builtin.SmallTypes.nextOf,ys[k2]?=`g,`agd=`g5,λζ=>ZLow z TI TO i1 i2 l1 l2 ζ,(`e1 `hl),(·.pop),(`hr `sJ),J b `aDu,(`cR T1),(`cR T2),(`lg (`aef)),(`wX ⟨u,w⟩),`fi xs k,`Bh=`OT,getAttr?,z.natAbs.log2,Builtin.«dict.update.loop»,R (.ok f) s',.again c',c'.quiet=`d,λζ=>by let#[its,rv,pl,_]:=ζ hl,`aEP [],by simp[M],`c (`t us),(.dK `aeg),(`btM),`wY `dn,`aEP (`wY i),X.A.in1,(`bA_),(.dK (`aEQ)),`dy (`n r.1) r.2,`aER `p,`aeh `btN,fd.globals,fd.closure,".<locals>.",`bD `OU,λζ=>`btO `Ou `aei lp `OF lsc `OU ζ (`ag cd) ctv,(`btP),λζ=>`mH ζ `OV (`wZ `vV `aES) `btQ `gF,(.tbl ⟨`p q 0⟩),`aET C dx fs,B a/\a≠p,λζ=>by skip;apply `btR;done;exact ζ,#[v,_,I'.opened o,r,k],`btS c,(`m').bind,λk=>`lh,(`aH2 e2),`p r.1,`m `agt,(`btT),H a=`btU,at'.w.ins,λζ=>by rw[ζ];apply `li;rw[`a4],(`btV),λϑ ϕ=>∀b xs,`Ey->`aA2->¬ϑ b/\ϕ=`i?,
λζ=>#[d,a,ns,as,sos,env,ζ,at',`DX],nk0 H c b,(nk0 H2 c),`cs (`aEU) `N,PySem.Env,(`bz0),(`bAu),(`xC λH' J=>?_),s50 f v (nm.zip xs),(`btW),`aec ys i,λζ=>∀o i,`OW ζ `q o i=`btX,(`btY),.sh (pr p),ys.foldl,p.pnames.map `p,`t (`aEV pr),λϑ=>by apply `aM xm0;rw[`I ϑ],[`sC,`fE],`bR `OX,λϑ=>`D (r=0) [] (`j4::dgf ϑ `s8),(`acJ).toNat,`m `OY,`c (`dm p),(oA `ca m),(`aH `ia),`adl `btZ,((`sG).filter `aEW).map λn=>(n,`Cl),(`aej:Q3),ent es x.1,λe:Ent=>e.n,(`bt_),(`Bz).pnames.length,λϑ=>yz0 ks (`bk0 λp=>`bk1) ϑ,(o2 `D8 `Z eqD),(sq0 `Q `b3 n70),(`Ch).is,(v20 3 `m!),`h 48271,(`bt0),λϑ=>ye0 (`el `yf (o2 ϑ `Z xb0)),(`bt1),`aek `bH,`t [`sK,`h `OZ],(`aEX),List.drop_of_length_le,`m (`b5 p),(`D9).map,(`D').map,ht.left,.sh `bt2,∃z,v=`fG,(vl0 _ _).mpr,(`bt3),(`bt4),(`bt5),(`aEY),bs (4*(4*cnt `ob+`ph)+3)++tx `ob,`D `fY B `ot,`w_ `aEC (`kX),`aEZ (`fU++W),`bE (`jp+51*(`ael)<=M),(e▸ha),ws ps F k `k? (`aE_++T) `oB,(`u `aE0),(`aH `aE1),λϑ=>`bz (unG wc0 `dz ϑ=`b_w),(`bt6),`p (yt0 v),λ(p:`il)=>`vH p.2,u.length,`an (a=b),`dD - 1 - (N/4).toNat,S1.count,`gs S1,[`ks,s1,s2],`xL `QN δ',F.length,`cn++[`Cq],`D! xs (`c 0),(`bt7),(kd,`b5),`t [q.1,q.2],`D?[k+5]?,.ow `bt8,`aE2++[b],∃z:Int,d=`fG,nB B `kY,λp=>`aem,Want.value,`bt9 `bO,List.drop_drop,(`ky).map,Km.lz0 `hb (Yq0 π),`cn++[`e6],D'.inv,`BO k `aE3,B1.drop `cl,`m `bt',λζ=>by let#[i,hi,rfl]:=`c2 ζ,`hQ c (`sL),(`aE4).map,(vb v hv).1,λϑ=>h.pa `Y1 (`k (p90 ϑ) (D6 _)),`wY `fZ,`m `bt!,(2+x%2).toNat,(`bt?),[`eJ,`Ea,`jr,`dX,.sh M,`bd],(`bua),(by cases h),λϑ=>λi δ=>∃s3 s4:Sl,δ=ϑ,[C,`dC,`gq],`aE5 `bH,`aen `bH,[`M1,`M2],web `aE6,(`aE7),(`bEI),λζ=>Na0 ζ w K mg `aJ `m? 5 `na vq0 `LW,"_law_j",λζ=>∀(kV doc pm:`A) (an:`cY) (cdv ct u:`A),`sM ζ `aeo=`bub,`O0 (by let#[u,rfl]:=us1 `O1;exact b _ _ _ _ _ _ _),λζ=>∀(kV doc pm:`A) (an:`cY) (cdv ct u v:`A),`sM ζ `buc=`bD (`rI [u,v]),`O0 (by let#[u,v,rfl]:=us2 `O1;exact b _ _ _ _ _ _ _ _),λζ=>∀(kV doc pm:`A) (an:`cY) (cdv ct u v w:`A),`sM ζ `bud=`bue,
`O0 (by let#[u,v,w,rfl]:=us3 `O1;exact b _ _ _ _ _ _ _ _ _),λζ=>`buf X rfl ζ rfl rfl rfl,(`bwh),`LM #[y,`hc,e2,`w1],I1.fpOk,(`bun),`O2 ?_,λζ=>uw0 ζ ms0 `z s σ H D I `aE8,(`bum),λ_ z=>z,λ_ z=>`hd,(sb.2 b hb).trans,(`buW),(`bvi),(`bvk),`fS - 1,bn.map,I.unwish,letOwnedTupleGo,`Dq ?_,v'.length,[`buB],(`buF),(`bu4),(`bu6),(`bu8),(`bu9),(`bu'),(`bu!),λf W=>?_,backToKw,(`bs2),(`go c),s.trans,ds++dd,`cR "slice",nh0 i `q3 δ,(`buk),(`buO),`aE' `ia,(`bu3),(`bu5),(`bu?),`p `oA,(`bvg),(`bvj),(`bvI),(`bvN),(`bvT),(`bvU),`h `bv',`h `bwj,(`bT b u e).stay,(`bug),∃t,u=`w0 x t,(`buh),(`bui),(`buj),k _ H' s' `aeq,λi ds a h1 h2=>?_,(`bup),λζ=>`aE9 (t':=`b?) (fp:=[it]) `buw ζ,λζ=>`oM (a:=`L) (o:=`aaN) (t':=`b?) `aer `bq (b00 `aY ζ),J.toList.toArray,(`buy),`aBq `aes Y,(`buz),(`buA),(`buD),(`buE),`t `buT,λe=>(e.n,`cb `aet),(`bu_),(`bvh),(`bvm),(z8 `Eb v5),(`bvp),(`bvs),(`bvt),(`bvu),(`bvv),(`bu2),(`bvx),(`bvy),(`bvA),(`bvD),(`bvF),(`bvH),`h 1000000007,(`bvX),(`bvY),(`bvZ),(`bv_),(`bv0),(`bv2),(`bv3),(`o `O5),.ow (`Nb),(`bv!),(`bv?),nd `bwc,λy hy=>hT y (A7 _ hy),(by rw[`bwd]),dq0 rfl B,(by rw[`bwe]),`aG `O6,`D `fY W (`Ed++W),[F,`bwg],(`bwi),J.length,(`k1).zip,`p "owl",`p "a",W.methodObj,Q σ' H',"object.__setattr__",s50 f v r,hc `z s1 σ H1 vs us Q I1 r1 q1,`aep `Nn,(`bul),(`mo `js),`k `k' hl,λζ=>ζ cl s _ ex B δ `z s' σ H Q I h,(tc0 h1).elim,en'.same,(`buo),(`buq),(`bur),λζ=>λd e x y u w h1 h2 h3 h4 h5 h6=>ζ,(`bus),.error e,`gA `q,`but `mR,(`buu),(`buv),#[o,ho,hc],(`bux),`h `rq,λH' B' b' r'=>r'.toL,`jj σ' H',(`buC),(`buG),(`buH),(`buI),(Yo0 `C2),(`buJ),(z8 `D8 v5),(`buK),(`buL),(`buM),(`buN),(`buP),(`buQ),(`buR),`dB (key a),`aA? `buS,(`buU),`t `aE!,(`buV),(`buX),(`buY),(`buZ),(`bu0),(`bu1),(`bu7),(`bvb),(`bva),(`bvc),(`bvd),(`bve),(`bvf),`p `O3,(`bvl),(`oh `cT),(`bvn),`p `Ec,(`bvo),`ad' i `y,es.getD i `y,(`bvq),(`bvr),(`bvw),(`bvz),(`bvB),(`bvC),(`bvE),(`bvG),(`bvJ),(`bvK),(`bvL),(`bvM),(`bvO),(`bvP),(`bvQ),ye0 `bvR,(`bvS),(gc (`O4)),(`bvV),(`bvW),(`bv1),
(`kg `MQ),(`bv4),(`bv5),(`bv6),(`bv7),[`bv8],a+`bv9,(gc `mE),a+`bwa,(`bwb),kd (U++`k?),nd U++td `k?,k60 T s,`cl - 1,(`bwf),(ix L i),parts.map,k00 hw `E,eff `sN fl n,lkv f `N2,Tp0 f hf,hb.ce e (iz0 he),(`bwk),(`bsV),T.b_dict,T.b_reversed,mg x=`OO,Builtin.Tuple.tupleExact,`OJ=`aX,`OS acc' c',h.own b hb,(`bs5),α->`aT β,o.bind f=`fj,∃a,o=`kD/\f a=`fj,#[a,rfl,h],"__getattribute__",(`aE?),`fO f=`g5,Code.quiet_builtin _ `bf,Fin->`fz,`p `aeu tk,hh.get? f=`g5,`A->`aj,Value.isInt,Value.isStrOf,`aFa=`pb b,`aFb=`dB b,T0 `bwl,(by rcases u50 hb with⟨j,u,rfl,e⟩|⟨y,u,rfl,e⟩),(by rcases u50 hv with⟨j,u,rfl,rfl⟩|⟨y,u,rfl,rfl⟩),(wi0 `hO w).is,`q_ UInt8,`ao (L2.Key×L2.V),∃t,u=Value.bytes b t,∃t,u=Value.float b t,`b_ ys ws,λζ ξ=>∀{xs:`P} {us:`am} (n:Nat),`eq->`b_ (ζ n) (ξ n),`ao `aev,`c `bwm,(b==`BA)=`q,`jd=`aFc,∃mA,`aew/\(`aex)/\`aFd,p.1=q.1/\H q.2.1=`vG (p.1.map kV)/\`dw p.2 q.2.2,(`aFe).Nodup/\ep=es.size,`aFf/\`O7 P w H h a p.1 p.2,(by let#[_,_,_,_,o,_,_,e,_]:=x),∀b u,(`aey)->`abN,k _ _ hb e,(by let#[z,y,vs,r,ob,es,ep,e,c]:=x),#[od,es,ep,k _ _ (`u d) e2,c],(by let#[z,y,xs,r,ob,es,ep,e,c]:=x),`aFg r λp q z=>`aFh,(by let#[cont,e,t,c]:=`aFi),k a _ `gY e,λζ ξ=>let #[c',oc,vs,tq,z1,z2,z3]:=ζ;#[c',oc,vs,tq,z1,ξ,z3],c pos cv q,`c `bwn,#[o,`io],(`bwo),`CE u,∀b u,b≠e->`abN,∃sl,`Bu=`c { o with slots:=sl },∃o',`aFj,∀b ps,H b=`aez->∃more,`hY=`c (.tbl (ps++more)),`uW=`OT,λb u q _ _ _=>`O8,λb u q _ _ _=>#[u.slots,`O8],λb u q _=>#[u,`O8],k b u (hb b n) q,`k `aFk q,`aFl=`aF,∀x:Str,`aAz->mb x=`sO,`aeA x=`eX,Mod X.K `ct `fL,`aak y=`eX,`O9 b=`g,X.s₀.heap.FunFrames,`Ns `sP,s.heap.Ns `gu m,`fO p.1=`w2/\`aFm/\p.1≠`gu/\p.1∉`je/\∀v,p.2.data≠`q! v,`gv/\`dp,(I.ok.noex b o e),s.heap.NoLimit,(by let#[v,o,ho,hd]:=`aeB),λζ ξ=>hs ζ (by delta frs;rw[`w3,hf];exact ξ),(by rcases I.ok.stk with e|⟨e,hf⟩),`dp->`w4,`aW H' ({ s with heap:=h',gens:=g',drawn:=d',toks:=t' }),λz=>(hch c z).2.2.1 x c e rfl,λζ=>ζ c o (I.cne x c e) hc J ho `aeC,
λb o e n hx=>?_,λζ=>λb xs e=>ζ b xs (`aFn b xs e),λb ps e=>?_,`aeD b ps e,Array.append_assoc,λi x v e1 e2 e3=>?_,λz=>(hch _ z).2.1 rfl,(by let#[m,#[o,es,ep,ho,r],_]:=id `jl),(λ_ z=>nomatch z),λζ=>λb o _ hb _ e n=>ζ b o e n hb `az,#[_,O,M,hL,r'],(λ_ _ _ _ n=>n),(`bwp),(`bQ `bwq),I.hok.kept,(`c7 hp).elim,Inv X `z `Ee H s',`nb M (`aFo `N x u),`D6 a,#[`Ef,`Ef,`Mr,`aFp,`aFn,`aeE,`aeD],λj y v' e1 e2 e3=>?_,`a7 `hm,(by let#[u',r',q]:=`bwr),#[u',r',?_],z.sameBut hs (cne y c e),λϑ=>#[`yu p.1 ϑ e,n,ne,nf,d],`r! x c hc,λh' a1 hs=>?_,hn.sameBut,`aeF->L2.Hp->L2.VK->Prop,`gG/\`vC,λζ ξ=>∀(pins:`aN) (s:`v) (σ:St) (H:Hp) (Q:ζ),`B->`rT->ξ,λϑ=>`b_m (`dt (ϑ st `N) (SP X `z D)),(by rcases l with⟨hk,hm⟩|⟨hk,c,hc,J⟩),wpAny_loadName_cell,wpAny_Constant_int,`rj=`bS,`OI (`cs `nc `N) Q,(`bws),`sO=`bS,PE X `nc (tC v),λϑ ϕ=>`dt (`aEo) (`b_s (`p! ϑ ϕ s₂)),PC X op a b t,`H (`Do) Aj,wpAny_Compare1,(`bwt),wpAny_isTrue_Compare1,P5 #[H1,I1,q],λc H1=>Q (!c) H1,isTrue_and,(`bwu),hb wh `z s1 σ H1 Q I1 q1,#[H1,I1,q1],(`rx op [a] pos),(`bwv),(`bww),λζ=>∃(o:Obj) (its:`aO) (n:Nat),`aeG/\ζ,`aFq/\`aeH/\`b_ xs `w5,SqL X.K H a xs,h.ok `bT,`kj a o hk,`a7 hs,SqT X.K H a xs,(by have:its=J:=`bwx),(X.wish E).Ok,#[ok.mod,`Eg,ok.glob,ok.blt,ok.above,ok.inj,ok.has,ok.cab,ok.hd,ok.frames,ok.stk,ok.exf,ok.bs,ok.bsz,ok.noex,ok.exfs,ok.funs,ok.frf],Inv (X.wish E) `z σ H s,SP X `z D f s',{ D with nx:=u D },#[σ,H,I,h],interactive,`jj σ H1,`su e `g,`Eh `lf,t v σ H Q,(`bwy),V->`bwz,(by intro pins s σ H v u Q I r h),wpAny_assign_Name,`a7 rv,`mM `aFr (`O' ov iv v),release `aFr [],(`bwA),(`pi `cZ),{ D with nx:=N,ct:=N,bk:=`jj },PSs X `dm tb,(`bwB),#[m',hm,σ3,H3,I3,w3],Nat->`ke,λx c e z=>?_,λp hp z=>?_,(`bwC),∀v,`sf≠`q! v,(∀b∈fp,`O!),(`ad1 `w6),Turn `dT X.w X.K tg J fp it tn,tn 0 `aeI,(`bwD),`bwE n,wpAny_load,λi H=>∃xs x,`sQ/\`pj,∀xs,`sQ->`pj,λi H=>∃xs,`sQ/\`aeJ,`aeK it a i,λi h h' st k=>st.at λo e=>`aFs,(by let#[its,rv,p,hz]:=`sj),λh' J sb=>?_,
(`aeL `bwF),λζ=>#[u,rfl,Vf0 (s:=`k6) e c d `E #[x,H,I1,ru,#[rfl,ζ],J,`aeM]],λys hy=>`k (`aFt hy hq) hx,wpAny_pyNext_list_end,(by let#[its,rv,p,hz]:=`Mv),(show `aFu from p),I.tuple_inj,IsRangeIter,Data.fields,`aW H `jt,λϑ ϕ=>`GL tl λx H1=>∃a,`fa/\ϑ/\R (ϕ K a) H1,(`bwG),(`bwH),(by let#[a,e,#[xs,hq],q]:=q1),λζ=>#[`mZ,`aeN,_,_,H1,rfl,`aFv,ζ a _,`w7,`ju,q],wpAny_pyIter_tuple,(`fC `aC6 tk),(`ak `w8) - `vA,[`b9,`gw],PA X [a] ta,(`bwI),λζ ξ=>Call_ (q40 I hg hm ζ (L9 (thn `O? ξ) hs rfl)),boot_range,`oL `mO [`aBz,`aFw],`oL [b] [`aFw],(`bwJ),Nat->`aFx,W i m σ H,λζ=>∀{H':Hp},`aBA->∀b∈fp,ζ,tn i `nd,I7.pin `Ei `aFy,again I7 n7,`aW H2 s2,OpR X (`ox op) r,(`w9 op),(`bwK),Q (`h `pg `b?) `sR->`aFz,λi j=>`aFA,(`pi `aFA),(`aFB)∨(`aeO),(`bwL),λi j=>`Pa,λi j=>`aFC,λi j=>`adg,λi j=>`aeP,λ_ j=>0<j,λi j=>`aeQ,`h (g i),(`bwM),(`bwN),λζ=>ζ `z s σ H x y v u Q I rx ry q,λζ=>by cases op<;>first|rfl|exact ζ,(`bwO),(by apply `fk z9),thn `aFD λu s2 z9=>?_,(by let#[y,H2,I2,r2,q2]:=z9),(`bwP),(by let#[z,H3,I3,r3,k,e,q3]:=z9),`h1 op' r',`H (lastMarks `aFE [b,c]=`q) Ak,(`bwQ),sizeLine_eq,∃i j,x=`p i/\y=`p j/\i.length+j.length<=`R/\Q (`aFF) H,`b_ [x] us,∃u,us=[u]/\`ip,(`cW "ord"),(`bwR),(by let#[u,rfl,t,rfl]:=vals1 r),∀name,`aFG=`c (`aeR),es.toList.any (·.refKey),`aeS K C `fe=`d,`wt K `gx `fe,W.handedIn,(C80 hg).1,`A×`am->`fz,`aFH=`bwS,W.plainOver K C=`d,`jf<=`R,`wt K `gx `aeT=`Ej,(`hR s `aFI),(g==k)=`q,`pk `aeU,(by let#[t,e]:=`bwT),(by let#[t,e]:=`bwU),`aeS K C `aeV,NoAttr X.K C f,(by let#[mA,O,r,_,_,_]:=`aFJ),`Nv<1000,(`i3 C dx (`aFK)),(`bwV),ft0 f y fs,`i3 C `L [],#[_,e1],λζ ξ χ=>`aeW ζ λo s₁=>`aP `dZ A (ξ) χ E `gF,`bwW=`aat,λζ=>(by let#[x,H1,I1,rx,a,C,dx,fs,v,ex,ea,c,n,l,q]:=ζ),PE X `gD tv,`hV o f pos',recursionLimit,`cX r.dp,`cX r.un,`i4 `fZ A,Code.frames,λϑ=>`db t λxs H1=>`se/\`WC `a9u H1 ϑ,(`bwX),(`df `bwY),H1 `mZ=`g,λζ=>#[`ag `mZ,upd H1 `mZ ζ,`bwZ,rfl,q _ hf],CE `dK P w H s Q u s',
λζ ξ=>Env0 `dT X.w X.K `ct `fL X.A `h0 ζ ξ,λζ=>sp (`ag x::`sS) ζ `bw_ E,(`o (us++ds))=`V,`bD `Pb,F.len _ _ _ _ h,λζ ξ=>`aFL (h₀:=`fL) `aFM ζ ξ he hpl,Meth X.K C m f,(`bw0),`aFN pos f `w' (`C3 `_?) `aFO,λζ=>`bw1 (pl:=pl) (thn `hs ζ) ht,a70 I1 ea c hm l ?_,`aFP=`d,Mk X.K C f,`i4 `fZ X.A,`aFQ H,W.callWith_K0,sc.kind=`sF,sc.isCoroutine=`q,sc.isGenerator=`q,N.take P.length=P,y.2≠`kc,λζ=>∀{binds:`sT} {m:`cd},`bw2->ζ `v4 binds m x=m x,ih `bw3,(by have:x≠n:=`bw4),P[i]?=`c4,λv hv=>(`aFR).1 (x9 hv).1,(`ba `bw5),`mG `c,W.cellsFrom_some,`ar N ps `ef,(`w!).kindOf,`aFS `hn `ht [],`aFT cd,List.length,λb z=>`K z (J b),e0.hok.fresh,L8 `bw6,(`bw7),`hZ (`aeX).1,`er X `Nl r,PE X `vE (tCB r t),(`df `bw8),(`bw9),`er X `NB r,(`hr (vs++ws)),#[_,J,rfl],`bw->Nat,Int.min_eq_left,(`bw'),(`bw!),Int.eq_ofNat_of_zero_le,Int.not_lt.mp,Builtin.Slice.sliceAdjust lo hi 1 `bm,(`ak `aFU),Int.ediv_one,slicePart_none,λ(m:Nat)=>xs[`aFV]?,λm=>xs[i+m]?,`Ek `aY t `bJ,`M!=0/\`aco=`eL,`fi (`hr `aFW),`dH (`pl `pm `Pc),Nat.le_trans,`rV `Pc "slice",A1 `bw?,(`bxa),`w? (`aFX `pm),A1 `bxb,(by show `bxc),`Pd `aeY J,(`bxd),`bw->`ke,r x lo hi H Q,`pn `NB `aeZ=`bD (`ae_),λζ=>ζ `z s σ H x v vl vu lo hi sl Q I rx hs pl pu q,λϑ=>`db te (`yB tl λl H2=>th σ H2 λu H3=>ϑ),PO X lo tl,PO X hi th,(`bxe),(`bxf),(`bxg),(`bxh),(`Pe=0/\`aFY=`aB),(by let#[a,xs,rfl,hx,hw,q]:=h),(by apply `Pf `mK),(by have J:`hp=`aB:=`bxi),C3 (c80 xs lo hi) hz,`bxj `aFZ,SqT K H b ys,`k `S hz,if 0<=i then (`D (i<n) `aF_ `g) else `hu `ae0 `aF0,(`aF1).bind λj=>`ae1,seqIndex_of,seqIndex_neg,`ae1=`aX,(`aB:Int),r x xs H Q,`El `Nl (v::us),λζ=>ζ `gD `sU `z s σ H x y v u Q I rx ry q hs,λζ=>∃p xs i v,x=`g0/\y=`b9/\ζ/\`bxk,atI z.cps.toList i,(by let#[p,xs,i,z,rfl,rfl,hq,he,q]:=h),(by have fin:`po w s:=#[z,H,I,J,q]),(`bxl),subscriptTail_builtinR,pl.isList.typeIs,λr s'=>r=w/\`po r s',#[rfl,fin],`kP `ne 0 lo,ol0 y=`d,SeqAt.EqAt.none_bool,SeqAt.EqAt.bool_none,SeqAt.EqAt.bool_bool,SeqAt.EqAt.bool_int,
SeqAt.EqAt.bool_str,SeqAt.EqAt.int_bool,SeqAt.EqAt.str_bool,xs.any λy=>`ae2,(`ae3∨`aF2),(by let#[p,xs,rfl,hq,fx,fs,q]:=h),(`aF3∨`aF4),#[`ae4,H,`u2,#[`BJ,by rw[`cm,J]],q],∃z,xs=`Pg/\`xa/\Q (`ae5) H,λζ=>ζ `z s σ H xs us Q I rs q,`aep `Da,`b_ ys its,λζ=>`bxm p ζ ho hc hd `bxn `Ph,(`bxo),`fi `bj,ob.dict=`g,(by let#[_,_,_,_,o,_,_,e,ex,_]:=`aF5),#[o,e,ex],(`bQ `bxp),#[o,e,ex.2.1],tyV K T x H1,Slot T `fe id,λζ=>#[T,id,pa,slot,hty,h1,h2,ζ],`bxq `bO,Vals.append,(`aF6).flatten,l.dropLast,acc.toArray,(`d2 k its),(by delta Builtin.List.listTooLong),λζ ξ=>λx vs H Q=>∃l xs y,`ae6/\vs=ζ/\`Pi/\ξ,"list.append",#[e,?_],λζ ξ=>#[`y,_,I.lset (its':=its++ζ) hH e `az (`Pj ξ) ?_,rfl,q],List.length_dropLast,`ao WData,pre_splitW hpre,(`d==`d),WShape.has,`aF7/\`Pk,`acn `fK,`Pl `u5 f cdv,∃t,PSs (`ae7 f cdv) `Lv t/\`aF8,`ae8 `fZ sp,(`df `bxr),(by let#[t,h,q]:=`bxs),#[t,h.nox,q],#[#[oc,od,kV,doc,pm,an,cdv,ct,osl,rfl,l,c],k],∀b o,`aF9,`hY=`NK->H b=`NK,Option.none,"str_ascii_iterator","str_iterator",#[⟨x.cps[i]⟩],λh' J sb=>fin h' J sb,λζ ξ χ=>ζ ha #[`mZ,`aeN,_,_,H1,rfl,`aFv,U80 _ ξ χ x t,`w7,`bxt,q],scope.kind=`sF,y.2≠`q!,y.2=`aal->`rK y.1=`i2,y.2=`kc->`C6 y.1=`ib∨`C6 y.1=`jv,`bc `xb,`ae9=(`dF[k]?).bind (N[·]?)/\(`ae9).all (λy=>`Pm==`jv)=`d,`ae' λj=>`ae!,(`o `aAf),x.2=`kc->∃c,`aeA x.1=`eX,`aeA y=`eX,acc.lookup y=`eX,λy d hy=>?_,λx hx hf=>?_,h2 x hx hf,`aDa=`d,`a7 hx,`c (`aF'),(.ok `Pn),λζ=>`Em ifs `d λc r=>if r=`d then do let ok ← ζ;`bxu else `bxv,(`bxw),λζ=>∃m,W 0 m [] (upd ζ D `q3),(`bxx),J.yld i H2 x H3,Wk `hv σ4,if b=`d then te σ4 H5 λy H6=>H6 D=`ae?/\`bx<`R/\`afa `xc (upd H6 D (`m `xc)) else `afa ys H5,wpAny_newFunctionEnv,(`hR s2 (`aeh `Dc)),s3.heap.get? b=`aF,(by let#[o,e,_]:=`bxy),(b5 b o e),`K `mL `aAo,xd0 X `ef cl N' s3 H3 fp,B9 (d4 b hb),λx c e=>`aF! x c (hcl1 x c e),`En=(`rK x).map λk=>`D ((`ad9&&`aF?&&`aGa)=`d) `Dl k,(`m_).2.2.2.1,(by rcases `bxz with z|z),(`KB s3 h₁ (`xd+([]:`sT).length)),(`bxA),old _ o ho,
(by have e':`NE x=`eX:=`bxB),`K hp (`en xd0),(K2 `i!),Ia.pin `Ei `aFy,`mx `aGb,`mx `aGc,`mx `aGd,(`ba `bxC),(`ba `bxD),(by let#[it,fp,tn,J,H2,rfl,I2,T,Z,f2,q2]:=h2),λζ ξ χ=>Xi0 (Q:=ζ) (RR:=λa1 C=>compPost `eD X.A `iQ ξ χ a1 C) hc hsc ok Y O (hg cl) (ht cl) (he cl) I2 T Z f2 q2 ?_,λζ ξ χ=>ζ (t':=ξ) χ as.1 as.2.1 (`u as.2.2.1) `aGe `bxE,λv H'=>`jj `Ee H',(`aGf),λ_ s'=>SP X `z D `Pn s',`KJ DL.D,Nat×`Eo,`xe->`aT DL.D,`xe->`Bk,`xe->`aT DL.Res,`xe->`aT (`Eo),(`aGg).bind,fun δ=>`xf,`Po (Ga δ) (Gb δ),(`v7).bind,w90 f G ds δ',x.cps.toList.map,λc=>`oN,`cr n .un,`ae' λj=>Vn0 `sV,`wj δ ds,(`afb).map,(eqS x y).map,sIx `aB `aB hi,(bools ds).map,`aT (`e),(`KV `afc).sum+`bx*`aGh<=16777216,(`bxF),λϑ=>`hH λd=>`Lj λds=>ϑ d ds,`Ep=`c (h d),`wj δ `bJ,bools (`aH λa=>.bl (h a)),l30 `bxG,ifD g Ga Gb δ,by delta ifD;rw[h];rfl,`aA=`br,`Eq=`Pp,yh0 n `dF gi f gt ge δ,o2 ga gb f δ,`aGi=w90 f G ds δ2,λz=>(by cases z),`xg/\`aGj,g _ _ h.1 h.2,Gr H H' B B,`ao (`e0),fd.scope.names.lookup,z.2≠`q!,λ(i:Nat)=>`pb `hX,TelO K H B p kvs,`c `aGk,oF.cls=`BD/\oF.data=`afd/\Ve0 fd x y c cd,H c=`aGl,`c `bxH,∃vs t,oK.data=`Er/\vs[1]?=`c (`p `aGm t),D->V->Prop,`pp `Pq `bi,`pp `Es `bi,`pp `xg `aGn,`pp (`sq K H B a `rL) `afe,`i->`P->Prop,∃x r,xs=x::r/\`Et/\`Ds H r,`dM->`aGo,#[a,xs,e,`aff,`afg],H a=`c (`Pr),#[y,_,rfl,h1,ih h2 r],Rps K H B es ys,λζ=>∀{ds:`i} {xs:`P} (n:Nat),`bi->ζ,List.take_succ_cons,`ei (`pe l),(by exact .of e (λ_ _=>λz=>nomatch z) λ_=>λz=>nomatch z),(∃k a,`m'=`f_/\`aEN/\`aay)∨`aGp/\`pp `Pq `iq,∃x r,xs=x::r/\RpN K H B as d x/\`q? ds r,`aGq as',`afh `aGr,`t [`dC,`afi,`eH],∃C dx ns xs,so=`i3 C dx (`Ps)/\fs=`Pt/\`aGs/\`pq/\dx∉as/\`iq,as[0]?=`kD,`afj `KW,(λ_ _ z=>nomatch z),∃x ns,es=`cG::ns/\`afk,#[x,ns,e,`ei (λo z=>s _ _ z) `xh],RpL K H' B d a,XcR K H B c n a,g _ _ h1 h2,g _ _ q1 q2,∃v,o=`aX/\`dM,B a/\`nf,(m.set i b),`cu `Pu σ δ,`c (.ow es),SlR K H B o s,#[v,rfl,r],∀ob xs,o≠`afl,(upd H p o),`xi PE (`Eu tD),`xi PT `afm,
`xi PW `afm,∀B δ,PA X es (`Eu tDA),Rp K H B dy y,λpins s σ H Q I z=>`di h Q `afn,(`aAp).imp,`c (`Du),#[_,en,e,`Dq #[t,`aGt,`Pv]],#[b,en,e,`aGu],(by exact`bxI),PTD X e gt,#[c,r,?_],(`bQ `bxJ),r1.same `js,(Ss0 `dq).imp,λϑ=>`ft (`a1D ϑ hc `bK).imp `a3O,λζ=>λvs H Q _=>∃(B:BS) (ds:`i) (d:D),`Ev/\`afo/\`NP/\ζ,`BY X.K fd ps [],∀(i:Nat) (ds:D) (a:`f),`c6=`Ew->`m8->`aAi,∀σ H,`dr->`afp,λζ=>∃r,`dr/\`bxK/\ζ K `bg `bh D r,`sW PS st `aGv,`sW PSs st `aGv,Wr idx σ σ' δ δ',∀B d δ,PG X tg (tDG X.K idx f B d δ),`kk (C1 `w),(`ba `bxL),λζ ξ=>uw0 ζ (ξ `bg `bh δ') `z s σ H D I `bxM,`iT H' σ' δ',w.oth i hi,e.fr i ds a h1 h2,λζ ξ=>Tg0 `dq ζ hs hw h1 `z s σ H D I #[d,env,e2,ξ],λζ ξ χ=>fun σ' w en'=>k σ' ζ (ξ b1 b2 χ w en'),#[t,env,e2,λH' s'=>?_],∀B δ,PI X tg e (`Eu tDI),(`bQ `bxN),PDA X [a] gA,`H (`afq) Aa,`mN X `dm G,(by have a7:PG X tg (`Pw):=λpins s σ H v u Q I r #[B,d,δ,h]=>hg B d δ `z s σ H v u Q I r h),λϑ=>PSs X `dm (`iw (∃H₀ B₀ δ,ϑ)),`aGw tDS,λζ=>λpins s σ H D I #[`bg,`bh,δ,h]=>ζ,`afr hb h,(`df `bxO),(by obtain⟨Hh,O⟩:∃Hh:Hp,Hh=λb=>`Ex:=`al),(by have Y:∀b,`Ey->`aGx:=λb n=>`k O (`ap λz=>n z.1)),(by have a1:`bxP:=`bxQ),(by have a4:∀b,`bh b->`aGx:=λb n=>`k O (`ap λz=>z.2 n)),`cP Hh H1,a1 b z.1 z.2,(by have h0:=`bxR),(by rw[`bxS] at h0),`cP `bg Hh,s1 b o (`gk b o h),λb o xs h=>`Px b o xs (s1.nf b o xs (a3 b _ h)),`Py Hh H1 δ,(`bQ `bxT),`u (a1 a z q),`sX i ds a h1 h2,(by let#[o,e3,a',e4,hB,_]:=`NL Z.all h1),a1 a hB nb,Z.bad a `afs,λζ=>m=`jb - i/\`aGy/\∃δi,`bxU/\ζ f G (`Cz i) δi=`fj,#[_,`MO P8],(`aA8).mp w0,(by have gr:Gr H1 Hi B B:=`bxV),λζ ξ=>`u #[`bxW,fun σ' H'=>∃δn,`bxX/\ζ f G (`Pz) δn=`fj,fun σ' H' #[δn,en',e']=>ξ,`bxY],(by let#[sm,d,hd,rd]:=it.yld i Hi x H' gr y hlt),(by let#[B',c1,c2,env0]:=M.ex),Rp X.K H' B' d x,(`bQ `bxZ),n (b1 b q),env0.same sm,`Cz i=d::`Pz,(`bQ `bx_),(by have b3:`bx0:=`bx1),(`bQ `bx2),(`df `bx3),k σi Hi (M.lower hS `jw),∀B δ,PF X ifs `afm,
`cr n Sl.un,`aGz (bj0 h1).elim,∀p H',`lj->`bI->`aGA->Q `i_ H',`xi PE (`Eu tDF),λb o hb=>?_,(`bx4),`PA `fZ spD,∀ds d,`NP->`aDd/\`aft,`PA `fZ spN,(by exact`bx5),`afu=`aX,λi=>`aGB,(`cW "all"),λζ=>λxs H Q=>∃(p:`f) (bs:`Ez),`v5/\SqL ζ H p (`afv)/\Q (`afw) H,(by intro pins s σ H xs us Q I rs h),Walks.list,λζ=>∀{ys:`e} {us:`am},`bx6->ζ,`EA us ys,(by intro pins s σ H x xs v us Q I rx rs h),(`bx7),λt' k=>#[`co,H,I.tok k,#[t',rfl],q],(`bx8),#[o,h1,h2],`bT a _ hq,(`ba `bx9),Int->Int->D,∀i j H B,Rp K H B (g' i j) `pg,`c (g' i j),(by cases dx<;>cases dy<;>simp only[ii] at h<;>try cases h),`ha (hg i j H B),SqL K H b zs,`aB+zs.length<=`R,(by let#[l,b,xs,zs,rfl,rfl,hH,hB,hz,q]:=h),(by let#[J,r2,p2,z2]:=`hW hB),(by apply `afx `EB),`aGC<=`R,#[_,Y,rfl],λζ ξ=>#[`ag _,_,I.lnew (t':=`b?) ζ ξ,rfl,`bx'],`MB (yw0 h),#[h1,`k h2 `EC],DL.atI ds i=`aQ,`aGD=`aX,`n `bx!,`xi PO (`ir (∃o,Env X.K H B σ δ/\`aA=`aF/\∀H',`bI->Q o H')),by rw[ys0] at r;exact r,(`aGE∨`aGF),`ha (by rw[ys0,`PB]),(`bx?),λζ ξ χ=>jj0 `bya ζ ξ χ (ho B δ) `bK `jx hfew `jy hs `sY,#[_,en,e1,`PC],#[rfl,_,`hc,e2,`afy],k _ H' s `Ce,wpAny_Dict_empty,Heap.DictOf.new,λζ=>∃(fa:`f) (fd:`f0),ζ/\`byb,`PA k spD,`PD FnD x,fun δ=>`wy,`c (.ow `u6),`ED (ds++[d]),`ED `aGG,ds.getLast?,`ED `aGH,`ao DL.Q3,`aT (`a1),(`rE ds).map,(`PE).bind,r.1.length,(`MF).map,λk=>`PF (`o3),xw0 gt G n δ',(`gy i (.sh a)).set j (.sh b),`cI x 50=`d/\`cI y 50=`d,`bL (`aGI/\ys.all `cV=`d) (`PF (`EE ys.any x)),b80 acc y=`d,`bx<=4000,`D (isL d=`d) `g `aQ,mkF n N G ds=`aQ,#[hl,?_],#[e,x30.mpr hn],mkN n N G ds=`aQ,`bL `afz (`m `NC),`sv*`jm,`aGJ<=`R,(gl δ).bind,(gh δ).bind,HeapKind `hO w K,`ao (K×`aEh),`EF `aY k a,At knd `aY d xs,∀h',At knd h' d (storedH xs k a v)->`aGK->Q () (`fC h' `aDg),`afA d `ci v,Obj.isFreed_of_dict,Obj.data_mapDictKeys hd _,Obj.data_mapDict hd _,"__setitem__",slot_dict_setitem,u30 (p::r) k,by simp[u30,`pr,e],Bool.false_or,`PG vs k,`PG (q::qs) k,by simp[`PG,`pr,e'],vs.any `abV,(`byc),`aE ?_ ih,
`I `byd,#[h1,h2],r.repl k ry,Paired.snoc,`jz `aGL,`OP (q::qs) k,by simp[`OP,`pr,e'],#[h1,h2,h3],(`aGL).isSome,λϑ=>show `CE ϑ from Fd0 ok e,(`t (`afB)),(`PH).is,(`bye),h w' _ `CJ J,λh' J hs=>h _ ?_,A5 (A1 fin),`rV `ci `ij,λζ=>td σ H1 λx H2=>∃a o,`fa/\`aGM/\Q (.bl ζ) H2,x90.lookup,λζ ξ=>ζ hu I2 g ry λw' s3 I3 J=>#[ξ,H2,I3,J,q2],(`byf),λζ ξ=>ζ hu I2 g ry λs3 I3=>#[.bl ξ,H2,I3,rfl,q2],`byg=`vk,`KR `aGN,`aaY `OQ,`aGN=`byh,#[`xj,λb q=>?_,hd],(by let#[ob,_,_,h1,h2,_]:=dd),#[ob,h1,h2.2.1],h _ _ `CJ ?_,(`byi),λζ ξ χ=>`byj m.base m.few m.line xs0 ζ ξ (thn `EG χ),(by let#[t1,t2,_]:=Lq0 I1 d),#[t1,t2,?_],λζ=>y9 rfl (E20 (F3 (thn `byk ζ))),#[x,ns,e,`ei s g],`q1 `lk `sZ,(by let#[a',h1,hb,_]:=`afC),(`bQ `byl),`n `bym,(by have h1:=`byn),(`df `byo),(by rcases h with h|⟨d',rfl,rfl⟩),(`ba `byp),∃d,`sV=`sD,∃d,δ[k]?=`sD,(by rcases `MH with⟨rfl,_,_⟩|⟨_,h⟩),`xk j k b d1 d2 q1 q2 h3 h4,`sX i d0 a hi hs,(`bQ `byq),(by have:`ps:=λz=>by rw[z,h0] at h;cases h),(`gk b u h),(by let#[a',e1,_,ro]:=`LB (i:=i) (by rw[`Cd J])),`K h (`aGO ob xs),`sX j ds b h h2,`iT H' (`B9 i `Dn) `sZ,(by have g:Gr H H' B `ON:=`byr),∀{j:Nat} {d':D} {b:`f},`sV=`c (.ow d')->`wi=`c (`c `EH)->`PI,(by let#[a,q1,q2,q3]:=e.at h1),(`ba `bys),(`bQ `byt),λζ=>`EI #[p,rfl,`Mx,ζ] i `byu,(by exact`byv),(`m1 a z).same s,(by rcases `h8 h3 with⟨_,e3,_⟩|⟨n3,_⟩),`K rfl (live h2 h4),(by rcases `h8 h4 with⟨_,e4,_⟩|⟨n4,_⟩),`K rfl (live h1 h3),`K rfl n4,(by rcases `MH with⟨_,e3,_⟩|⟨n3,_⟩),λζ ξ=>∃B':BS,(`EJ)/\(∀a,B a->B' a∨ζ)/\Env K H B' σ ξ,(DL.frz δ),λa=>B a/\¬`afD,`aGz ?_,(Yg0 (B4 h1)).elim,#[B',`ll,λa z=>b2 a (c1 a z),J],c2 a `afs,(`ba `byw),λb=>B b/\`ps,λb z=>z.1,(Vj0 q).elim,λζ=>`aGP #[_,J,e1,λv H' s' r=>k v H' s' ζ],λζ=>ζ h `bg `bh `Lb `z s σ H D I `byx,`B3+`Ly,AutoSeq1.idx_int,`hg `cm `cm,List.dropLast_eq_take,`sW PE e (`PJ tX gx),∀H₀ B₀ d δ,PG X tg (tTG X.K `bg `bh ft d δ),PTG X tg ft,(vv0 `dq t00 hs),(`m `PK),
λζ ξ=>`aGQ hi J #[_,yb0,(ζ `afE ξ).mono `s_],(`ba `byy),(by let#[B,b1,b2,env,rv]:=en.ex),xw0 gt G m δ'=`fj,(`ba `byz),`ie (`ad3) `N,`byA `fB,`ie (`DZ) `N,`byB `fB,λζ=>K70 hc (kq0 (`afF) (kq0 `byC ζ hs2) hs1) hn hst,(by let#[p,xs,rfl,hq,rs]:=r),(by let#[va,t1,rfl,ra,rs]:=rs),(by let#[vb,t2,rfl,rb,rs]:=rs),(en.set i ra).set j rb,(`bQ `byD),(by have h1:q≠i:=`byE),(by have h2:q≠j:=`byF),(by rcases `h8 h with⟨rfl,e3,_⟩|⟨n1,e3⟩),(by rcases `h8 e3 with⟨rfl,e4,_⟩|⟨n2,e4⟩),(by apply `afx (id p1)),`aGR<`afG,Int.natCast_mul,Array.empty_append,z.cps.size,"tuple.__rmul__",A41.lookup,A51.lookup,λζ ξ χ=>`byG (T:= `dg) (name:= ζ) (id:= ξ) χ `bf,`eL*`eM,λϑ=>`c? (∃a xs k,`fa/\y=`fE/\ϑ),(by let#[a,xs,k,rfl,rfl,ha,hx,h2,h3,hz,q]:=h),`afH=`q,`K (`aGS rfl) hx,`afI hl hz,(`cr `eM its).flatten.toArray,`aGT its `eM [],(λs'=>X0 s' k t),F.fills_int_mul,F.slot_int_index.lookup,(X0 s k t),F.entry_int_rmul,(`byH),#[ho,?_],r1.rep `eM,by apply `EK;delta deq;exact jb0 ds n h,min `b2 `fh,`b2==`fh,(`p z t),λζ=>V6 X s H B `lm ζ `ci `ci,∀{m:Nat} {d e:D} {x:V} {u:`A},`EL->V6 X s H B' m e x u->d=e,`ej es m=`d,λj h1 h2=>?_,So0 I ih l l' r r' v,`oq<`i1,λζ ξ=>V6.inj I (ζ k ds a xs its l q r v p) (ξ k' es a ys its' l' q' r' v' p'),.of_refs hab ?_,(`byI),`rU A s _ _ `q,SeqAt.RcAt.lists,Ad1 (A:=A) p p' `aGU hu,(view I ld hx rx),(view I le hy ry),`abZ `ac6 A/\`OR A s u w (!deq d e),(by have J:=`byJ),`ac6 A s _ _ `q/\`aGV,(by let#[B,B',dx,dy,hx,hy,lx,ly,q]:=h),λϑ ϕ=>ϑ _ _ _ _ (`lH `cL (by rw[ϕ] at q;exact q)),Mu0 I 50 50 dx dy x y v u X.A `l lx ly hx hy rx ry,λϑ=>`b_t (`ha (by rw[xz0,ϑ])),(by let#[b,ys,rfl,q2,r2]:=ry),‹`i ›,(`byK),λz=>hz.1 ?_,`k `k' hz.2.2.2,(Zt0 r1 _),(`byL),PDO X lo gl,PDO X hi gh,λζ ξ=>#[l,`hc,`byM,λH2 s2=>#[u,ζ,`byN,λH3 s3=>ξ]],by rw[`a2,jw0,jw0];exact hw,λϑ=>`H9 (S.trans `js) ϑ `b_x,`aGW lv0,List.foldl_append,`aE y t r,`bx+1<`afJ,s.heap.SetOf,(`o (t40 `afK)),s'.heap.SetOf,#[[`Bi,`ag I],[]],m.mono sub,Moved.trans,
`aGX `xl `L `aGY `pt,(∀b o,`PL->`xm),codeAny_of_tree,(`hR s `Dw),(`Dw).get?,`c (k50 J),#[_,gC,rfl],(by simp only[`it,`EM,`EN,`pu,`afL]),wpAny_runValue,`cR "list_iterator",(by obtain rfl:d'=`PM:=m.drawn),`ct `kQ=`g,`gr `kQ=`c (`PN),`hf `kQ,`PO `aed `aGZ,(`byO),L9 ?_ e2 h2,(by show `byP),(`aBW r),(`bc `jm).map,(`n8).free,(`Ll `js),λζ ξ χ=>ζ ξ hg hm hv χ hn hdb he hpl,`aG_ `afM,`PA k spN,`PD FnN x,λp H' hp s r=>k p H' (`sI hp) (`mo s) r,λζ=>(ζ C hr hk ha hg hdb he hpl).pd,(ds.zip es).map,λp=>`afN,(`O h rfl),by rw[`afO];kernel_rfl,`afP `fD n,λζ=>∀s' acc' c',`aG0->`byQ->`aG1->ζ,(`byR),(by delta Builtin.List.listExtendWith),`m2 `dg,(by delta Builtin.List.listLengthHint),λζ=>specialOf (`e1 ζ) (`EO `afQ)>>=_,(λ_=>⟨⟩),`afR `gx `NS `a8,(`byS),`kB (`afS e),(`Dd `PP),λζ ξ=>`aeW ζ λv s1=>`aP `dZ A (`f1 ξ [v]) Q E s1,(`cR `r'),(by simp only[`it,`EN,`pu] at hb),`ln (`bi->Rps K H B `aG2 `ab_),`gr `eV=`c `xn,`ct `eV=`g,`ct `r'=`g,`hf `eV,`hf `r',`PO `aee `aG3,(`byT),L9 ?_ e1 h1,λv s2 hv=>M0 hv,`k `es hz,λd' e'=>?_,`an (`kL=q),`wz=`q,by simp[h],(`aAN r1),(by let#[v,hv,rv]:=(`aG4).1 d h),λϑ=>#[p,v,rfl,`bk hv ϑ,`b_y],(`aG5 `pv),#[p,_,rfl,`afT,_,rfl,?_],#[p,_,rfl,`afU,_,rfl,?_],`H (`LA `xo b=`q) Ai,(`byU),(Wb0 hu `bK `fl),(`aG5 `ng),by apply `EP;exact hz,(`byV),#[ys,yb0,hyl,`afM `s_],`afV fa fd,λζ=>∃(fa:`f) (fd:`f0) (us:`am) (vs:`P),ζ/\`byW,`aG6 Od0,(by let#[fa,fd,us,dvs,F,hm,kp,hb,hd,J]:=C),(`afW hd `bK).imp,λϑ=>#[B,`aKr,d,`UE,`b_z,h,ϑ],PD X `vE `aG7,`aG8=`d,λζ=>key _ xs rs hf hd p e (ζ),loadIfAlive,`aj->`fz,`afX=`c4,ys[k2]?=`g5,`aG9 i1 l1 (k1+1),`aG9 i2 l2 (k2+1),(`byX),(by show `byY),(`df `byZ),(by show `by_),(`df `by0),A1 (d5 hTI rfl ?_),(by show `by1),(by simp only[List.forIn_toArray,`afY,List.forIn_nil]),`PQ `aG' `ab0,`PQ `aG' `ab1,(`by2),(`by3),h₄.objs.size,#[_,rfl,?_],λo e=>`vi,`afX=`g∨`aG!,"StopIteration",wpAny_nextOf_list_end,Q (`c `f2) `k6,wpAny_attempt,`EO "__next__",F.entry_zip_next,(`by4),Q `g `k6,
λζ=>∀(j:Nat) (a:`f),`by5->∃x y,`by6/\`aG?/\`CN ζ a x y,ZG xs ys S h as,g.pairs j a hj,`EQ h i,`aHa S,hk _ _ (B9 L.z) hz,`EQ `aY i,(`by7),(by rcases st.own with⟨rfl,hz,p,q,hp⟩|⟨a,f,oa,hz,ha,n1,n2,n3,n4⟩),λc o c1 _ c3 c4 e=>hk c o c1 c3 c4 e,`afZ∨ys[i]?=`g,`OS acc c,"list.extend.loop",λζ=>∀(h h':`aa),`by8->∀b o,ζ->`af_,(by intro i h tk c acc as hk hi a3 J hS M O hG),E5 F.entry_extend_loop ?_,`jA (`aBY>>=_) _,λζ=>lk h h' ζ b o h1 (J b o h1 e),λj a hj=>?_,(`af0 `aHb),acc.push `aHb,(as++[`hl]),∀S,S≠z->S≠i1->S≠i2->`EQ `aY 0,`aHa `L,∃f0,IsZip `aY z TI TO f0,Ac0 xs ys lo s h' as,F.plain_list_iadd,(`hR s `af1),`m2 `oQ,(`s0 (`af0 `xp)),(`s0 `aHc),List.Pairwise.nil,(`wX `aHd),F.plain_tuple_new,λζ=>by let#[_,e,_]:=ζ;exact `fF,λo e=>hk _ o e,#[_,hz],upd `ER p.1 p.2 b,`k `aHe q,Uz0 X `aHf `aHg r,`ct x1=`g,`ct x2=`g,`gr x1=`c `aHf,`gr x2=`c `aHg,`af2 x1,`ES x1,`af2 x2,`ES x2,`PO `aef `aHh,`q5 (`K! pos2 (`Be)),(`by9),fun σ H Q h=>Ur0 hf h,(`af3).map `PR,tx0 as (xs.zip ys),(`xq).symm,λp=>`cb `aCu,λp hp=>h p `PS,(by let#[q1,us,rfl,s1,t1]:=r1),(`PT).map `PR,∀b o,b∉fp->`xm,(`BV (`PU)),`by'=`g,(`fC (`kz `aHi) t'),(by simp only[`it,`EN,`pu] at hc),(by let#[us,rv,p1,z1]:=`sj),(by simp only[`it,`EN,`pu,`afL] at hc),wpAny_pyIter_enum,Gl X `pw,`ct `pw=`g,(`by!),(`by?),∀a,B a->B' a∨∀ys,H a≠`af4,`ct `ij=`g,`hf `ij,(`bza),(`bzb),∃a,d=`lo,(`bzc),(n==1||`sv==0)=`q,(g7 s x t),call_gives,"dict.update.loop",`sf=`aHj,∀h' tk,(∀b ob,`aHk->`Bu=`OT)->Q `g `jt,`dH (`aHl `ci `ET),(#[hp,g,d,M,os]:`v).TypeIs,λ_=>#[_,hx,rfl],sub_AttributeError,(by delta getAttr? getAttrBy? getAttrBy),λϑ=>(by with_reducible show `b6 (`f1 (`b_p ϑ) _ _) _),#[hx,hA,λh' M e J=>?_],(by let#[t',u',he]:=J.there),(by show `bzd),h _ _ J.keeps,(`h (a+b)),ys[m]?=`g5,(`bze),`Em [lo:hi] b f,by simp[J],eqU `xr (`p y tk),F.slot_tuple_index,ys.findIdx?,λy=>`an (y=z),Ye0 X.K `ct x ys,`cs `PV `N,(`bzf),λζ=>`u #[o,its,n,hk,hc,J,ζ,hv],WData.weightAll,(`cd)->`Dj,`bzg=[],
mg `af5=`OO,`Dz a=`c `PW,`aHm<=1048576,s₁.gens=⟨⟩,(`bzh),`bzi `fB,`bzj `fB,`kk (C1 h3),#[`jx,hfew,`jy,htrees],Option.some.injEq,rr.same s2,`dY=`b2,m10 X `z H it,`rq+(`af6)<=`R,(`bzk),`aP `eD `fD (`aHn #[[`xs,`aaR,`px i,`a8],[]]) (λfin s'=>match fin with|`EU f=>`aHo|`aHp=>`aHq/\`mH `eD A c' R s') `af7 s,(`aHr `hW),λh' hk=>?_,(`aeL `bzl),(by have e:`wY i=[]:=`bzm),`aW (`aHs) `k6,(by rw[`bzn]),A1 (A5 (A5 `w)),(by obtain⟨x,hx⟩:∃x,`af8=`c4:=#[ps[i],`aHt]),rv.get (show `af9[i]?=`c (`ag x.p) by rw[`cH,hx];rfl),(`bzo),(`aeL `bzp),A1 `bzq,(by delta Builtin.Dict.pairItems),(`df `bzr),(by show `bzs),λζ=>D3 (W40 (A:=`fD) I1 hd `l r1 r2 ζ),∀(c:`f) (us:`P),H c=`aHu->upd H d `aHv c=`aHu,zi0 (bu0 ec hd `g4),(`hX+1)=(`ak (i+1)),by push_cast;rfl,λζ ξ=>ih `dn _ `aHw `aeg `l `l I2 `bzt J Y ζ ?_ (λy hy=>ξ _ _ (hp y hy)) yb0 `bzu `bzv,(by rcases hl with (hl|⟨o',hl⟩)|hl),`ja (bu0 hl hd `g4) hl,upd `aHw d (.dK (ww0 `aeg (`aHx)))=`aHy,`wY i=x::`aHx,(by by_cases q:c=d<;>simp[upd,q,ww0]),(`aHr I.tupN),λζ=>λvs H Q=>∃l ps,vs=[`kl]/\ζ/\`bzw,(by let#[l,ps,rfl,hl,hp,hz,k]:=h),(`df `bzx),(by rintro obj s₁ ⟨rfl,rfl⟩),(by have I1:`bzy:=`bzz),`EV `af' `f2 `ij,(by have M:`bzA:=`bzB),#[hT,B41 _ _,?_],(by delta Builtin.«dict.__init__»),(by delta Builtin.Dict.selfAndRest),(by show `bzC),(by show `bzD),(by delta Builtin.Dict.updateFrom),λζ=>show `EV _ `r9 ζ from `bzE,λζ=>A1 (ζ Y Z a1 a6 `af! `bzF),Option.isNone_none,(by have I2:`aW `EW `af?:=`EX (t':=J) k1),A5 #[`aga,`agb],λϑ=>`aW `EW ((`fC (h1.push (`e? ϑ `b_i)) J)),I2.kept (t':=J) `xt,D0 (B6 a2),(by have a3:`bzG:=`bzH),λζ=>ζ (X:=X) (pins:=`z) (σ:=σ) (A:=`aHz) (it:=`s1) (l:=l) (d:=`L) (ps:=ps) `af! `V 0 _ _ [] `l `s2 I3 `bzI (D0 a4) a5 ?_ hl1 `bzJ yb0 `aHA `bzK,#[`gW,_,I',rfl,?_],upd `EW `L (.dK (ww0 [] (`wY 0)))=`BV `aHB,(by by_cases q:c=`L<;>simp[upd,q]),`c `bzL,λζ=>ζ hu `NU `z s σ H vs us Q I r h,`D `py ((`agc).map λr=>`aHC) `g,(`rE ws),
(by let#[ps,q1,q2,ws,q3,q4,q5]:=gr0 rr (ks:=[]) (vs:=[]) (ws:=[]) (`jg) rfl e2),λϑ=>#[q,ps,rfl,`bk q1 ϑ,q2,`b_n,`a53],`aEQ=r.1.zip ws,(`ba `bzM),b.cps.toList,a.cps.toList,(nd0.mp h1),(nd0.mp h2),leS b a=`d,`c8=`bx,`age `bO=`pz,(`bzN),`xu `bzO,`jz (arrOf a4),`dN `aHD,`gr `o2=`c `agf,λl J=>?_,`aGJ<=`s3,`bzP k,∀b o,`PI->`aF9,`q1 H' `sZ,(`ba `bzQ),(`bzR),(`bzS),(`hR s2 `aHE),(`PX).bind,`agg=`d,k _ H2 `kR `LG,`bzT hl,(`bzU),orE g1 g2 δ,by delta orE;rw[e1],(by intro pins s σ H Q I #[d,en,h,k]),#[d,en,`PY h,k],`rv≠`h_,`sq X.K H B f kvs,newEnv fd.scope `L `aHF `aHG (`aGm ++ `aHH) (`c f) fd.code `g fd.builtins,(`bzV),λζ ξ χ=>U1 (x6 e4 e5 a1 (by show `lp y ζ=ξ;simp) #[χ,?_]) Y,`Mo `bN t,λζ=>λx H1=>Yb0 σ H1 λxs H2=>ζ,`EY b=`aF,H2 c=`aGl,H Pt=`c (.tbl tp),Heap.ExtBut,`PZ lsc `N=`aHI,defaultsOf lp `N=([],[]),X.env.code=`ag c0,`Dy `fL c0 Pt,X.base.BuiltinsAt `ct Pt,Ve0 (`aHJ pm) x y c cd,λζ=>LamDone X H s x y c p f cd oF oC oK fd H2 ζ,`xu (W.kla_obj `Ou `aei lp `OF lsc `OU `aHK c' ctv),λb o z=>B8 _ z,H `c!=`g,Array.toList_append,λb z1 z2=>?_,#[rfl,rfl,hfd _ _ _],`u `bzW,`K z1 z2,zi0 (C1 Y),(⟨`p q t⟩++ps),`i4 k `OV,s₁.heap.BuiltinsAt mg Pt,∀(s:`v) (u:`A),`P_ s fd `aeo [(x,u)],SqL K H a `xv,λζ=>CX [] H ζ (`xw) e s'->`cx,`aHL `s4,upd H0 Pt `aHM,(by rcases hO b with z|⟨rfl,_⟩),λζ ξ χ=>none_of ζ (by rw[ξ];apply `agh) (by rw[χ];intro z;injection z with z;exact `bzX),kept b o nb e,∀b C dx fs,(b,`aHN)∈sub->`Bs dx=`g,`OA=`c p.2.ho,∀C dx fs,p.2=`ms->p.1=a,SubO.no_own,SubO.no_frz,o.there (x b _ (J l)),`NX H a sub b,`P0 H a sub,(`i8 H sub),∀so:`dW,u≠`P1,(by have nl:∀so,`lq≠`BC:=λso l=>n so (`PY (c.at' _ `agi))),nl so (z▸l),`K l (nl so),λso z=>so.no_tup xs `agj,λso z=>so.no_frz o u `agj,λso z=>so.no_tbl ps `agj,(`bzY),`h (p:Int),(`bzZ),(`bz_),`lr X as Ga,`lr X bs Gb,(`kE `P2),`P3 j++`g0::`agk j,`Ds H us,RpG K H B b p,f b ds=`aDA,(ds.take j).map,(ds.drop j).map,`K h (J _ _),`c (.rt r δ'),(λa=>`aHO),hf b ds r b' h,
(by let#[B',c1,c2,J,rv]:=ev.ex),(by let#[a,h1,hB,rl]:=J.at e'),∃q:D×D,∀p,EndB G `wD j p q.1 q.2,`dy ks vs,(.ow (`CR)),(by exact`bz1),λζ=>∃a sub,`bz2/\Q ζ (`i8 H' sub),λu s' z9=>`aHP `aHQ,λv H'=>∃a sub,`i6 H' a sub/\Q v (`g6 H' a sub),[`p "@",`ko],RpN K H' B as d v,`aHR=`BC,(c==x)=`q,`i8 H `eK b,`K z hb,by rw[`fW `l,← e],λζ=>k30 h.hd `d6 `d7 (λk c so e1 e2=>ζ) h.ins,h.opAt e1 e2,(`bz3),∀C dx fs,so'=`ms->k=0,(`bz4),upd H a (`oy `agl),(`agm k n'),`ei (`K5 hB),(`pA).bind,DL.setN i k n' δ,`lh=`ND,(by rcases r with⟨k',c,e1,e2,e3⟩|⟨e1,_⟩),(`MM en.atN e3),`aHS (`aHT)=_,(by let#[w,w1,w2]:=rx.atI h),λζ=>#[c,xs,z,w,rfl,rfl,ζ,w1,ad,`b0,c1,?_],k w H2 M w2,(`bz5),(`bQ `bz6),`agn r1 hn,nrf dv=`d,`fh<`R,(`m (es++[dv])),pa0 d=`f_,`C7 w.all hn,(`bz7),`wu `P4,λζ ξ χ=>vx0 (jj0 X1 ζ ξ χ `ago `bz8 `jx hfew `jy hs `sY) `z s σ H Q I `aHU,#[a,`b0,`ni,`agp,?_],#[a,`b0,c1,?_],M.w.openOk,M.w.opAt f1 f2,(`bz9),`aFN pos f `w' (`aae) `aFO,pn0 (`Pt) ds f,(f==n)=`q,`c (a,l),λζ=>`bz' λl=>`bz! λp=>`bz? ζ,(Of0 p.1).bind,lc0 (m:=l1) w3,λζ=>`P5 λdv=>`gI λns=>`agq λp=>`agr ζ,λζ=>`oS i 0 (`t [`aHV,`bAa,`m (gt0 `DA `adb f ζ)]) δ,(`df `bAb),(by let#[C,O,nm,xs,rfl,rfl,hl,hC,a1,rx]:=`P6),(`bQ `bAc),λϑ ϕ ϖ=>`ada b1 b2 env s1 at' `aes Y (n':=ϑ) (so':=ϕ) ϖ `ary (d:=`y) (v:=`y) `st,λζ=>`t [`ags,`aHW,`m (gt0 `agt ds f ζ)],(`Me nm ys),λζ=>#[C,ζ,nm,ys,rfl,rfl,y2,hC,a1,y3],(`m es.dropLast),(by rcases hb with hb|⟨ob,hb⟩),`k (ra0 O) hb,(`bAd),λζ=>Yk0 (vx0 ζ) hsw `z s σ H De I `aHU,(RpN X.K H1 B as),λb o xs e=>?_,λr=>`D (`cV r=`d) `fj `g,`m ls::ds,λ_ z=>`xx,`n #[`D3,`aCn],`bt k ps (spB K 0 f),FnT `dT X.w X.K `ct `fL c m k ps F f,(`bAe),`cs `aHX `N,(by let#[a,J,hB,ro]:=`Dt),λζ ξ=>#[`cQ,J,a,`b0,w.openOk,a,dx,fs,rfl,w.opAt w.hd ζ,ξ,a,`b0,c1,?_],`s5 H' (`gy i (.ow (bm.2 q.2))),λζ=>kk v H' (`aaU (`agu b1 b2 hi J ζ M) b1 b2 M rv),(`bAf),(`gy i .un),(by rcases `MG with⟨_,z,_⟩|⟨n1,h1⟩),`kb [`add] `N,(`bAg),
(by have hH:`aHY:=at'.w.at'),`cP H2 H3,`c `q3,H b≠`g,(by have aL:a≠L:=`bAh),(`o `mq),`P7 `S `EZ,(`mq).Nodup,(`bQ `bAi),La (z▸hx),`pB[0]?=`kD,`k (`h' (`c9 `xy).1) `xy,λζ ξ=>∀(k:Nat) c so,`bAj->ζ[k]?=`BC->`bAk∨(`agv/\c=L/\ξ),(by rw[`bAl] at q2),`n `P8,(`c9 q1).1,by simp only[`ae,`rp] at hl1;lia,(`ba `bAm),`aHZ k C dx fs e,b4.w.opAt q1 q2,`aH_ O,`ps->Hc b=`oG,∀b,b∉`mq->Hc b=H3 b,λζ=>`ap (show ¬b=a from λz=>hb ζ),ra0 (λz=>hb `agw),But a H Hc,(by have gr:Gr H Hc B B:=Gr.but `xz but),(`bAn).1,(`df `bAo),`aHZ k C dx fs q2,(a,`aHN)∈`b0,C8 (i:=0) ?_,List.getElem?_zip_eq_some,`E_ (`P9),λϑ ϕ=>`arE ϑ `hx but ((`Iy ϕ).2 _ _ _ `b_o),`kk (C1 b6),(`c7 z).elim,`jf=`h!,`k `EZ (`CS `agx),λζ=>`n #[`jf,L,rt0 _,by rw[ζ,`xA,`pC];rfl,rfl],`kb `s6 `N,(`bAp),mx0 i ga `agy `aH0,mx0 i gb `agy δ2,`aH1 B' `hY,(`bAq),(`MM `MN q2),(`aH2 q1),λp H2 hp s2 ro=>?_,Env.blank (by rw[← env.len]),H1 p=`g,`xB (`Nr sm) (`rf sm) ?_,qk0 hfl rx,(`bAr),`c `bAs,`aH3=`aF,ic0 e q (λy=>nomatch y),`K `w (F40.mpr ge),`aW `aH4 s2,nk0 H2 c b,L.same.old _ _ e,L.keep b o n e,p80 (nl0 e).1,[`aEU,`acy],(`q,`aH5),(`lg (`acy)),`C3 `agz,(`aB0).In,λ_=>`Pp,`gr `dg=`c `s7,`i8 H1 `eK,λl hl=>?_,H3 b=`i?,`g6 H3 a `eK b=`i?,(`xC λv H' ev=>?_),(by let#[B,c1,c2,env,rv]:=ev.ex),ev.s.lower hS `jw,(`bAt),(`hw).map,`cV da=`d,λζ=>ζ `aH7 `aH8 wh `z s σ H Q I `aH9,`g6 H a sub b,e.bs b o z,H dx≠`g,`i6 `P' a `agA,Hc=`bAv,`E_ `agB,Vi0 f `DA=`d/\`agC,λζ ξ=>.nx (`oS i 0 (`t [`aHV,`bAw,`m (`adb++[ζ])]) ξ),`aH'=(`P!).zip `PK,λζ=>`t [`ags,`bAx,`m (ds++ζ)],λζ=>`i3 C O (`Me (`P!) (xs++ζ)),`ax `au,`P7 `S hl,`t [`dC,`u9,`u9],`hf c,`ES c,`H (`K2 `aH! `Mz `aBI `N=`u?) Aa,PSD X (`nj `s6 `aH! spos) (Zl0 j c f),λb=>B b∨b=x,Sb0 K C F=`d,(`aH?).map,List.filterMap_nil,`m `agD,`H (`aIa `aIb) Al,(`bAz),(`hR s4 (s4.heap.push (`aC! vc))),`ag `bAA,[`p p.1,p.2],isWord w=`d,H30 v=`d,(`bAB),(`rg [`aIc] rfl),(`C!).foldl,`E0++`agE++⟨c⟩,(#[_]:Str),(`aek `afc).sum,`agF `e,`aId jv0 acc,#[h,λa ha=>`n ha],
`E1 `hS=`c (`m `dE),(`ax `E2),(`bAC),(`ba `bAD),(`bAE),xi0 `hS=`dN `aIe,(`ba `bAF),ua0 [p.d,`wl],[`CD,`agG,.un],(yr0 (d:=`aIf) ?_),[`oK,`agG,.un],`aG [(`Bz).d],p++sep++he0 sep (q::r),(`bAG),(`bAH),mkF 2 qw0 p30,`aIg (`u h),λζ=>by simp only[ζ,ii];rw[`bM],`sk=`pD,∃z,ug0 `aIh=`agH,(by show `bAI),`bR a++`bR b=`aIi,(by rw[`fm,`bAJ]),λζ ξ=>show ((-1:Int)+(ζ:Int)).toNat=ξ by rw[`S];apply `xD;lia,(`bAK),(`bAL),mkF 1 p10 qz0,(`bAM),(`bAN),(`bAO),mkF 1 o60 oc0,(`bAP),(`bAQ),[`gi, `wE, `rA],mkN 1 oq0 od0,(`bAR),(`bAS),[`ee, "bodies", `wE, "body"],mkN 1 gp0 g50,ob g δ=`ih,`aIj f,Nat.le_zero.mp h,2 ^ (m+1)=2 ^ m*2,ih `s8 `l,`Mk<=2601,A2 (F70 _ _) h,[a,`agI,`fN `jo],#[s,?_],yc0 [`fP]=`xE (bs n),w50 rfl ?_,(2:Nat) ^ 12,tp0 [`fG]=`c (`E3),`bs (z<0)=_,(`ak `uR),λζ=>by delta fold;rw[ζ];lia,`h (`acp),(`bAT),`bAU=`acJ,`bE ((`ak `aIk)=_),`aG [`fG],λ(c:Nat)=>`vt,wf0 `P?=`c (`agJ),(`m (a.map `h)),(`m (b.map `h)),`c `bAV,(by rw[`bAW,`au]),`aC+e.length<=`R,R9 (v60 i g) δ,Nat.add_mul,(`xF).flatMap,(`bAX),`Qa h,A2 h `bf,(by rcases h with⟨s,rfl,hs⟩|h),rd0 `eG `DH,`c `g8,el0 rfl `l,`aG `P?,Zi0 s `l,`aG [d],`Qb `fU,(`bAY),`oZ<=140000,`Qc*2630<=50*2630,(by show `bAZ),v70 `hS=`c (`agK),vh0 `hS=`c (`agL),[a,`bb pre,s],#[s,`a_],wy0 `hS=`c (`aIl),[`CD,.un,.un],[`CD,`et,.un],(`bA0),[`oK,.un,.un],`aC*2630,[a,`bb (`vz `h),s],min j `aC,d.1.length<=20/\Vb d.2,(`bA1),(by let#[p,hp,hm]:=i5.mp hd),(by have hp:=`bA2),(`o `pE),(`bA3),λζ ξ=>io0 (`pF) 2601 ζ λp hp=>rd0 _ (`DU ξ),(`o (`xG pb)),pg0 `bA4,min j `V,m4 _ `l,m `hS=`aIm,`nk `aIn `aIo,#[p,rfl,rfl],pw0 [`ro]=`xE `adK,[`xH,`Qd,`ls `C5,.un],pg0 (h.it p `Qe).gp,sts ps `ji,`Qf++[`Qg],(`bA5),[`ee, `oi, `gi],mkF 1 pq0 pk0,(`bA6),[`Cn, `Om, "book", `acF, `oA, `iW],mkN 2 qd0 qg0,(`bA7),mkF 1 m40 mc0,dkv `Qh `agM r,`agN↔`s9,#[k,h,`E4],(`o `ab3),(`sc).1.length,`c `bA8,yz0 ks vs `h3,val hk hv n,`c `rs,oth `Qi `e8 `kw fk fv n,(`bA9),`s' `aIp pr,`s' `aIq pr,`X `Cm `gq rfl,`E5 `bA',xo0 `agO `agP,(`aH key).Nodup,`o3=`q,
λζ=>∀(l:`_) (ks:`a1) (vs:`i),ζ,ks++`aH λp=>`aIr,(Q2.mp h).imp,`aIs=`g3,`Qj=`br,`agQ=`br,[`pG,`xI],(`M' i).map,[`eh,`Qk,`Ql,`xJ,.un,.un],.sh (`C8),`Qm `wU,(`bA!),(by show `bA?),by rw[`jB,hx',`au];rfl,λϑ=>`qQ (`D ((`o ϑ)<`R) `Sj `g),#[_,_,rfl],`t (n::r),w70 `E6 `h2,ed0 (key:=`aIt) `d6,`hQ c `aIu,(by rw[`bBa]),(by rw[`bBb]),xg0 `Mi `rZ,`s! `agR e,ws0 g1 g2 δ,`rY=`eN,`Qj=`ih,λζ=>by delta yy0;simp only[];rw[ζ],λζ ξ=>by delta yy0;simp only[];rw[ζ];simp only[];rw[ξ],`c `bBc,(by obtain⟨W,hW⟩:∃W:D,W=`iu:=`al),[`d5,`Qn,`et,.un,.un],(`bBd),oA `b3 wb0 `agS=_,`V<=1000,[`bBe],p.pnames.length,acc.map `p,λϑ ϕ=>p6 `eI (`ax (`bz ((ϑ).all=(ϕ).pnames))),`Qo `Mj,hl p `Qe,[p].flatMap `Mj,[`d5,`et,.un],(`Qp).map,(`aIv:Int),`Qq=`d,by rw[`cI] at h;rw[deq];exact Y40 (ak0 n) xs h,lp ps `ld,yz0 (`agT) (vs++[v]) q,(`bBf),`aIw q,`c `bBg,`aIw k,(`C? `Qr),`DS∈`agU,`DS∈ks,`c (g n),(`dB m:Q3),`jq n h,yz0 `DI `DJ `h3,λζ ξ=>(Bc1 (ro0 ζ) (ro0 ξ)).mpr λn=>?_,(λn hn=>by cases hn),(`bBh),(`bBi),mkF 2 dd0 dh0,ent es2 c=`c e2,as1.find? `KK,yy0 es1 as1 `vT=`i7,#[y,rfl],`k `x h.es6,`k `M `d6,Nat.one_pos,[.sh (`iu),.sh (`pG)],shapes `pH `E7,(`bBj),`nk `agV (`aH `K0),(`bBk),λp hp=>(hg p hp).vals,(`bBl),mkF 2 n80 g80,(`bBm),(`bBn),mkF 2 ov0 ob0,(`bBo),(`bBp),(`bBq),mkN 2 oh0 ou0,(`bBr),(ob (oA `E8 ui0)),(`bBs),(`bBt),(`bBu),[`ee, `rA, `kf, `LV, `gi],mkN 4 oj0 o70,(`bBv),[`ee, `wE, `kf, `LV, `n7, `rA],mkN 1 ao0 by0,(`bBw),(o2 `Z `hi xm0),(`bBx),(`bBy),(`bBz),(`bBA),(`bBB),(`bBC),(`bBD),(`bBE),(`bBF),mkF 2 p20 qx0,(`bBG),(`bBH),(`bBI),(`bBJ),(`bBK),mkF 1 lg0 lp0,(`bBL),(`bBM),(`bBN),ws0 (ob `aIx) (ob `aIy),[`ok, `aaQ, `o6],mkF 2 ks0 ku0,(`bBO),(`bBP),(`bBQ),(`bBR),[`eE, `ok, `o6],(`bBS),mkF 1 o30 or0,(`bBT),(`bBU),(`bBV),mkF 2 m70 m90,(`bBW),(`bBX),(`bBY),(`bBZ),(`E9 `e4),(`bB_),(`bB0),(`bB1),(`bB2),(`bB3),(`bB4),(`bB5),(`bB6),KeyKind `hO w K,A1 (B00 h2 d2 ?_),(`df `bB7),(by rcases `bB8 with z|z),(by rw[`bB9,`xK] at hx),
λϑ ϕ ϖ=>∃kv,ϑ[i]?=`at8/\`aIz `kL ϕ=`d/\ϖ=kv.2,λζ=>λi hi=>Pairs.at_ ζ i _ `bB',(`bB!),(by let#[kv,q1,q2,q3]:=e1 i hi),λe=>`aIz `kL e.key,(Y.map `bO),(`bB?),mkN 1 d40 dw0,(`bCa),(v10 (pv0 5) `wm),(`bCb),(`bCc),(R9 `aIA),orE (`s? `m!) (o2 `Q `m! xg0),(`bCd),(`bCe),[`gi, `adR, `m4],mkF 2 lf0 lm0,(`bCf),(`bCg),(`bCh),(`bCi),mkF 1 rr0 rm0,(`bCj),[`ku, `r8, `iW, `ok],mkF 2 m80 m50,(`bCk),(`bCl),(`bCm),(`bCn),(`bCo),(R9 (v20 4 `Qs)),(R9 (v20 6 `a6)),(bh0 3 `cw),(`bCp),mkF 3 kx0 jf0,(`bCq),(`bCr),(`bCs),(`bCt),[`ku, `r8, `Op, `iW],mkF 3 j50 j30,(`bCu),(`bCv),(`bCw),(`bCx),[`ku, `abp, `iW, `vw, `r8, `aa6, `Op, `rA],mkF 2 j80 je0,(`bCy),(`bCz),(`bCA),(`bCB),(gc (`aIB)),(`bCC),`h 1000003,ob `bCD,o2 `aL `Q ixD,(`bCE),(`bCF),(`bCG),(`bCH),"_law_makes","_law_fills",z8 `rB (z8 `cT (z8 `dz (z8 (o2 `aIC `oo u90) (`el (`aID `agW) (`aID `aIE))))),(`bCI),(`bCJ),(`bCK),(`bCL),(`bCM),(`kg `cw),(`bCN),(R7 `agX),"_law_known",(`bCO),(`bCP),(`bCQ),(`bCR),(`bCS),(`bCT),(`bCU),(`bCV),(`bCW),(`bCX),(`bCY),(`bCZ),(`bC_),`lt (l++m),`lt (x::l),uy0 F (`iS),uy0 F (`agY),`oY*128+`sE - 128,`aZ (`No=`aDN),#[[],rfl],xw0 gt G (f+1) δ,`fN `agZ,λd hd=>(by cases hd),`X F `iS rfl,`ag_*128+`wF,Int.le_trans,λζ=>by delta Bw.fold;rw[ζ];omega,`bC0=_,`bn `cK,(`an (n=0)),(by show `bC1),`jC t1 `ds,(by show `bC2),`h (e:Int),`xL (`aH `ag0) δn,`c (.ct δn),`c (.bk δn),`ax hl,by delta strOf;rw[hl],[`m (`aek `p)],u00 `g_ `ag1,(`bc `eG).map,λi h1 h2=>?_,(`bC3),`Qt id (`C!),l30 (`aIF)=`c (`C!),`bC4=0,wr0 `bC5,(`E' `vY .un),w ≠`o6,w ≠`mn,a<=10000000,`h `bC6,(`E' `pI .un),(`E' `pI (.sh (`aIG))),[F,`iS,`p t.w],.sh `aIH,PAB `bC7,(`bC8),`ag2 δn,Nat.mul_le_mul,`bm<`e_,[`bH `o6],[`bH `mn],`bH `O3,[δ0,`he],(`bC9),Mi0 _ n hn `az `az,(`bC'),yd0 `bC!,(`bC?),wr0 `bDa,(`bDb),(`c `pa),λk=>l[lo+2*k]?,(by rw[`ag3 q,`bDc]),(by rw[`ag4 `l,`aII `bq,`aII `l,List.take_nil]),(`c `cS),λϑ ϕ=>∀(ps:`_) (k:Nat),`rN[ϑ]?=(ϕ)[k]?,`D! `rN (`c 0),`D! `rN `adE,(`jD).map `aDQ,[.sh (`Qu)],`le (ones `E!),[`Np,`aIJ],(`bDd),
[`ab?,`ow (`ag5)],bs q.1.length++sg q.1,bs (vn q.2),#[`o6,`oN,[`vt]],bs c.length++sg c,`aIK Itm.d,(∀q∈ps,Vb q.2),`Qv `D9,λr hr=>h r (A7 _ hr),`Qw _ (`ta _),`Qw _ (`mG _),(`d2 `V `ab'),`aIL Itm.d,`bDe `bH,`Qv `D',Ir0 ps (Nc0 `ld),λq hq=>`DF (`n `wH),(`o `D'),λζ ξ=>ie0 (F:=F) (a:=a) (n:=ζ) ξ `aIM,[`bd,`cJ,`Qx,`ag6,.sh (`Qy),`et,.un,.un],[`bd,`cJ,`Qx,.un,.un,.un,.un,.un],`X `fP `od rfl,bg ps `ji,`dI+`aC,[`bd,k,`Qz,`cJ,`bb (`vz lp),s5,s6],(by intro pre a f s5 hf hN J hp ht),[F,k,cn,`aIN,zs,s5,`et],Tel F 0 (`pE),`ow `ag7,(`ag8 .un .un),`fN `ag9,`xM∨x∈S,Dfs adj S (c+1) o `ag' r,(by let#[m1,m2,rfl]:=F50 (hs a A8)),x<n/\x∉S,X2.mp `l,(`bDf),`tb∨(`aIO)∨∃j:Nat,v=`rd/\j<n,(∀v∈vs,`QA),wl0 `eW `tc `jE `aar vs,iq λu hu=>h u `adr,(by rcases `ag! with rfl|⟨z,rfl⟩|⟨j,rfl,hj⟩),λζ=>`BN (oA `ca `E1 ζ) Vl0=_,`aEV `fB=vs,(`bDg),`bs (0<`fS),`bDh=_,`X `QB `b' e,`bDi=_,decide_eq_decide,`c `bDj,(by have e2:`bDk:=`bDl),xo0 `QC `sy,`bZ (λz=>z h),λζ=>`bDm->∀(m:Nat) (s:Sl),c<m->∃s',ζ,(by let#[s',e]:=`bDn),MBg gw `ag?,λϑ ϕ ϖ=>p6 (ϑ s o T x) (p6 (δ':=ϕ) (`ax ϖ) rfl),`mf 20000,hT y (A7 _ q),[`d5,k,l,`aha,`aDT,`wI,`kh],xt0 `QC `sy,xy0 `QC (nd U++td o) `sy `KC,λϑ ϕ=>(`bL ((`o (kd ϑ))<`R) ϕ).map `JI,(`d1 qo0),nd (`jk `m5),∃s,r=o++s,#[[],(F80 o).symm],λi hi j hj=>?_,`u (`jn),#[x::s,`eO e `be],λζ=>yz0 ks (nd (`xN ζ `dY)) k,λ(k:Nat)=>(`pb `cS:Q3),λs=>`ahb,List.mem_map,0<`V/\`ahc,`u `gY,xo0 `vh `QD,`aIP `aIQ,Vm0 `aIR,`c `bDo,((`QE B j).mpr h),((`QE B j).mp z),yz0 `vh (nd (`bc `E?)) `QD,eg0 `aIQ,(`bsv),[`dh,`vR],Bw.Nb0 _ _ `l,[`Fa,.sh X],`h `bDp,[`L5,d,`kK,`vR],(`bDq),(`bDr),`c `aIS,(`bDs),`D `fY (bs `aIT) `aIU,(by generalize `mp=p at w1 w2 hq ⊢),`xO `L5,(`w_ o s),`kN `E?,λϑ=>`Bp `JI (`bL `b_q (ϑ:Ds))=_,λϑ ϕ=>`sn (xt0 `uT ϑ) (xy0 `uT `bfG ϕ `bgx),`I `bDt,(`bDu),(`bDv),`ahd++[d],(by rcases hd with⟨x,rfl,hs⟩|rfl|⟨x,rfl,hx⟩|⟨j,rfl,hj⟩),(`df `bDw),(`df `bDx),(by have e1:nB B `mm=`aIV:=by delta nB;apply `lu),
(by have e2:`bDy:=`bDz),`bU `aIW rfl,`bU `aIX rfl,∀s:Str,`nl->P `g8,λs h=>hn s (D1 _ h),`rC p hp,o++pk ps f B T W,(by obtain⟨g,rfl⟩:∃g,f=g+1:=#[f - 1,`U]),#[`U,B,T,s,?_],#[`aIY,`ahe,hn,J,O],(`ot).Nodup,`xP (`QG `QH (h `aIZ)),(`o `ot),`c3 `bDA,(`MV).vals=`aB8 `hb,#[?_,rfl,rfl,?_,hv,?_],(`o `QI)=`V,lz0 `hb (`lv) ps,`pk `QI,lkd (π j),L.map λk=>rel `dJ (`xQ),(`o `aaf)=`oD,Ui0 `dJ (`xQ),(by rw[`bDB]),p50 `bDC,`rC _ hm,by injection z with z;lia,(∀x∈T,C x),λζ ξ=>Ms0 ζ [] `V `td (λi hi=>ξ) 1000 [] [a] `bDD `E E8 `bDE `bDF,λζ=>λi hi j hj=>(f2 i hi j ζ).resolve_right `az,`fN `Fb,(`n `cS),(`bsw),ixD W `Bq,Tl W x `Df,[W,`iS,`Lg],(`bDG),λζ=>λi δ=>∃s4 s5:Sl,δ=ζ,[`te,`cJ,`Fc,`Fd (`MX 0),.un,.un],(`c9 hk).1,`d1 `fb,(sts ps n),λ{v} hv=>`Qa hv,(`bDH),tp ps `ld,`ac `QJ,`bDI=`ahf,(λx=>`aE_),WB `ahg,(by exact`bDJ),xt0 `N7 `sy,xy0 `N7 (`ahh) `sy `Df,`ac (`aI_),(by rcases h with rfl|⟨z,rfl⟩<;>rfl),(∀a∈r,∀b∈r,f a=f b->a=b),`mG `v!,Ta.bo0 _ `gY,Ta.bo0 _ `aI0,lkv f `mm=`t [`ri,`ahi],by delta lkv;apply `lu,(by rw[`bDK]),(A7 _ hx),λζ ξ=>{ S with begun:=ζ,wait:=ξ,digits:=0 },[`ri,`ko],`ao (D×D),(`h4 p.2).map,(`h4 (p.2.drop 1)).map,Oz0 `dU `cE,λζ=>∀p,∃δ',G `wD=ζ/\`ahj,z80 G1 G2 δ,ifB g Ga Gb δ,by delta ifB;rw[h];rfl,`bR (he0 sep `Fe),`m `bDL,he0 [] `aI1,`c (vb0 1),`c (vb0 2),(`o `Ff),(`ady).set k (`m (`ahk)),`c (`QK),`aI2 (`tf::δ),`ahl `pJ,λϑ ϕ ϖ=>(`D ((ϑ)=[]) `g (`c (`JI (`oS 0 ϕ ϖ _))))=_,`gs `xR,(`bDM),`DN k `aI3,(gc (`aI4)),(by show `bDN),{ S with un:=u },`m (`pJ).dropLast,[`bDO],(by let#[c,b,u,nm,w,dg,l,sp]:=S),List.count_cons_self,`K rfl hv,`bDP=_,`dD::`cE,λζ=>`cb [`p (`u0 (`bDQ ζ `tg).1),_]=_,`L8 `th,`adv::`ahm::((`r7 `aI5)++[`u9]),List.map_congr_left,λb u δ=>by rw[J,hL];kernel_rfl,`N_<`R,`aI6<`R,`hg `x `es,wd `bDR,λζ=>∀(a b:Str),ob `bDS [.sh (`lo),ζ]=`c (`aI7),λa b=>`ahn,[.sh (`Cs),`he],`aho `adt,`ahp `adt,`h `aDZ,(`QL S [w]),`mf 200000,`m ((`wJ)++[`B6]),(`QL S ws),ql0 `ahq=`d,List.mem_reverse,
`m ((`wJ)++`ahq),(`bDT),`bDU<=_,(`aDY).flatten,`la (`xS),by split at h1<;>lia,.ow `bDV,[`gs `QM,`vJ,`he,.un],cw0 S (`aa5),(`CA).wait.length,gc0 kd n J,(`ak `ahr),`bDW=_,link (`aI8),(`df `bDX),orG ga gb δ,by delta orG;rw[wd0 h];rfl,n*128<=323,(`bDY),(`bDZ),`bD_=_,`c (`q,`ti),(by show `bD0),s20 (ds:=[]) rfl (Tm0 S),(`df `bD1),.sh (`p (yt0 `lc)),(by rw[`bD2,mj0]),[`Fg `uL],`H (`aI9=`vu) Am,[`gs (next S1),s1,`ed],[`aI',s1,`ed],(`jc S1 (`aI9+1)),`d0 S l S',[`c1,s1,s2],#[s2,rfl],[`tj,`Fh,J],[`c1,`Fh,.un],`xL `QN `aI!,λζ=>(match SB ζ with|`fV=>`aI?|`ahs=>`aI?|`aht=>`fV|r=>r)=_,(`N! (`QO)),List.drop_zero,`h `bD3,Nat.pow_succ,(`o `aa4),D7 λj _=>?_,`QP `dh (`an (s.cps.toList.length=L)&&`adC `e6),(`Bx:Int),(`o `vQ),(`aJa:Int),`Fi `ahu c,A.length ^ k,`QQ (`QR ?_),(`pK z).1,[`rh,`B8],(`ak (2*L+1)),R `bD4,(`QS `aJb),`m ((`Ff)++[`tk]),(la0 p S _),(`xT:Int),(`o `aAw),ve0 `cc [`iX],λζ=>an0 S b hb hn hl `l hL hleft p _ _ ζ,(`o `Lc),(`N! (`va S `wL)),(`Na S w),(`aJc).zip `aJd,(by let#[j,hj,rfl]:=`c2 hi),(`bD5),∃c:Nat,d=xp0 [c],`ic `aJe,[.sh (`Cs),`adF],`vN rfl,(`bD6),`h4 (held.drop 1),held.headD `y,Fits q.1 q.2,ql0 q.2=`d,pe0 `D? (`QK)=`c (`t `wN),`aJg=`c (`m q.2),`QK=`t [`aAG,`ahv],d9 (ds:=`wN) `E6,`c `rO,`la (`QT),[`aJh,`ks,`aa1],`cV `rO=`d,vi0 `q `rO (`ahw),`EE (`wn).any `rO,.sh (`h c),λζ=>ζ S ok w ws hw b hb nm hnm hin,(by let#[c,b,u,nm,w',dg,l,sp]:=S),trs `ahx=`d,(tr d&&`d)=`d,(tr a&&trs `ahx)=`d,#[`vu,?_],(`bD7),(`bD8),(`bD9),(by rw[J]),λζ=>`mV%4=1/\ζ=`h (o10 (`ahy)),λζ ξ=>`mV%4=2/\`ahy<`r_/\0<=`mV/\ζ=`bD'∨`mV=0/\ξ,`Fj `pL=0,List.count_eq_zero,`i9=`Fk+1,`ax hw,List.count_append,Lv0 _ `l,λζ=>m30 S _ w ws hw hv _ _ (`u #[h0,ζ]),(`hg qq0 `Fl),S.names.Nodup,nm∉`cn,(`ahz sp c),(`bD!),(`bD?),(`bEa),(`bEb),(`bEc),(`Na S1 `aJi),`M_+`aC<=900,λa=>`a_,by rw[w1];rw[J] at hl;simp at hl ⊢;lia,(`QU S (b::l) c),`xU∨`aJj,(`eZ::ds),#[[],`a_],`eZ∈its (`xQ),λζ=>#[λj hj=>ih.1 j (`bEd ζ),ih.2],Tl0 (hd _ A8),λζ=>`QV++pk ps ζ (`aJk) T `bEe=_,(n1+(n2+f)),
(`ba `bEf),(by rcases hd d A8 with⟨s,rfl,_⟩|rfl|⟨z,rfl,_⟩|⟨j,rfl,hj⟩),(`aAS `QW),#[B',T',_,`p h],#[B',T',_,.val `gY h],#[B',T',_,.val `aI0 h],#[B',T',_,.old hj' h],λϑ=>(by have hB:∀j∈[0],`oV:=λj hj=>`k (`eb hj) ϑ),`oD<=`V,λk hk j hj=>?_,#[`ax a,b],(lkv π d),(`fJ,`Fm),Zn0 (a3 y hy) π,J.map `aJl,`cr `c8 `aJm,(by have hl:`bEg:=`bEh),λζ ξ=>#[`rm,`bEi,?_,`bEj,λs es=>`u #[rfl,fun π=>#[#[ζ,ξ,a1 π,a2 π,?_],?_]]],(by show `bEk),`xV ∉`aJn,λϑ=>Z J M q (`bk e (PsOk.nd ϑ)),(`bQ `bEl),(by rw[a,`S,vf0,hl,← `aJo,i90,Yi0]),`K es (Y d (hv d ?_) s),`tl (`h4 (`ahA `hb)).map,`t ((`D2 (`aJp `hb)).map pr),(by rw[← `aJq,kr0,Km.iq0,`M,`M,`M]),λc hc=>?_,by apply `tm,l[k]?=`kD,λq=>`ahB,`QX `g8,λζ=>by rcases ζ with rfl|⟨rfl,_⟩<;>decide,#[i50 hu _,rfl,rfl],λζ ξ=>#[_,r,I.aft A hq hl hw ζ `nm `Fn `Fo rfl I.l0 I.s0 ξ,A],(`QS `aJr),`QY T,(A++N).modify k f,ly0 (w:=t) M,o00 I.th rfl q z,t.cps.toList.map,`bEm=_,Zw0 _ _ _ _ O.symm,(`o `ahC),S0.un.length,hn s (D1 _ (J qs hv hs)),(`id he),λζ=>#[S',ζ,`aJs,D'.un,D'.wt,?_],λζ ξ=>(by let#[S1,r,I1,A]:=U00 W I hu hk (`ahD) hw L `bEn ζ ξ),(`bQ `bEo),(by apply `ahE `kY),(by have Y:`kH:=s2 λs e=>by cases e),(`o `aJt),`d0 `acd b1 `ahF,(`aJt)++(`aJu).map `ahG,#[S1,`Fp,I1,u1,w1,?_],qf0 ps `dJ j,(`bQ `bEp),(∀q∈qs,`tn),b40 xs h q hq,λq=>`cb `wN,[s0,.ow `cc],Zn0 (hI x hx) π,(by exact gen `g4 λz=>nomatch z),`L9 (Km.laid ps L),(`sB M.1).2,{ S2 with un:=[],wait:=[] },[`aJv],pq `gJ i,c.lt _ (D6 h),c.cl _ (D6 h) j hj,(`aJw hk),M60 hw c h,ix L a=ix L b->a=b,m.sub c.zero c.cl,(`aJw hy),[`L9 `gJ,`b'],(Ux0 hw c),λx hx=>Sa0 (ml.lt x hx),(`rE vs).map,`D `Cg v p.2,yz0 ks `Fq k,(Mk.ia0 e),pu0 l fs fl,(`ba `bEq),(`bEr),∃k,fs=`QZ,∀l,`N1=`aJx,(by rcases `ahH with h|⟨e,fs,he,_,_,h⟩),`aJy `fB,by show `ahI=_;rw[he,e],`eZ∈`dE,`Fr (`wO _),`a3/\`Q_,λv hv=>(h.vb v hv).1,lx0 s (`NJ s hs),Rk.ly0 (w:=w) h.ok,(`xW).vb v hv,#[`y,λj e=>nomatch e],(lm f l).map,λv hv=>ip0 `aJz,λv hv=>`aJz,
λs hs=>h.nm s (by show s∈`k1;rw[← U50 f l];exact hs),C3 `ahJ `Q0,`aJA J,(`mA k).flatMap pb,(`aJB).flatMap pb,do0 h.wb h.len.1,`acz/\∀s∈l,`to,#[E8,λs hs=>by cases hs],fs++pu0 l fs `ck,(`ahK e he),λζ=>λp hp=>ip0 (vb ζ `pM).1,(h.pa q hq),λv hv=>(hp.vb v hv).1,λϑ=>λk hk=>by have:=ϑ;apply `iD r8,λζ ξ=>#[c.nd,ζ,λk hk j hj=>c.cl k hk j ξ,c.hd],(`bEs),GP nm q/\q.vals.length<=12/\(q.pnames.length<=12∨q.cls=[]),`nk (oA `ca Mk.te0) `aIo,GB' NN es as,#[this.gp,`ahL,`ahM],(G00 (Bm1 _)).mpr,(Y3.mp hx),as.reverse,∃e,`pN,λζ=>fm0 (λc e1 e2 h1 h2=>ζ) (λc x hx=>?_) `ahK hp,`e9 (N es as' W) L,(`Dg).map,[`xX,`kt],[`ahN,`b'],do0 `Fs hN.len.1,[`aJC],mh0 B as1 h,`h (23*k),0<m/\m<=60,[`kI,`BQ],`h (x/7),(by rw[`bEt]),`h (x/7%9 - 4),`ahO _ _ hm.1,λϑ ϕ=>#[(x/ϑ%m).toNat,`cX (c8 (x/ϕ) `b_u)],λζ=>o2 `Q `Ft xb0 ζ=`c (`acf),`h 0 (big 0 `E),`h 1 (big 1 `E),`ahP `l,`xY i "",λζ=>wl0 `Fu noT ζ [.un,.un] `kF,[`h (`vM+`bN),`BQ],(`xY (`ahQ%9).toNat "",V j),(by obtain⟨NL,hN⟩:∃NL:D,NL=`m (`Q1):=`al),(by rw[`bEv]),Nat.lt_trans,(`bEw),`Q2 `x,λζ=>pre (p6 (δ':=`Q3) `bEx ζ),`m `bEy,`h (`Fv),#[`oF,rfl,`aU],(`le (mk x)),`pO/\`f3,(`bc `aJD).map,`Qw _ (`bc _),(`ahR).2.1,(`Q4).map,[`oF, `rF],[S,`h (40+`cS)],λζ ξ=>∀(s4 s5:Sl),oA ζ wb0 `bEz=`c ξ,(`d1 d90),qv0 `bEA,(yr0 (d:=`kI) ?_),(`aD1 `w),`oh `aJE `aJF,`c (.rt v),[`ahS,en `rF y],[`Fw,`h `Lr],[S,`h (50+`cS)],λζ ξ=>[`eJ,a1,a2,a3,`bEB,ζ,`jr,ξ,a8,a9,a10,a11,a12],al `aJG,[`nn,`eh,`dX],w90 `Fx IB `kF `Fy,`Fz p.2,λp h=>`aJH,(`bEC),`ahT `Fy,`Q5=`g,fv `gl c n,`gp=`g,w90 `acE FB ((`Bg).map `K0) `Fy,ih hn.2 _ _ _ _ _,(`u q.1),`ap λz=>e (P4 z),`D (m=n) v (g m),λζ=>`aJI [`oX,`eh,.ow ζ,s3,s4],(`ahU [] .un .un),`FA `ji,`aG `aJJ,`xF++[p],(`ahV).fl p hp,(`aE5 `p),(`aJK).all `cV=`d,`FB hf,`bU `FC rfl,(`aa? `oX),(by obtain⟨WD,hW⟩:∃D':D,D'=`xX:=`al),`aG [WD],u00 0 `aEd,`Q6 (`en `cI),`hQ c (l++`Mn),q.2=eff l fl q.1,(`bED),T70 l `ck,(by let#[r,hr,rfl]:=`c2 q),(`aJL).all `cV=`d,(`o `uS),`Q7/\`Ol,flp es `vT,
(`m (`Q8)),(`kv c (l++`Mn)).d,(`tp `g' `Lw `et),(`bEE),(`adP).map,`bE (2<=6),(`bEF),th0 [V,C]=`c P1,(`bEG),`aG [WD,C],dv0 [`sC]=`f4,`h (1+`cS),[`kI,`aai],λζ=>(bl.ce _ (`a_:ζ∈`aJM)).ge.mk0,(`bc `jp),(`aJN),al M.reverse,(N es M W),(`Q9 `g9 .un),`ax a4,λζ ξ=>`Ky [WD,C,al ζ] rfl ξ,`X LL `b' rfl,`aG [O1],.sh `aJO,λζ=>qt0 [.fn (rk ζ) `aEE,`b'],(`xZ `ahW `FD (.sh V)),(`xZ `ahW `FD `FD),`FE O4,(`bEH),"MOST_NAMES",`c (`h 60 t),"MOST_NAME_SIGNS","MOST_PARTS","MOST_VALUES","MOST_WORD_SIGNS","NAME_SIGNS","WORD_SIGNS",λζ=>ζ ok `aJP hi hg ht he hc hsc hN hs,`wf `Q' 1 `E1,`wf `Q! 2 ut0,λζ=>FnN ζ w K mg `aJ `no 4 `na qh0,`gE `Q? `ahX rz0,`wf `Ra 1 wy0,`fc `Rb `lw ui0,`fc `Rc `cj v70,`wf `Rd 2 vh0,`fc `Re `e! tp0,λζ=>FnI ζ w K mg `aJ `bv 1 `mJ t10,`fc `Rf `e! t90,λζ=>FnD ζ w K mg `aJ `m? 5 `na vq0,`fc `Rg `FF v90,`aJQ P,`gE `Rh `np wq0,(`bEJ),[`aJR, `kn, `BM, `ahY],(Q0 `jF W8),(z7 b8 j6 `FG W8),[`Nq, `ahZ],(`bEK),`fc `Ri `ah_ u40,λζ=>Od0 ζ w K mg `aJ `no 4 `na qh0 `LW,(`bEL),[`Bw, `uY, `BM],(z9 3 `BF),[`aJR, `k2, `kn],(`bEM),(`bEN),(`bEO),"Reader.__init__","Reader.give","Reader.whole","Reader.web",`Rj `ah0 1 vm0,(M7 `jF W8),"Reader.takes","Reader.takes_digit","Reader.goes_on","Reader.takes_head","Reader.takes_part","Reader.hold","Reader.end_parts","Reader.takes_sign","Reader.takes_name_number",`fc `Rk `ah1 sf0,"Reader.takes_known_name","Reader.names_here","Reader.takes_letter",`wt K (`tq) x=`Ej,`Kv K `hP x=`Ej,`aJS `FH,(`ah2 `aJT),`aJU `FH,(`ah2 `aJV),`aJW `FH,(`ah2 `aJX),`h 0 tt6_0,`h 0 tt9_0,(`ag f58),`B1 `nq `nq (wv0 `CC) (xx0 `CC) (`Rl) `a8 kV58 dc58 pm58 an58 (`ag cL) ct58,Mg0 F6 T e7,λζ=>λs us X hl=>match us,hl with|[_,_],_=>ζ,`aJY t6,λζ=>λs us X hl=>by apply `bEP;exact ζ,by repeat (first|exact `ah|refine `aE (by first|exact`al|rfl) ?_),λH B=>by simp[O8,ze0,ys0,wh0],Uw0 F9 T p4 d4,`aJY t9,λζ=>fun δ=>`boP ζ,
(by repeat' first|(show @DL.PD _ _ _;first|exact d7 _|exact W8|exact Q4|refine U6 hr ?_ ?_|apply `c_ y90|refine ym0 ?_ ?_ ?_|refine `Ge zu0|refine `R1 zd0|refine W2 `nt T.b_set ?_|exact V8|refine zx0 ?_|refine K8 ?_|apply `c_ M7|refine `R1 z40|apply `c_ Q0|refine z20 ?_|refine `R1 zg0|apply `c_ M6|refine zc0 `nt ?_|exact yk0|apply `c_ z60|apply `c_ Q6|refine zn0 ?_|apply `c_ zo0|refine `Ge J0|exact v6 T.c_BASE|refine zh0 ?_|refine `R0 ?_|refine J3 S (`L1) ?_ ?_ ?_ ?_|exact zt0|refine Z5 ?_ fun δ d h=>J7 h|refine O7 `nt ?_|refine W3 ?_ ?_ ?_|refine Z5 ?_ fun δ d h=>zr0 h|refine t8 X8 `L4 `R2 `L3 ?_|apply `c_ K5|refine u9 Y8 K1 `nt A9 ?_|apply `c_ zq0|exact m8 T.c_NAME_SIGNS|refine t8 G5 b_str `R2 T.b_str ?_|refine Y6 m5 X5 `L3 T.b_zip `L4 b_zip ?_|exact v6 T.c_MOST_NAMES|exact v6 T.c_MOST_VALUES|refine `Gf .LtE o9 o6|apply `c_ yo0|refine u9 T8 zv0 T.b_ord b_ord ?_|exact v6 T.c_MOST_WORD_SIGNS|apply `c_ G3|refine J9 ?_ ?_ ?_ ?_|refine y60 K_KINDS ?_|exact m8 T.c_WORD_SIGNS|refine `Gf .Eq b8 j6|refine X6 `gZ hr `E ?_ ?_|refine t8 J6 b_int `R2 T.b_int ?_|refine t8 U4 b_bool `R2 T.b_bool ?_|refine y50 ?_|refine u9 (V9 rfl) y30 T.b_all b_all ?_|refine `Gf `Dk yq0 zs0|refine S7 o9 o6 o9 o6 ?_ ?_ ?_|refine S5 B0 B3 Y5 Y7 Z4 ?_ ?_|refine `Gf .Lt Z6 g8|refine `Ge K9|refine G7 K_KINDS ?_|refine p8 j7 G8 `R3 b_list ?_|refine `Gf .Eq `ajC m7|exact v6 T.c_MOST_NAME_SIGNS|refine y40 ?_|refine PDF.pd ?_)|(show @DL.PDA _ _ _;first|apply `c_ o4|exact d8)|(show @DL.PSD _ _ _;first|refine T3 ?_|refine V5 _ ?_|refine U8 _ S (`L1) ?_ ?_ ?_ ?_|exact Y0|refine J1 _ S.nd ?_|exact V7 _|refine Y9 ?_|refine R8 ?_|refine z50 ?_ ?_ ?_|refine W9 ?_ `R4|refine Z8 ?_|refine N6 _ ?_ S.nd|refine V2 ?_|refine `ajD `R4|apply `c_ R4|refine W0 _ A0 ?_ ?_|refine R0 _ ?_ `vf|refine `ajD (o7 _ _ S.nd `E)|refine T5 _ ?_ `vf|refine Y4 _ ?_ `vf|refine U5 ?_|exact X7 _ S.nd M_Reader hr `E|refine S9 ?_|refine `ajD (S8 _ _ _ S.nd `E)|refine T4 _ ?_ `vf)|(show @DL.PSsD _ _ _;first|apply `c_ j5|exact Z7)|(show @DL.PTD _ _ _;first|refine J4 ?_|refine `Ge S6|refine `nu .Eq b8 j6|refine `nu .Gt yl0 zm0|refine `nu .Lt Z6 g8|refine P0 ?_|refine `Ge J8|refine `nu .GtE yn0 y70|refine `nu `Dk (zf0 `r5) O5|refine `nu .Is zp0 G6|refine z7 j8 (u5 `d) ?_ ?_|refine `nu .Eq `ajC m7|refine `nu .In o5 (u5 `q)|refine `nu `Dk (ya0 `r5) K7|refine Q7 ?_|refine `R5 ?_)|(show @DL.PX _ _ _;first|refine V0 _ `gZ hr `E ?_|refine zk0 _ ?_|refine zz0 _ ?_|exact Z9 _ `gZ hr `E|exact zy0 _|apply `c_ N8|refine y80 _ ?_ ?_|refine O6 ?_)|(show @DL.PSsB _ _ _;first|apply `c_ Z0|exact W6|refine Z1 _ _ S.nd ?_ ?_)|(show @DL.PSB _ _ _;first|refine J5 A0 rfl ?_ `R4 ?_|refine Q9 ?_|refine zl0 ?_ ?_ ?_|refine M4 ?_ ?_ ?_|refine za0 ?_)|(show @DL.PN _ _ _ _;first|exact z30 _|refine z10 ?_ `vf|apply `c_ yp0)|(show @DL.PDF _ _ _;first|refine X4 `aNi rfl `aNj b_dict ?_|refine Z2 `aNj b_dict ?_|refine X3 `aNi rfl T.b_sorted b_sorted ?_|refine U9 ?_|refine N7 ?_|refine `R1 zj0|exact W4|refine R6 S (`L1) ?_ ?_ ?_ ?_|refine V1 `R3 `aNk ?_|apply `c_ G4|refine U0 `R3 b_list ?_)|(show @DL.PID _ _ _ _;first|refine Z3 `yj ?_|refine O9 ?_|refine V4 ?_|refine c7 `yj ?_|refine U7 T.b_enumerate ?_|refine K3 ?_)|(show @DL.PGD _ _ _ _;first|exact z9 _ (ndC `bf)|exact o7 _ _ (ndC `bf) `E)|(show @DL.PTX _ _ _;first|refine M5 ?_|refine R3 o5 (u5 `q) ?_ ?_|refine N5 ?_|refine y00 ?_|refine PWX.pt ?_)|(show @DL.PWD _ _ _;first|apply `c_ zb0|apply `c_ M9|refine Q8 ?_|refine T7 ?_)|(show @DL.PFD _ _ _;first|exact Q5|refine K4 ?_)|(show @DL.PWX _ _ _;first|refine M8 ?_|apply `c_ zw0|refine R5 ?_|apply `c_ J2)|(show @DL.PDO _ _ _;first|refine V3 ?_|exact U3)|(show @DL.PTG _ _ _;first|refine K6 _ `aAT ?_|exact y20 `R4)|intro _),
wd0 ?_,CoeFun,`ahO _ _ `E,typeLookup_type,builtinLookup_eq_fast,(`hw).bind,#[x,en,e1,`aJ_],.BinOp,.sh O2,(`bEQ).elim,λ_ _ h'=>h'.elim,(`aA).map,(`bER),`bES hl,wr0 `aJZ,(by apply `aAP;rfl),(wv0 st),.sh (`Gh),yd0 `bET,`aJ0 `bq (`FI),(by with_reducible refine D3 ?_),#[v,e,`x_],F.ok S `aJ1 `bEU,#[`aaH H,`bEV,`bEW,hb],`vo `bEX `bEY,`K hf `ah4,`aG `Rm,`acg _ _ `E,(λx=>!x.1),(`aKn `oe `aKo).all (λx=>x.1.isSome),F9.binds,`aNm _,C_brought,x=.bl c,((p,w)::`ajJ),`K `bEZ C0,(λw hw=>na0 rx fx r fs w `aNq),(`lH `cL ?_),show `bE_ by simp,ib0 r fs,(`dO).bind,`xk j k a ds es h1 h2 h3 h4,#[d,`gk s,h,`bE0],#[ds,en,e1,`aJ2],`aJ3 `aJ4,#[r,`ah5,e1,k],#[_,`bE1,?_],(`bE2),`MO `aBi,#[B,`aJ5,`aJ6,e],#[x,en,e1,`PC],#[rfl,`bE3],jx0 (d:=n0) w1,#[Z,z1,`bE4],#[r,J,e1,k],(`rg _ rfl),`bE5=_,(`bE6).2,`bE7=_,CompOk,z8 `jE v5,gc (`sx),`O rfl `FK,o2 `bFb `Q eqD,`k e `pP,xy0 pr.1 pr.2 q d,N es as1 W,`aaM `aEe,`aJ! - `N8,A5 `bE8,`Eu tDT,q σ H Q z,WalksS,λe s'=>`bE9,as.zip (`Rn),`t `bE?,`aDG `FJ,vu0 xs l u c,xy0 ks vs `vX p.2,ye0 `aJ8,`Cb `Rq,(`aH `ajG),ms W k l U o `ag' s,ws ps F k o `ag' s,4*(4*n+kd),qf0 ps `dJ,λ_ q=>q,`kB (`aJ7 e),h1.symm.trans,`k z A8,`c3 `bE',(`sI J),(`b_g),(`aNp).imp,ha.go B δ,wj0 `bE!,hv.go B δ,vi0 `d,gc `bFa,vz0 0 `jG `og,popS 0 `km,gc (`Ro),o2 `aJ9 `dz eqD,`FL `aL,plN `aJ',vi0 `q,up0 0 `sd,z8 `cw v5,o2 `bFc `a6 yf0,`tr 3 `cw,gc `bFd,gc (`Rp),yu0 `bFe,`tr 2 `a6,o2 `Z `cv ixD,o2 `Z `Q ixD,t70 `bFf,.sh (`E3),.sh `bFg,gc (`pQ),.sh (`ah6),.sh (`FM),o4 `x0 d8,o4 `FG `bFh,o4 `FG d8,`Ny `ah7 n,λm hm=>?_,TP X `z σ Q,`di h _ hw,`rx .And [a] pos,`rx .Or [a] pos,`lx hb Q,#[σ',H',`aKa,q],`kC o i pos,`nj [tg] e pos,`aKb tg `w6 u,#[o,e,λv z=>by rw[d] at z;cases z],`a7 hu,.For tg `j? `dm [] pos,`bz `bFi,RelO.some_of,`hV e f pos,.List es pos,F0 `bFj,`aFT cdv,match y with|`y=>`d|_=>`q,match y with|`e5=>a==b|`ki=>`bFk|_=>`q,match y with|`e5=>`bFl|`ki=>a==b|_=>`q,match y with|`ts=>a==b|_=>`q,`hV o `fe `mr,.FunctionDef,(`Eq).bind,(`bFm).elim,#[x,en,e,`aKc],(`b_c),#[_,en,e2,`bFn],
#[xs,xs[i],`acZ,`bFo],#[`LK,_,C9 hi,`bFp],#[_,en,e2,`bFq],`tt `bFr,λcl s H ex pins s' σ H v u Q I r #[B,d,δ,h]=>`bFs,`ah8 `bFt,#[_,en,e,`bFu],#[_,en,e,`bFv],#[_,en,e,`bFw],.Dict [] [] pos,knd.keeps,Q w' s',(`bZX),`u `bFy,`sX j ds a h1 h2,`bFz=`fh,by rw[`cm,← `aKd,`pR],(`bZ5),`gt `vg [e],h1.extBut `Dx D.i1z,`bFA `Dx D.l1z,xy0 ks vs k b,upd `bFB f `aGk,λv _=>v=`n',(∃o,`Gg),`aFf/\`O7 `dT X.w H `aY a p.1 p.2,#[σ',_,`Rr,k],`di h _ q,#[ad,`b0,`ni,?_],(`bZ?),`aje X.K `bg `bh H σ δ i j dp,∀H',`aje X.K `bg `bh H' σ δ' i j dp->`jj σ H',[x].zip `aKe,w60 `bFC,z00 `bp `bFD,ob `bFE,R7 `bFF,R7 `bFG,wu0 1 `bFH,z00 `bp `bFI,w60 `bFJ,ob `bFK,R7 `bFL,R7 `aKf,w60 `bFM,R7 `bFN,w60 `bFO,ob `bFP,R9 `bFQ,R9 `bFR,R9 `bFS,R9 `bFT,`bFU<=`R,by apply `xD;lia,R9 `bFV,ob `bFW,R9 `bFX,wt0 `bFY `bFZ,wt0 `bF_ `bF0,v10 `bF1 `bF2,z00 `cy `bF3,z00 `hj `bF4,z00 `kG `bF5,R7 `bF6,λq hq=>`bF7,`oc `bF8,#[s4,`bF9],`hg `x `x,(∀v∈`iy,`a3),Sum.inr.inj,yy0 `pH `E7,ob `bF',R9 `aKg,ob `bF!,R9 `aKh,ob `aKi,v10 `aKj `aKk,R9 `aKl,gc `bF?,ob `ah9,ob `bGa,ob `bGb,oA `ca p40,ta0 `bGc,`bGd v,ob `bGe,z00 `bp `bGf,z00 (gN 7) `bGg,R9 `bGh,z00 `hj `bGi,ob `bGj,z8 `cv `bGk,ms W k l U o T s,nd `bGl,`kN `QF,ws ps F k o T s,ws ps F k `k? T `oB,`m (`pJ),t30 `bGm,b.isPrefixOf,#[n+1,`abO,`aKm],i10 hn hj',(`bZU),(`bZV),(`bZW),`Rs 6,show `bGp by decide,by show `aaj;omega,`iv `kI `bGq `bGr,`Oi+97*`bN,fs C c n `ah' `ah! `ah? s6 s7,(`bZ4),`an (n∈`k1),by apply `FN;rfl,`O rfl `bGt,Cd_drawn,`bGu h,(ko0 bT).1,#[a9,i9,k9],A2 `bHF `r5,(`bGH),`s? `og,yd0 `aJZ,`rc `pT,`t `bHq,tn0 `aKx,o2 `Q `Z uy0,`bGw [] `N,"type.__call__",`a7 hi,`a7 hw,`Pl `u5 fa cdv,(`ae7 fa cdv),ob `bGI,ob `bGJ,`jI v5 vm0,z8 `gB `aa_,(`Rz `jJ),(`bHA),λa=>`bGL,(`bHp),h.DictOf,b∈X.ex∨`tu<=b,by simp[z],swapsWithSole,`aEL&&`aBo n==`ib,`nj `s6 `oO spos,`sb=`x2∨`bGB,I.hok.lt q,(`bHl:Int),(`bHn:Int),(`bHs),`D (kd=0) 20 12,(`aKI),cN' N tg `dF,`aCr C dx,`fT oC `aKp,`aH `p,oth `Qi `e8 `kw fk fv,a++[`tv],[t.d,`aKH],[`fP,`Qy],4*`bHv,`aJ? `h,N es J W,
"object.__class__",D4 _ `bGv,`lx hb _,`aKn pos `aKo,`aFY - `Pe,`c `bGx,(`bGz),`fT oF `bGA,`PJ tDS G,by rw[s1,s2];simpa using hl,oA gA λds=>f (`aKr),upd H d `aHv,(`e? `aKs `bGE),W.kla_fn,(`ct `acw).getD `a8,(`bZ7),(by let#[v,H',I',r,a,sub,o,k]:=z9),(`b0).lookup,`dA y px,`c `aKu,(`aKt).set j .un,`pS c [],`ajI [o,i] (`pl o i),`aia lo hi st p2,(`bGK),np l (`OG) `aid `aie `FQ,o2 `agW `Ry xb0,`Cb `aKG,(`bHo),`bHt h,λz=>`bHu,`an (`FS),`k hu A8,`D! xs `adE,(`Rz `QT),(`bHC).map,(`bHD),(`bHE),o2 `aKF `Rx xb0,asx x e0 e1,`bD (`rI [u]),#[[u,v],[]],#[[u,v,w],[]],`bD (`rI [u,v,w]),W.binds_K,`dA `v2 p,`hV o m `mr,`aia lo hi `g p2,`Rt `bGy hsc z,`oy `eK,`aKq s',`kE h1,λvs H Q E zQ=>?_,λa z=>`hd,`dA `v8 p,view I h1 h3 h5,view I h2 h4 h6,`d1 in1_units,Builtin.SmallTypes.ownedTupleIsFree,.bl (`aib a b),λz=>`bGC,(`bZ'),Gr.but hb hh,`aia `g `g `aic p2,`hV `aHX m `mr,`hV o `P4 `mr,`aET C dx [],oA `ca xi0,by have:`bGG:=h;apply `tm,by rw[`S];apply `xD;lia,`FO `Q,oA `ca mz0,z8 `aAr v5,z8 `gB v5,oA `ca tp0,oA `ca wf0,oA `d_ xh0,oA `jH xh0,o2 `cv `a6 `FP,o2 `aL `cv xg0,`ml `aKv,o2 `a6 `Q xg0,gc (`h 12),λl=>`bGM,(`aKw),`ax hW,`s? `e4,z8 `gB `bGN,z8 `bGO v5,`x3 `bGP,o2 `Z `jE xg0,o2 `Q `Z `FP,o2 `Z `Q xg0,`ml `Z,z8 `cT v5,oA `x4 xh0,v60 1 `bGQ,tn0 `bGR,bc0 3 `cw `aKy,z8 `cw `b3,mu0 `bGS,xk0 `bGT,`tr 2 `x5,v60 4 `bGU,up0 0 `km,`vI `aKz,gc `bGV,gc (`h 20),gc (`aif),z8 `Ru v5,gc (`aKA),yu0 `bGW,o2 `aKB `Z `ly,`Rv `Q,o2 `aL `rB g40,`rc `h6,o2 `Eb `aL yf0,ob `aKC,`n4 `Z,oA `b3 qs0,uc0 `bGX,vs0 `bGY,oA `aig xh0,ob `bGZ,`tr 4 `m!,`FL `Q,`FL `aJ9,z8 `bG_ v5,o2 `Z `cT ltD,o2 `Z `x6 geD,z8 `bG0 v5,oA `FR v00,z8 `Rw v5,z8 `a6 `bG1,ob `bG2,z8 `Q `bG3,xk0 `bG4,z8 `bG5 v5,v60 4 `bG6,gc `bG7,z8 `aKD v5,gc (`aih),gc `bG8,gc (`aii),`x7 `Q,`E9 `aKE,z8 `bG9 v5,o2 `Q `e4 yf0,(`bG'),z8 `bG! v5,o2 `a6 `Rq yx0,gc (`h 11),t70 `bG?,ye0 `bHa,o2 `Q `Ft xb0,o2 `a6 `Z eqD,o2 `m! `aL eqD,ob `bHb,ob `bHc,o2 `bHd `Ry ltD,ob `bHe,ws0 `bHf `bHg,vs0 `bHh,ob `bHi,ye0 `bHj,z8 `a6 `x4,.sh `bHk,t.b.length,(`bHm:Int),
`bE (1<=`R),o2 `Q `aij eqD,(`o `aaA),z8 `bHr v5,(`jk (x::T)),`aG `bHw,`aG `bHx,`t `bHy,`h `bHz,`ax c,qr0 `QM kd,(`bHB:Int),M7 (d7 5) W8,(λq=>nomatch q),(`e? `a8 (`mF cont)),(`bHG),λc v _ q=>k c v q,λb ps e=>#[⟨⟩,`aik],`aKJ `bHH `ail (`FT) `tw,hl j y v' e1 e2 e3,`k `aim `adX,`di h Q hw,thn `bHI λc s1 e=>?_,.IfExp c a b pos,`di hc _ h,`a7 `bHJ,λ_ s'=>`bHK,V->`bHL,`lx hi _,.While c `dm [] pos,`k z hb,PIE X `z σ tg R,[`pw, `oQ, `bHM, `bHN, `bHO, `bHP, `bHQ].contains,`aA5 `ain,∃xs,`K4 H1,`di hl _ h,`gt `aKK [a],`gt `aKK `mO,Hv0 ha hb I h `bHR,intBits_le_64 h1 h2,`c? `bHS,`c? `bHT,thn `KY λv s1 z9=>?_,ho `z s2 σ H2 x y v u _ I2 r1 r2 q2,`aCf a `aFE [b,c] pos,`tx `bHU,`c `bHV,(`lz `RA),(`lz `aKL),`D (g=f) `bS (mA g),`vj e f `N `FU,`abM h hq,#[`bHW,?_],`Gi (t':=`ah3) (λb u e=>`vi) `bq ?_,(`b_h),`gt `aKM `gl,W.methodCall_KW,(`bZ1),λw hw=>h w (A7 _ hw),by rintro rfl;exact `ag!,ih (i:=i) (`aFR).2 (`aio) (`aip) hk,(`bHX),`B1 `fe `fK params `dm `ef dV kV doc pm an cdv ct,F0 `bHY,thn `O? `bHZ,`bH_ h,if v<0 then max (v+`bm) 0 else min v `bm,(D70 `ty `E ?_),L7 g5 `ty `bH0 ?_ `bH1,(km0 hs pl pu ?_),`b6 `bH2 s,A5 `aeY,`kC e `aKN pos,`lx hl _,`aiq hu σ,by with_unfolding_all rfl,`k `cm r.length.symm,(r.drop (`Pe)).take,`aNn/\Q v H,`air hj ew,call_list_seq,(`b_d),`tx `bH4,#[#[o,e,ex.1],λa e2=>?_],(`u7 `Be).any,Pf0 lk hcd S len `bH5,hbody cdv A `dK s H vs Q E hr J,fp default,`bD (`R7 ok),`bD (`R7 r),`aav elt `bH6 `ef pos,J.stop i H2/\Q `tz H2,`FW _ _ st2 b hb,`bF `bH7,`k hsc z,`RB e,`n `aKO,`u `aKO,as.2.2.2.2,`p (`ais sep ys),(`bH8),(`fT oK (`go cd)),#[t,`gk s,h,`bH9],#[ds,en,e1,`bH'],G δ=`fj,`di Y00 D (k σ H en),#[_,en,e1,`tt #[r,en',e,k]],#[a,rfl,#[xs,`fg],`aKP],Lj0 hp hc `ait a7 a8 hs `z s σ H D I `bH!,∀b,`bH?,λb n n'=>`bIa,`Px b o xs `bIb,`bIc z.2,#[a3,`bId,`aKQ,`ll],`Py Hh H δi,λb o n h=>`bIe,it.go i Hi gr hlt,`aiu Hh δn,λx H' y=>?_,#[`lA,`bIf],#[B',d,δi,δ2,a6,a5,e3,`bIg],`aiu Hh δ2,M.wr c1 c2 `FX w en',#[Hh,`bh,δ2,rb,b3,e4,?_],`n `bIh,`ah8 `bIi,
#[_,en,(`LP).2.1,`bIj],`b_ `yk us,`a7 (bl0 rv),`p `bIk,`pU W.kitx_dict #[o,h1,h2.1],q _ I.fresh,#[a,xs,_,v,rfl,rfl,`fg,hv,`ha rv],`gt `aKR [e],F.plainAttrs_str,`aNl/\`u4 `vV/\`Gj,`age `bIl,(`aiv),`k l `CI,`lx ho _,`vj o m `N `aaO,[`n3,`bIm],`tA `bIn [e],wpAny_Call_method,(`bZ!),#[?_,`aiw,`bIo],#[v,e,`ei `s_],Pd.setR (i:=i) (b:=`vc d) (`n `aix) hs h0,`RC `bIp h1,`K `bIq J,#[`bIr,`bIs,`bIt,`jw],λb u n h=>`bIu,λz=>`bIv,#[`aiy s,`bIw,`aiz,`jw],(`b_f),#[b,e,`n M,`bIx],`K `bIy (`jw a z),#[r,en.frz,hq,k],k _ _ `bIz,`tt `bIA,(`mY [`DZ] `N).map,(`mY [] `N).map,(`bZ2),#[`a_,`x8,λq hq ds h=>?_],λz=>`bIB,λz=>`bIC,PySem.seqSlot_of,`bID _ _,gk0 l l' r r' v v' `bIE,gk0 (A:=`fD) l l' r r' v v' `bIF,`w9 .Add,`w9 .Mult,(`bZ8),(`bZ9),`gt `aKR [`aed],`b6 `bIG s,`EY C=`aNo,λfin s'=>`bIH,`s0 `bII,`pS `eV [`aee],`aaG `xo,.dK ((`aDs).zip ys),`aNl/\`u4 `vV/\`BY K fd ps us/\`pY/\∀H B,Rps K H B dd vs,`bIJ #[[`uX],[]],`b6 `bIK _,A1 `bIL,`b6 `bIM _,A1 `bIN,`b6 `bIO _,`bIP `FZ D.i12.symm,`bIQ `FZ `aiB,`bIR _,`ajE=`kD,`ae1=`c4,∀c o,`bIS,(`b_a),`pS x1 [`aef],upd H `L (`PU) b,`lB elts x1 tpos,`pS `pw [a],`pS `ij [e],λx xs H Q=>`bIU,iy0 ga gb gc f f',`b6 `bIV _,`xN lo (hi - lo),`aiC `g0 rfl,d.params.defaults,λf vs=>PySem.call f vs,(`bIW).map,(`mY [`Oz] `N).map,∀s',`bIX,`aKS `bIY,`d1 `bIZ,show `aHs=H from `bI_,`x9 (u=`e1 x.p),`aKS `bI0,(`bI1),A1 `bI2,`b6 `bI3 _,#[`k (zi0 J) hf.1,hf.2],(`bZY),λs' I'=>hR s' ?_,`R'/\`ajF/\∀d,H d=`g->Q (`xs) (upd H d `aHB),A20 (Q₁:=`bI4) B01 (B11 _) B21 `bI5 ?_,`aW `EW `af',`aKT hb,∀(c:`f) (o:HO),`bI6,λc o e=>`bI7,`b6 `bI8 _,`b6 `bI9 _,#[ol,Y,Z],λh1 J k1=>?_,`bI'=`g,I2.hok.fresh `bq,(I2.fpOk `bq a3),(`bZT),λs' I'=>`R6,(`bI!),`aiD `bI?,upd H l `bJa,(`Lz `aKU),Builtin.List.listFitsIndex,`n `bJb,`aiE - -1 - -1 - 1,`kC e `aKV pos,(uj0 (q:=q) rx).2,`tx `bJc,U1 `bJd O,(`bJe),`K z `E,Ends.closing a D,`PJ tDB G,`kE h1.go,`kE ha.go,#[_,rfl,`bJf],`P0 H' a sub,`aiF `fB,upd `x' c so'.ho,wj0 `aiG,#[dx,ad,ns,as,sos,en,e1,at',`DX],upd (`i8 H' `eK) c so'.ho,
(`bZ0),`gt `aKM [],(Ib0 d).bind,(unL l).bind,(N60 p.1).bind,`m `DA,`aiH `bJh `bJi,#[`cQ,`hx,a,`b0,`ni,a,C,O,_,rfl,`aKW,q1,`RD,?_,?_],`tA `bJj [],`gt `aKX `gl,`gt `aKX [],`iw `bJk,λz=>`bJl,#[at'.w.nd,`aiI,`bJm],`pB[k]?=`eX,(`nv/\`pZ),`h' `bJn,`u `bJo,`bJp n,`RC `bJq `agx,`tA `aKY `s6,(`aiJ).set j (.sh d'),`k z J.w.in0,(`fT ob (`go b)),`PJ tTX gt,`P2 `bg `bh q.2,`g6 `P' a `agA,`m (`DA++[`p f]),`m (`aCp++[`p f]),`i3 C dx [],`kC e `aIb pos,s4.heap.objs.size,λd=>`bJr,`tB `RE `lC,`gK `re `aKZ (U30 ps),`tB `RF `lC,`gK `re `aKZ (Ta0 ps),ob `bJs,R7 `bJt,`bJu=_,`I `aK_,R7 `bJv,R7 `bJw,ob (uh0 `x! `Q),R7 `bJx,R7 `bJy,wu0 1 `bJz,vs0 (oA `ca wy0),z00 `aiK `bJA,wu0 2 `bJB,`k `bJC `hy,(`ak (vn `mm)),(`bJD),`I `bJE,∃s:Str,d=`dh/\`nl,`DU `bJF,`bJG=_,by apply `aM `rp;lia,p6 `bJH `lD,`jq d hd,Qs0 h2 `bJI,`DU `bJJ,(h.it p (n5 hp)).gp,R7 `bJK,z00 `bp `bJL,R7 `bJM,(`bJN),`bJO pr,λa=>`an (key a=c),by apply `bJP;rfl,`bJQ=_,`F_ (`QZ=e.ms[k]) hk,`F_ (`QZ=[]) `bJR,(`aK0),p6 `bJS `ec,.sh `bJT,`D (a=q) `aQ `F0,(`bJU),`iZ `bJV,R7 `bJW,(`oc `aK1).map pr,λp hp=>(hg p hp).cnt,R7 `bJX,R7 `bJY,R7 `bJZ,ob `aK2,w60 `bJ_,w60 `bJ0,w60 `bJ1,z00 `hj `bJ2,w60 `bJ3,w60 `bJ4,wu0 4 `bJ5,ws0 `bJ6 `bJ7,o2 `bJ8 `aiL yf0,`vI (up0 0 `jG),vz0 0 `aiM `dz,xl0 `aiN,xl0 `bJ9,R7 `bJ',R7 `bJ!,R7 `aK3,R7 `bJ?,o2 `aL (oA `d_ pf0) gtD,o2 `RG `aiO eqD,z8 `bKa v5,ob `aiP,R7 `bKb,`rc `mS,uc0 `bKc,z00 `cy `bKd,xl0 `bKe,wt0 `aK4 `bKf,xl0 `bKg,o2 (oA `aK5 xh0) `aiQ eqD,R7 `bKh,R7 `bKi,R7 `bKj,R7 `bKk,z8 `bKl v5,ob `bKm,S90 `aL `bKn `aiR,xl0 `bKo,o2 `aL (gc (`h 8)) gtD,o2 `aiS `aiO eqD,`x? `tC,`vI `aiQ,iy0 `cT `Q (gc `RH) leD leD,o50 `aK6,xl0 `bKp,xl0 `bKq,A1 `bKr,Nat.lt_or_ge i `k3,`aZ `bKs,(`b_b),λi=>`bKt,w60 `bKu,ob `bKv,jo0 `aK7,v10 `aaJ `aK8,z00 `bp `bKw,R7 `bKx,ob `aK9,ob `aK',R7 `bKy,R7 `bKz,R7 `bKA,z8 `Q `aK!,ob `aK?,ob `aLa,ob `bKB,z00 `kG `bKC,R7 `bKD,R7 `bKE,z00 `cy `aLb,R7 `bKF,R7 `bKG,z00 `bp `aLb,z00 `cy `bKH,vs0 `bKI,R7 `bKJ,jo0 `aLc,v10 `aLd `aiT,R9 `aLe,o2 (oA `FR ug0) (gc (`aLf)) xb0,o2 (gc (`h 61)) `Z xm0,
(`bKK),z00 `cy `bKL,z00 `hj `bKM,z00 `kG `bKN,R9 `bKO,z00 `bp `aiU,z00 `cy `bKP,z00 `hj `aLg,`ya `jH wb0,ob `aLh,ob `aLi,v10 `bKQ `aiV,v10 `RJ `aiV,z00 `kG `bKR,ws0 `aLj `aLk,wt0 `bKS `bKT,ws0 `aLl `aLm,z00 `hj `bKU,z00 `kG `bKV,z00 `cy `bKW,oA `bKX q70,z00 (gN 7) `bKY,R9 `bKZ,wt0 `bK_ `bK0,`eu `aiW,`bK1=_,`bK2=_,`k `RK hj,("" : `F2).length,(by rw[fq0,`yb]),(`ak (a+`aLn)),[`bd,b,c,k,`cJ,`aLo,`aiX,s7],by rw[`ae] at hl;lia,Z30 rfl `aLp,ob `aLq,(by rw[ap0,`fn]),ob `bK3,(by rw[ap0,`yb]),`kZ (m1 _ _),`aiY `bK4,`ix `tv,(`bK5).map,by simp only[`S,`e3];lia,v60 5 `bK6,`c (`de (`aiZ:Int)),`c `bK7,(`aLr),`aLr=`Nt++[`B_],`eO `eP it0,`tH+`fS<=10001,ih (`aLs) `l m `oB `l,(.bl `aIS),(`bK8:Int),by apply `aLt;exact `aLu,by apply `aLv;exact `aLu,`k `aLw (Tq0 B j),(`d1 eu0),st ps o B T (d::W) s,`w_ o `v6,`bU `bK9 rfl,`bU `bK' rfl,nW ps B W `mm=`aLx,by delta nW;apply `lu,λp=>(p.1,f p.2),show `bK! from fk0 _ _,(`bK?),(`bZZ),(λy hy=>by cases hy),(`bZ_),λy hy=>`bLb,`d&&(`sm `mv&&`d),tb0 `aLy,#[s',`bLc],cz0 _ _ `bLd,(`bLe),`eO c0 hu,`bLf=_,`gs `nr,(`bLg),(`R8).getD,(`d2 n w),(`bZ3),`QL `aLz [`dj],(`o (`cr n _)),(`Rz `xS),s40 [`c1,`ve,.un],`eQ `bLh rfl,eh0 p S _ w ws hw,by apply `bLi;exact `ai_,`c `bLj,`bLk=_,vj0 rfl `bLl,`bz `bLm,(`bLn:Int),(`adH L),`tl (`F3).map,`yc (`ic (1,`b5)),by rcases hg with z|z;exact `hd;right;lia,`k J hc,`k J th,link (`dD - 1 - (`ahy).toNat),`tD J `F4,`k J hln,`k J h8,`k J M,m30 S1 _ w ws w1 hv _ _ `bLo,(`C? (`bF hj)),(nW ps B `ajH `kY),λB T _ _ _ _=>`bLp,`V=`aLA+(`F5+1),by rw[e,`S,`ae],`eF::pw `F5,λz=>`K b (z q.1),`bLq=`d,#[`eF,pw `F5,?_,`lv,λs es=>?_],S0.begun.modify `cl _,#[N++M,by rw[hM,hN,`be]],#[S',`bLr,`aJs,D'.un,D'.wt,?_],#[S2,r2,D2.inv,D2.un,D2.wt,?_],D7 `bLs,`aLB ((`iy).map `v!),`bLt hj,`Rs 7,`aZ (m≠0),`ai0 `kI (`bN+2) `bLu,yr0 (d:=NL) (`ax hN),(`b_e),[`Rp,`O4,`Rp,`aLC],[`eJ,`Ea,`jr,`dX,s4,s5],[`aLD,`aii,`aih,`ai1],.sh (cls `R9),p6 `bLw rfl,λp hp=>`bLx,(W.take j).map `ai2,`d&&(trs `kF&&`d),Ox0 `bLy,.Pass #[0,0,0,0],λj hj=>`x1,o4 Q4 `bLz,
o4 `bLA d8,spT Pt `bLB (spD K dv0),M7 (M7 `ns `jF) W8,`RL `bLC,o4 `x0 `ai3,(by let#[u0,rfl]:=`bZ6),`lz `cx,show `bMA from ry,(`aG4).2,(`bQp),(`bMj),#[B,`aJ5,`aJ6,`bMl],λi J a h1 _=>`aLO,(`bMm),(mg0 _),(`bL3),`bL5=`bL6,λv J s'=>`bL?,`dm cdv A `dK s H E hr H B `BG,`x9 `RQ,λe u he ru=>?_,kk _ _ z2.s,`c (`de _),R1.mp hl,`bZs `dI,#[_,rfl,A5 h],R (`aLV) s',λx:PKW=>`aEt,(`bNo),[dk,`ajd],(`h 3),(`bSi),(`bTG),(`aLD),(`bVj),(`bVm),(`bYS),(`bZQ),`bLT=`bLU,(`bLV),`bL0==b,a==`bL2,show `cx from h,`F7 ?_,by simp[`w],λB' gB _=>`bMc,λvs H' s' r=>?_,#[δn,en',ei],hg cl s _ ex B d δ `z s' σ H v u Q I r h,`aLN he,`RO `bMn,`tt `bMo,`RP `bMu,s=`BH/\o'=`n?,#[d,rfl,e],its'.toArray.size,hl1.extBut,(`bNm),(`bNC),(`bNF),(`bNG),(`bNJ),(`bNO),(`bNZ),(`bN_),(`bN2),(`bN3),(`bN8),(`bN9),(`bOd),(`bOe),(`bOf),(v20 1 `jE),(`bOw),(`bOF),(v60 2 `a6),(100000:Nat),(`bOR),(`bOS),(v20 1 `Ga),(`bO4),(`bO5),(`bPb),(`bPc),(`bPr),(`bPs),(`bPt),(`bPK),(`bP6),(`bP!),hp q (`D_),λe=>`bQi,p6 `bQr rfl,(`bRb),(`bRG),(`p `ad6),(`bS?),(`bTa),(`bTb),(`bc `k3).all,(`bTF),(`bTH),(`bUA),(`bUD),(`bUE),(`bXj),(z8 `x5 v5),(`bc `QF),(`bZe),A.un.trans,(by rw[A.wt,hw,`S,`e3,jh0 s1]),(9:Int)≠0,`h (`bN+1),(`bZB),(`bZD),(`bZI),Nat.succ.inj,(D4 _ (lk0 hb e)),keywordEach,#[oc,od,`afd,osl],`KN x.1=_,`ie `L! `N,(`go f),`bMi∨`aft,hb `aCX,`k `QH hf,`mF ⟨`a8,`a8,vt⟩,r=.ok (`u1 `F')/\`bM4,`Di<=`R,yi0 ?_,(o2 `Rw `kT eqD),(o2 `rX `Z `FP),mv0 `e8 `kw fk fv,(`aMf:Q3),`cb `aEk,(`bQG),(`bQH),(`bQR),(`bRF),(`bRH),(`bRI),(`bRL),(`bRU),(`p "end"),(`bR9),(`bTc),(`bTi),(`bTn),(`bTI),(`bS!),(`bUt),(`bUK),(`bUN),(`bUO),(`bUR),(`bUS),(`ai1),(`bUU),(`bVM),z8 `Z `bWc,(`bWh),(`bWG),(`bWZ),(`bW5),(`bW6),(`bXn),(`bXk),(`bXs),(`bXt),(`bXB),(`bXC),(`bXL),(`bYR),(a+(`o `N5):Nat),(`aM4:Nat),(`aM6:Nat),`h `bYV,sts ps `V,[`h `RW,`h `ag9],(`bYX),`yi (`aM8) `aM9,(`aM').mpr,h `bY0,(`bY1),[`y,`kK],[`kI,`kK],[`ri,`tF],(`bY7:Int),u80 `bZn,(36 ^ m:Nat),`h4 (`Fm),`o? `Of,pk.map `h,(`bZJ),`aLE `e2 (`ag y),(`bLE),(`bLF),D9 Array.toList d1,`F6 `aLF,
V->Hp->(`ke)->Prop,"dict_itemiterator","dict_reverseitemiterator","odict_iterator","itertools.zip_longest","itertools.pairwise",λv u s2 x y H2 I2 rx ry q=>`bLG,y=`y/\`bLJ,`RM∨r' x y H Q,∃x,`bLP,(`c (`cW `aLG)),`bk `a2 z,x.above y c (N4 h),(`bLW),λus s1 #[vs,H1,I1,r1,q1]=>`aLI,Int.ofNat_le.mpr,entry_tuple_getitem,(`bLY),(`bLZ),fin its r' hz h' c' kp e,∃p ys,`bL9,λA outer s H vs Q E hr J=>?_,[`bL'],(I3.stkSub b hf),`aH λa=>`p (h a),λJ s'=>`bL!,`O2 `bMb,#[`bJ,env,e2,`bMd],B b->`bMe,`k O (`I #[n,n']),(s1.nf b o xs h),(`C? (b2 b z.1)),#[B,b1,`ll,Z],#[n,`bMf],sm b o (M.same b o h'),fun σ' w en'=>?_,#[`bMg,?_],`aLN ht,`RP `bMx,(`bMy),λkv=>`bMz,(`lg f),(`hV o "get" `mr),λj k b ds es h1 h2 h3 h4=>?_,(`bMB),(`bMC),#[λb u h=>?_,λb ob xs h=>?_],#[B,b1,b2,env],λj ds b h1 h2=>?_,#[`bME,s _ _ h],`m1 _ q2 `bMG,#[`aBp,λa z=>`n `afs,`ll,?_,`ll,`ai7],`ei `bMH g,(`sX i d a q1 q2),(`bMK),#[δn,en',e2],hq `ai8,hq `bMM,F.args_int_rmul_2,`aLT `bMN,`aLT `bMO,(`CK (`n3::`aBV)),match fin with|`EU f=>`aHo|`aHp=>`bMQ,(λ_=>(⟨⟩:`aO)),Builtin.«zip.__next__»,(field `mR 2>>=_),(`bMR),(field `mR 3>>=_),(`bMS),(`bMT),(`bMU).extBut,(`bMV).extBut,F.args_zip_next_1,`MK->c≠TO->`aBX,`MK->`bMY,∃a b:`F2,`bM0,(`bM2),`mY [`DZ,`Oz] `N,`bM5->`ai!,`kB `bM6,List.drop_eq_nil_iff,by funext c;apply `bM7,`kB `bM8,wpAny_tryCatch ?_,(`bM?),(`bNa),λobj s₁=>`bNc,(`bNd),H c=`aF->`bNe,`ja (wp0 e hf) e,(`bNf),(`bNh),upd H `L `vl `s1,`t `ai?,#[ws,yb0,q4,q5.mono (`D7 J)],(`m (`aER `o_)),#[v,e,`bNi],∃(p:`f) (kvs:`lE),`bNj,(`bNl),`k bf M,λK H B a r=>#[r,`aL2],(`bNn),(`bNp),#[a,dv,env,e2,`DX],(`hV o "pop" `mr),∃H₀ B₀ δ dk ns,`bNy,La (z▸at'.w.in0),λx hx y hy z=>?_,(`bNz),#[rfl,(B4 q1).symm,(B4 q2).symm],(`C? `ajg),(`bNB),match d with|`t [_,v]=>v|_=>`y,(o2 `Z `D8 ltD),(`s? `Z),`c `bNU,(`bOh),(`bOk),(`bOl),(`bOo),(`bOt),(`bOx),(`bOA),`xO `gj,`m `bOG,(`bOH),(`bOI),`c `bOM,(`bON),λs hs=>h3 s (D1 _ hs),(`bOO),(`bOT),(`bO_),(`bQg),`dy (`n `ajj) (`aCL).2,(`bQh).map,(by rw[`bQj]),`c `bQo,
`aZ (`oT<=k),(`bQs),(`aMi),`D (a=k) v d,#[_,`bQt,rfl],(`bQO),(`bQQ),(`bQW),(`bQZ),(`bQ5),(`bRa),(`bRc),(`bRd),(`bRm),(`bRp),(`bRw),(`bRX),(`bRY),(`bR0),(`bR1),(`bR6),(`bR8),(`bSb),(`bSe),(`bSf),(`bSg),(`bSh),(`bSl),(`bSu),(`bSv),(`bSE),(`bSJ),(`bSO),(`bS_),(`bS4),(`bS5),(`bS6),(`bS9),(`bTd),(`bTg),(`bTh),`ajl=(`k3 - `dn)+1,DL.deq (`aMC) (`aMD),(`bTj),(`bTm),(`bTw),(`bTx),(`bTD),(`bTE),(`bTL),(`bTM),(`bTN),(`bT3),(`bT'),(`bUc),(`bUo),(`bUq),(`bUu),(`bUJ),`FL `bVl,(`bVt),(`bVN),(`bWi),(`bWB),(`bW_),(`bW4),(`s? `cv),(`bXh),(`bXi),(`bXu),(`bXM),(`bXW),(`bX3),(`bX'),(`bYs),(`bYP),(`bYQ),`eu `aM3,`eu `ajv,(o2 `Q `aM5 eqD),(`bYT),(`bYU),(`bYY),(`an (`f5<`Ml)),(`aEY:Nat),`w_ `bY3 (.sh `y),`w_ `bY5 (`dX),`bY6=lkd `aNa,hc k hk i (i60 hu),`k `RX ha,`k `RX m.me,`bY' e,(`bY!),`aNb `bY?,`c `bZd,`D `ajy _ `g,[`bZh,`ve,`BP],(by rw[`bZi]),(`bZj),`BN `bZl _,λp=>`bZo,`OC `o6 `lc,(36 ^ (m+1):Nat),(`bZr),#[B,T,[],`ah B T],`mB `bZt,`k `aNc `ajz,λn _=>`bZu,(`bZv).mpr,(`bZx),yd0 `bZy,(`bZC),((`aNg).fl p hp).2,(`fR (b:=`d) ?_),(`bZM),(`bZN),(`bZP),(`bZR),(`bZS),λc v hc q=>k c v ?_ q,`di ha Q h,ho `z s2 σ H2 x y v u Q I2 rx ry q,`ig (x=`y),(`bLH),Q `bLI H,(x.cps.getD 0 0:Nat),`h `bLK,(`bLL),Q `bLM H,`sv=1/\`bLN,xs=[`cG]/\`bLO,(k,x)::`aLH,((k,x)::r),`D (k=f) ((k,v)::r) `bLQ,s50 f v `bLR,(`bLS),dy0 I hg hm ?_ hdb,q40 I hg hm hv ?_ hn hdb,args_tuple_getitem,`bLX _ _,`D `ai4 _ _,`D a 1 0,(`bL_),`D b 1 0,(`bL1),show `Bn from fx,its.toArray.any,`bL4 `Mw,its.any `Mw,(`aF3/\`aLJ)∨(`aF4/\Q `i_ H),(`bL7),`v5/\`bL8,#[`RN,`j?,ifs,0],k J `aLK,k v J `aLK,λp hp=>k _ _ `aLL ?_,#[`aLM,`bMa],r'.mono gB,λJ H1 s1 it=>?_,¬`bh b->Hh b=`g,M.same b o (`ai5),it.stop _ Hi gr `bq,`xU/\∃δ,`sb=`xf,(`bMh),λcdv A outer s H vs Q E hr zQ=>?_,λi j a J es h1 _ _ _=>`aLO,#[?_,hb,`bMk],ri0 (N:=N) r,q v H' s' r',q `y H' `aLP `st,λz=>hb p z hp,(r'.toO hn).rp,(`bMp),`bMq `aLQ `bMr,(`bMs),q _ H' s' `bMt,r'.toO (`LP).2.2,(`bMv),q p H' hp s' `bMw,Txt.slice z lo hi,`ai6 y,u=`e1 b,λj o' s e1 e2 h=>?_,
`xk i j a d0 d' hi e3 hs e1,`xx n (wp0 h hp),λz=>`bMD,`k z hp,(`bMF),(λo h=>s _ _ h),`F8 s1 b1 b2 hi J M,(`bMI),`aaU `bMJ b1 b2 M `st,`k z `ai9,(`bML),ih k rfl `aLR `aLS,V6.eq I `aLU `aLR `aLS,`F9 c' s',`aHq/\`bMP,`RR `aLW,`RR (`ag TI),`aLX>>=_,h2.extBut `Dx D.i2z,hl2.extBut `Dx D.l2z,`ad0->`mk c=`aF->`aEr,`ad_->`bMW,c≠TO->`bMX,Q `aLY H,xs=[`ts]/\`bMZ,x=`lo/\`bM_,getattributeRaised,`bM1 _ _ _ _ _ _ _,s'.os=s₁.os/\`ai',OldK `o0 `nd/\`bM3,`aW (`aHy) s',hk _ _ `aLZ e,(by by_cases q:c=d<;>simp[upd,q,ww0,hd]),hs.extBut _ _ `aLZ e,`EV _ (`ag x.p) `dg,show `bM9 from `aL_,(`bM'),L0 `bM! ?_,`mM [rk0,rv0] (`afA d rk0 rv0),kt_code_dict_new,obj=`gW/\`gF=`af',`bNb _ `iz,upd H `L `vl c=`aF,`bD (`L,[`e1 l]),Builtin.Dict.updateFrom,`bNg "dict.__init__" `L `r9 [] `a8,`ei `aL0,`v5/\`aja/\Q (`aL1) H,#[oC,J _ _ o2,h5],C50 e4 e6 hc `bNk ?_ a2,upd H1 c `aEM,bf0 (h1.go B δ),`adV i hvis,Uf0 `ajb `ajc hs,`aje X.K `bg `bh H' σ' `aH0 i j `agy,`bNq->`aL3,∀σ' H',`bNr,`F!/\`bNs,`RS/\`bNt,`ajf/\`bNu,`Py `bg H δ,`PX=`c dk/\`bNv,`bNw/\`bNx,`bk `EZ hk',r.ext gr λC dx fs e=>?_,λk n so q1 q2 r=>`bNA,`h? [] `rW `jE,z8 `aL4 `d_,(`bND),oA `bNE l90,`M5 `CX,z8 `CX `b3,(`bNH),ye0 `bNI,z8 `jE `b3,(`bNK),z8 `kT `bNL,(`bNM),ye0 `bNN,((`o `ajh):Nat),(`bNP:Int),k<`bNQ,(`bNR),`an `bNS,(`bNT),o2 `Q `hi xb0,(`bNV),z8 `bNW v5,(`bNX),yu0 `bNY,`Cb `hi,oA `d_ oi0,(`bN0),qu0 `bN1,o2 `Q `cT ltD,unG wc0 `e4,(`bN4),o2 `bN5 `Q xm0,(`bN6),`x3 `bN7,`F? [] (fi0 `Q) `aL5,oA `aL6 xh0,(`bN'),`yd `bN!,oA `aL7 `aL8,(`bN?),(`bOa),o2 `bOb `bOc yf0,oA `aa_ wf0,`M5 `kT,(`FO `jE),o2 `bOg `e4 yf0,`FO `aL9,(`bOi),`x7 `bOj,o2 (oA `aL' yc0) `aL! yf0,`ya `ca tf0,(`bOm),oA `bOn yc0,`ya `ca v70,(`bOp),oA `bOq yc0,(`bOr),o2 `bOs (oA `ca vh0) jr0,oA `b3 tu0,(`bOu),v60 1 `bOv,`h? [] `lF (oA `ca sy0),z8 `aL? v5,(`bOy),oA `bOz yc0,z8 `aMa v5,(`bOB),oA `bOC yc0,(`bOD),v60 2 `bOE,(`o? (a++b)),`ii `x `x h,by have:=`tE;have:=dt0 p;lia,((`o `re):Nat),(`bOJ:Int),`de `bOK,(`bOL),`gL `re e,`cX `d7,oA `b3 xi0,(`bOP),v60 1 `bOQ,o2 `x6 `kT eqD,
qu0 (oA `d_ lt0),ye0 (z8 `gB `ca),(`bOU),`h? [] `lF `bOV,(`bOW),z8 `bOX v5,(`bOY),oA `bOZ v80,o2 `cv `aL `ye,ob `aMb,(`bO0),(`bO1),ob `bO2,jo0 `bO3,o2 `cw `cT ltD,z8 `aMc v5,(`bO7),oA `bO8 xh0,(`bO9),o2 `cw `bO' geD,(`bO6),(`bO!),ob `bO?,ob `bPa,o2 `aKv `e4 ixD,(`bPd),z8 `bPe v5,(`bPf),oA `bPg v80,(`bPh),o2 `aMc `cw ixD,z8 `bPi v5,(`bPj),(`bPk),z8 `bPl `bPm,(`bPn),ye0 `bPo,(`bPp),xk0 `bPq,`tr 3 `cv,oA `ca v80,o2 `Q `aL `FP,(`bPu),ob `bPv,o2 `aL `Q xg0,sq0 `Z `ca ln0,(`bPw),(`bPx),(`bPy),ifG `bPz `bPA `bPB,(`bPC),z8 `bPD v5,(`bPE),z8 `Q `bPF,(`bPG),ye0 `bPH,(`bPI),`h? [2,3] `RT `bPJ,oA `jH kc0,o2 `Q `Z `aji,sq0 `aL `ca ln0,(`bPN),o2 `aMd `bPO rp0,(`bPM),(`bPP),ob `bPQ,ob `bPR,z8 `aMd v5,(`bPU),z8 `Q `bPV,(`bPL),(`bPS),(`bPT),(`bPW),vs0 `bPX,ws0 `bPY `bPZ,ye0 `bP_,(`bP0),(`bP1),(`bP2),yh0 1 [1,2,3] `bP3 `eW `bP4 `bP5,o2 `cv `cw yf0,(`bP7),z8 `bP8 v5,(`bP9),oA `bP' wb0,z8 `aL4 v5,(`bP?),oA `bQa xh0,(`bQb),o2 `bQc `aMe leD,(o2 `gB `kT neD),(`bQd),orG `bQe `bQf,np l `Qi fk fv ys,(`dB e.n:Q3),`X e.d `dl (O _ _),(`o `aMg),(`bQk:Nat),(`bQl:Int),`de `bQm,(`bQn),o90 `iV,by apply `FN;exact J s4,(`bQq),`Gb `aao `aMh,`jq n z,z8 `aMj v5,(`bQu),oA `bQv v80,(`bQw),ye0 v5,z8 `bQx v5,(`bQy),(`bQz),z8 `bQA `bQB,(`bQC),ye0 `bQD,(`bQE),z8 `bQF v5,`h? [] `RT `agV,oA `aMk v80,(`bQI),z8 `bQJ v5,(`bQK),z8 `Q `bQL,(`bQM),oA `bQN rz0,(o2 `jE `Z `ye),js0 `BK `bQP,oA `d_ so0,o2 `aMl `aMm u90,(`bQS),`yd `bQT,(`bQU),o2 `bQV `e4 yf0,`yd `aL9,(`bQX),`x7 `bQY,o2 `aMl `aMn u90,(`bQ_),`FO `bQ0,(`bQ1),z8 `bQ2 v5,(`bQ3),oA `bQ4 yc0,(`FO `D8),`x7 `bQ6,(`bQ7),z8 `bQ8 v5,(`bQ9),oA `bQ' yc0,(`bQ!),o2 `bQ? `aL! jr0,uh0 `x! `Z,oA (z8 `Z `jH) su0,`s? `aMo,`yd (oA `x4 v70),(`bRe),o2 `bRf `aiL yf0,(`bRg),z8 `bRh v5,(`bRi),oA `bRj yc0,(`bRk),o2 `bRl (oA `x4 vh0) jr0,`ya `E8 uq0,(`bRn),oA `bRo yc0,z8 `yf `aK!,(`bRq),ye0 `bRr,(`bRs),z8 `bRt v5,(`bRu),yu0 `bRv,z8 `aL `jH,(`bRx),z8 `cw `bRy,(`bRz),z8 `Q `bRA,(`bRB),oA `bRC um0,(`bRD),g00 `bRE,uh0 `x! `cw,oA `jH so0,oA `aMp ui0,oA `b3 so0,(`bRJ),tn0 `bRK,`s? `x5,
(`bRM),z8 `bRN v5,(`bRO),oA `bRP wy0,(`bRQ),z8 `bRR v5,(`bRS),oA `bRT oi0,o2 `tC `aMq eqD,(`bRV),ob `aMr,ob `bRW,`yd `aMs,(`bRZ),`yd `bR_,pb0 0 `bv `mS `cT,z8 `aMt v5,(`bR2),yu0 `bR3,(`bR4),o2 `bR5 `Z `ly,(yu0 `aMu),o2 `bR7 `Z `ly,z8 `aMv `aMu,z8 (gc (`aMw)) v5,(`bR'),yu0 `bR!,(`bR?),o2 `bSa `aK3 yf0,`el `yf `RG,(`bSc),ye0 `bSd,`x3 (unG wc0 `Gc),`jI `b3 tv0,o2 `a6 (oA `RU xh0) xm0,oA `b3 mz0,oA (z8 `Z `RU) vk0,(`bSj),z00 `bp `bSk,z8 `aMx v5,(`bSm),z8 `aiQ `bSn,(`bSo),`ajk `bSp,(`bSq),ob `bSr,(`bSs),ta0 `bSt,pb0 0 `bv `pT `aMx,j40 `Q `RV uv0 `tG,(`bSw),j40 `Q `aMy uv0 `tG,z8 `bSx v5,(`bSy),(`bSz),z8 `bSA `bSB,(`bSC),oA `bSD l90,z8 (ot0 `yg `d_) v5,(`bSF),z8 `abo `bSG,(`bSH),ye0 `bSI,`ya `d_ u70,(`bSK),z8 `CX `bSL,(`bSM),ye0 `bSN,(sk0 `Z `RV uv0),z8 `bSP v5,(`bSQ),oA `bSR u70,(`bSS),z8 `bST v5,(`bSU),z8 `aMz `bSV,(`bSW),z8 `kT `bSX,(`bSY),ye0 `bSZ,z8 `aMo v5,(`bS0),z8 `aMz `bS1,(`bS2),oA `bS3 wk0,o2 `tC `aMv eqD,`jI v5 ue0,`jI `b3 xv0,(`bS7),R9 `bS8,(`aMA),gc `bS',o2 `aL `Ru eqD,o2 `aL `aMt eqD,ob `aMB,`jI `b3 wn0,Un0 0 `bv `yh `dz,`jI v5 ul0,(`bTe),R9 `bTf,wpAny_dictEpoch h1 d1 ?_,oA `ca `E1,yh0 1 [] `aME `eW `tc `jE,tn0 `aMF,(`bTk),`vI `bTl,o2 `m! `cv `ye,z8 `aMm v5,(`bTo),z8 `yf `bTp,(`bTq),ye0 `bTr,(`bTs),ifG `tc `bTt `Q,(`bTu),`h? [1] `aME `bTv,oA (z8 `Q `b3) ua0,(`x3 `Gc),z8 `bTy v5,(`bTz),z8 `yf `bTA,(`bTB),ye0 `bTC,`gM `Gc t90,o2 `a6 `hi geD,o2 `aL `hi xm0,o2 `ajm `hi u90,`x7 `Z,z8 `ajm `aMG,(`bTJ),ye0 `bTK,o2 `aBc `x6 ltD,oA (z8 `Q `jH) v00,(o2 `Z `aL yf0),z8 `bTO v5,(`bTP),z8 `Z `bTQ,(o2 `Z `Q uy0),z8 `bTS `RU,(`bTR),(`bTT),dp0 `bTU,oA `bTV vk0,(`bTW),(`bTX),`h? [0] `bTY `bTZ,(`bT_),z8 `bT0 v5,(`bT1),ot0 `yg `bT2,z8 `aBd `aMH,(`bT4),oA `bT5 vk0,(`bT6),z8 `bT7 `aMG,(`bT8),ye0 `bT9,oA `aMI uf0,(`bT!),`el `bT? `rX,(`bUa),ye0 `bUb,z8 `rX `aMI,(`bUd),z8 `Q `bUe,(`bUf),(o2 `rX `Rw yf0),oA `bUg o20,z8 `bUh v5,(`bUi),(`bUj),z8 `bUk `bUl,(`bUm),ye0 `bUn,(`MS `x6),unG (atC `C2) `bUp,o2 `x6 `oo yx0,(`bUr),z8 `bUs v5,oA `aMJ v90,(z8 `m! v5),z8 `cv `bUv,(`bUw),z8 `Q `bUx,
(`bUy),oA `bUz td0,`n4 `agX,(`bUB),v20 5 `bUC,`ml `agX,z8 `a6 `aig,(`bUF),oA `bUG wk0,(`bUH),qu0 `bUI,o2 `cw `a6 `ye,o2 `aL `cw ixD,(`bUL),z8 `bUM v5,oA `aMK tb0,o2 `a6 `cw xg0,(`bUP),mu0 `bUQ,oA `aML ut0,`p "bb",`p "d",`p "e9",`p "hh",(`bUW),gc `bUX,(`p "g"),(`bUY),gc `bUZ,z8 `bU_ `aMM,(`bU0),(`bU1),z8 `bU2 `bU3,(`bUV),(`bU4),gc `bU5,z8 `aMN `bU6,(`bU7),(`bU8),z8 `bU9 `bU',(`bU!),z8 `aMO `bU?,(`bUT),(`bVa),gc `bVb,z8 `aMP `bVc,(`bVd),(`bVe),z8 `bVf `bVg,(`bVh),z8 `ajn `bVi,`Rv `aMQ,(`bVk),z8 `e4 v5,o2 (gc (`h 40)) `aL yf0,(`bVn),z8 `bVo v5,(`bVp),z8 `Q `bVq,(`bVr),oA `bVs wq0,`Rv `a6,(`bVu),o2 `e4 `bVv yf0,(`bVw),z8 `bVx v5,gc (`h 97),(`bVz),o2 `bVA `Q xm0,(`bVB),o2 `aMQ `bVC yf0,(`bVD),z8 `bVE v5,(`bVy),(`bVF),t70 `bVG,oA `bVH q80,(`bVI),(`bVJ),`h? [3] `bVK `bVL,oA `aMR wb0,z8 `aMN `aMM,(`bVO),z8 `aMP `bVP,(`bVQ),z8 `ajn `bVR,(`bVS),yu0 `bVT,(`bVU),z8 `bVV v5,unG wc0 `Rx,(`bVX),z8 `bVY v5,(`bVZ),z8 `rB `bV_,(`bV0),z8 `dz `bV1,(`bV2),z8 `cT `bV3,`MP `aMS,(`bV4),(`bV5),yu0 `bV6,`MS `bV7,(`bV8),(`bV9),o2 `bV' `bV! ixD,(`bV?),z8 `bWa v5,(`bWb),(`bVW),ky0 `bWd,(`bWe),(`aMT),yh0 2 [3] `bWf `Fu noT `bWg,oA `aMU wb0,`el `ajo `aMV,(`bWj),yu0 `bWk,`oh `aJE,(`bWm),sk0 `cw uv0 `bWn,(`bWo),z8 `bWp v5,(`bWl),(`bWq),o2 `bWr `aL ixD,z8 `cv `bWs,(`bWt),(`bWu),z8 `bWv `bWw,(`bWx),ye0 `bWy,(`bWz),v20 1 `bWA,`Cb `Ft,(`bWC),o2 `bWD `Rq xb0,(`bWE),z8 `bWF v5,`E9 `Rx,(`bWH),o2 `bWI `aKf yf0,(`bWJ),o2 `bWK `Ry xb0,`E9 `aMS,(`bWM),o2 `bWN `Q yf0,(`bWO),z8 `bWP `b3,(`bWQ),oA `bWR tw0,(`bWL),(`bWS),o2 `a6 `bWT ixD,z8 `bWU v5,(`bWV),(`bWW),z8 `bWX `bWY,`h? `ajp `aMW `aMX,z8 `Z (z8 `jE `jH),(`bW0),oA `bW1 u40,(`bW2),xk0 `bW3,o2 `Qs `kT jt0,o2 `x5 `a6 `aiR,sk0 `ajq uv0 `tG,(`bW7),(sk0 `cw uv0 `tG),o2 `bW8 `bW9 rp0,z8 `ajq `b3,(`bW!),oA `bW? sl0,oA `aMp sl0,(`bXa),(`bXb),o2 `bXc `bXd neT,(`bW'),(`bXe),ob `bXf,ob `bXg,o2 `ajq `cw rp0,o2 `Rw `kT jt0,z8 `MQ v5,(`bXl),oA `bXm xh0,`h? [] `RT `gB,(`bXo),o2 `rX `bXp `aiR,(`bXq),ob `aMY,ob `bXr,yh0 2 [] `aMZ `Fu noT `Q,z8 `aMO v5,(`bXv),z8 `ajn `bXw,
(`bXx),z8 `aKD `bXy,(`bXz),yu0 `bXA,o2 `Q `a6 `aji,z8 `Ga `ca,(`bXD),z8 `Z `bXE,(`bXF),oA `bXG u40,(`bXH),z8 `bXI v5,(`bXJ),z8 `Q `bXK,yh0 1 [1,3,4] `aM_ `eW `aM0 `aM1,oA `aig wb0,(`bXN),o2 `MQ `bXO yf0,(`bXP),z8 `bXQ v5,(`bXR),ye0 `bXS,(sk0 `a6 uv0 `tG),(`bXT),o2 `bXU `bXV yf0,(o2 `dz `Q yf0),z8 `bXX v5,(`bXY),z8 `Z `bXZ,(`bX_),oA `bX0 wq0,(`bX1),z8 `bX2 `b3,o2 (gc (`h 50)) `m! yf0,(`bX4),z8 `bX5 v5,(`bX6),z8 `Q `bX7,(`bX8),oA `bX9 wq0,`ml `ajr,(`bX!),z8 `bX? v5,(`bYa),`MP `aKE,oA `bYb xh0,(`bYc),(`bYd),o2 `bYe `bYf xb0,(`bYg),`n4 `ajr,z8 `bYh v5,(`bYi),(`bYj),z8 `bYk `bYl,(`bYm),ye0 `bYn,(`bYo),`h? [4,7] `ajs `bYp,(`bYq),v20 5 `bYr,oA `aM2 th0,(z8 (gv 12) `x4),(`bYt),oA `bYu th0,z8 `bYv v5,(`bYw),(`bYx),z8 `bYy `bYz,(`bYA),oA `bYB o40,(`bYC),ob `bYD,λds=>qh0 (ds++`LW),`gM (gv 12) `bYF,(`bYG),z8 `bYH v5,(`bYI),oA `bYJ xh0,(`bYK),o2 `bYL `aMa rp0,(`bYE),(`bYM),ta0 `bYN,ob `bYO,`h `ajt,`h `aju,`k `pV `fA,`ta λc=>(`aau:Str),(`ak (bg ps 0)),(z8 gw v5),oA `bYW ut0,oA `aM7 oi0,(`aM').mp,`bYZ z,(`bY_),`aM! - `v?,o++`wb `y,(`bY2),o++`wb `KA,(`bY4),lkv `dJ `aM?,(bg ps x:Nat),(by rw[Oc0,`ajw]),Ia.ih0 `bY8 eb,(`bY9).trans,by rw[`x];have:`ajx:=h;rw[`w,`x],λp=>`bH (`bR p),`an (yt0 w=yt0 v),(`bZa),`lG `bZb,(`bZc),by rw[cm,`RY],`Rz (`kd `y),(`bZf),.ow `bZg,`X `RZ `uN (Xs0 p S _),`lG (`an (b<128)),`D `Bn _ (o50 _ _),(`bZk),s20 `e' h,(`bZm),#[[`tj,`ed,`acb],?_,rfl],`tD J (0<`ff),#[`bZp,ht],`n `bZq,(`R_).drop,(`aJn),`pW ((n,`aNd)=(n,`aNe)) `aNf,Pt0 B as h (lt k hk) j,`X `gn `gj rfl,`ax `bZw,(`Gd t h0),`X `gn `dl rfl,(by rw[`bZz]),by apply `bZA;rfl,`ax (yd0 t),xt0 `wP `h3,`X LL `dl rfl,(by rw[`bZE]),by apply `bZF;exact a7,(`bZG),`O `bZH rfl,A3 (`a5:2<=64) _,`pX Q4 Q4,(`bZK),o4 Q4 `bZL,`R0 `ajA,(`nq: Str) ++ `aHH,`bZO ++ `Ou,o4 `aNh d8,o4 `x0 `ajB,show `o8=1 by rw[`S] at hl;simpa using hl,λx hx=>M _ _ (hp x hx),`bGn hu,by rw[A.bg,bn0 hk,`au];rfl,by apply `bGo;rfl,∃d,`bFx,`cX (qa0 kvs x.k x.v),by have:=`td;apply `xD;lia,λy hy=>`bLa,vv0 `bJg t00 hs,∀v,(x,v)∉binds,
m20 (i:=j) hN hj hy hf2,o2 `Q (gc (`ts)) eqD,`n `bGs,by rw[s1,s2,hl],us1 `bLD,λr s'=>`bGF,`aiA e2,`aiA e3,λb hb=>`bGD,`lx he _,`nj [`aDC] `gD pos,∀c o,`bIT,by rw[`F1,`RI hi],.If c as bs pos,λh' c' kp e=>`bH3,`ax `bLv,`FY (λo sl h=>?_) `k8,`mo (yw0 J),λv H2=>`tb/\Q `FV H2,`mF ⟨`kl,`h 0 0⟩,([]:`aCo).length,(`D ([]:`aCo).isEmpty 0 1),(`NV),λζ=>∀(pins:`aN) (s:`v) (σ:St) (H:Hp) (D:Ends),`B->t D σ H->ζ,by have:=`PB;rw[q1,`x] at this;lia,#[x,_,rfl,_,_,hw],Value.builtin,`QF<`R,r.1=`d,λζ=>λv s₁=>`aP `eD X.A (`aEI) (λu s₂=>ζ) `iQ `gF,λζ=>#[B,B,dx,dy,rx,ry,hl.1,hl.2,ζ],(`bEu),`acz->(∀a∈l,a∈m)->`aC<=`acA,`c (`O_),(Qx0 r l u),k v H2 `kR rv,`aBH (J H1 B)]
def Z:=""
def k4{k:Nat}(h:k<4):k=0∨k=1∨k=2∨k=3:=`U
def bdS{α β:Type}{o:`R!}{f:`aNr}{r:β}(h:`aNs):`aNt:=by
 cases o with
 | none=>cases h
 | some a=>exact`aNu
noncomputable section
open PySem
def A0:=@PySem.PassesOwn.never
def A1:=@PySem.wpAny_bind
def A2:=@Nat.lt_of_le_of_lt
def A3:=@Nat.add_le_add_left
def A4:=@List.mem_map
def A5:=@PySem.wpAny_pure
def A6:=@Nat.le_refl
def A7:=@List.mem_cons_of_mem
def A8:=@List.mem_cons_self
def A9:=@PySem.boot_len
def B0:=@PySem.F.slot_str_startswith
def B3:=@PySem.F.type_str_startswith
def B4:=@Option.some.inj
def B5:=@List.mem_cons
def B6:=@PySem.Heap.lt_size
def B7:=@List.mem_append
def B8:=@PySem.Heap.get?_push_of_some
def B9:=@Nat.ne_of_lt
def C0:=@Bool.false_ne_true
def C1:=@Ne.symm
def C2:=@Nat.zero_le
def C3:=@Nat.le_trans
def C4:=@List.mem_range
def C5:=@PySem.Heap.get?_push_size
def C6:=@List.getElem?_eq_some_iff
def C7:=@Nat.lt_of_lt_of_le
def C8:=@List.mem_of_getElem?
def C9:=@List.getElem?_eq_getElem
def D0:=@Nat.ne_of_gt
def D1:=@List.mem_append_left
def D3:=@PySem.wpAny_holding
def D4:=@List.mem_append_right
def D5:=@PySem.W.mg_of
def D6:=@List.getElem_mem
def D7:=@List.map_congr_left
def D8:=@List.mem_singleton
def D9:=@congrArg
def E1:=@PySem.W.mg_none_of
def E2:=@of_decide_eq_true
def E3:=@List.nodup_cons
def E4:=@decide_eq_decide
def E5:=@PySem.codeAny_builtin
def E6:=@Nat.lt_irrefl
def E7:=@PySem.wpAny_mono
def E8:=@List.nodup_nil
def E9:=@decide_eq_true
def F0:=@PySem.wpAny_Call_Name_kw
def F1:=@beq_eq_false_iff_ne
def F3:=@PySem.Calls.spliced_cons
def F5:=@Option.map_eq_some_iff
def F7:=@Nat.lt_trans
def F8:=@List.nodup_append
def G0:=@PySem.wpAny_specialOf
def K0:=@List.mem_filter
def K2:=@Nat.le_of_eq
def L0:=@PySem.wpAny_typeOf
def L4:=@PySem.call_meets
def L5:=@PySem.plainId_quiet
def L6:=@List.mem_of_find?_eq_some
def L7:=@PySem.wpAny_call_entry
def L8:=@Nat.le_of_lt
def L9:=@PyProof.Rows.callWith_type1
def M0:=@PySem.Calls.spliced_nil
def N4:=@PySem.mem_of_lookup
def O0:=@PySem.wpAny_field
def P3:=@PySem.W.kia_one
def P4:=@Sum.inr.inj
def P5:=@PySem.wpAny_truthy_bool
def P6:=@PySem.codeAny_mono
def P7:=@PySem.wpAny_newObj_type
def P8:=@Iff.rfl
def Q1:=@List.find?_some
def Q2:=@List.nodup_iff_pairwise_ne
def R1:=@List.mem_replicate
def S4:=@PySem.wpAny_rule
def T0:=@decide_eq_false
def U1:=@PySem.wpAny_Name
def U2:=@PySem.wpAny_passesOwn
def W1:=@beq_iff_eq
def X0:=@PySem.typeIs_int
def X1:=@PySem.F.plainAttrs_list
def X2:=@List.length_eq_zero_iff
def Y1:=@List.mem_map_of_mem
def Y2:=@Nat.not_lt_zero
def Y3:=@List.mem_reverse
def c8:=@Int.emod_nonneg
def d5:=@PySem.wpAny_seqItems
def d6:=@List.mem_filterMap
def f8:=@Nat.lt_succ_self
def g5:=@PyProof.Rows.slot_tuple_getitem
def g7:=@PySem.typeIs_str
def g9:=@List.mem_iff_getElem
def i3:=@PySem.Heap.get?_update_self
def i4:=@Nat.le_add_right
def i5:=@List.mem_flatMap
def i6:=@List.ext_getElem
def i7:=@List.getElem_inj
def i8:=@PySem.wpAny_call
def j0:=@Nat.le_succ
def j3:=@PySem.wpAny_callSpecial?_slot
def k0:=@PyProof.Rows.Subscript_
def k7:=@PySem.slot_list_getitem
def k8:=@PySem.Heap.get?_update_other
def l5:=@PySem.Heap.SameBut.update
def l7:=@PySem.tupleKind_room_in1
def l8:=@PySem.wpAny_updateSeq
def m3:=@Array.getElem?_eq_getElem
def m4:=@Nat.mul_le_mul_right
def n5:=@List.mem_of_mem_take
def o0:=@List.pairwise_map
def p9:=@List.map_id
def r8:=@List.length_map
def r9:=@List.length_range
def t0:=@Int.emod_lt_of_pos
def u3:=@PySem.F.slot_NoneType_hash
def u4:=@PySem.F.slot_tuple_hash
def u7:=@PySem.wpAny_forIn_list
def u8:=@List.getD_eq_getElem?_getD
def v0:=@PySem.SeqAt.EqAt.same
def v3:=@PySem.SeqAt.EqAt.int_str
def w8:=@PySem.SeqAt.EqAt.str_int
def x3:=@PySem.wpAny_isInstance
def x4:=@PySem.Paired.length
def x5:=@List.getElem?_eq_none_iff
def x6:=@PySem.wpAny_loadName_local
def x8:=@PySem.wpAny_pyIter_list
def x9:=@List.of_mem_zip
def y4:=@PySem.concat_meets
def y9:=@PySem.Calls.callWith_builtin
def z0:=@PySem.wpAny_notOrdered_dict
def A00:=@PySem.F.slot_int_rmul
def A10:=@Nat.lt_succ_of_lt
def A20:=@PySem.callType_codes
def A30:=@PySem.F.slot_zip_next
def A40:=@List.mem_iff_getElem?
def A50:=@PySem.F.plain_extend_loop
def A60:=@List.ext_getElem?
def A70:=@List.not_mem_nil
def A80:=@List.all_eq_true
def A90:=@List.Pairwise.take
def B00:=@PySem.wpAny_dictEntries
def B10:=@List.mem_flatten
def B20:=@List.nodup_range
def B40:=@PySem.codeAny_call_builtin
def B50:=@PySem.F.typeOf_object_class
def B60:=@PySem.wpAny_pyHash_int
def B70:=@PySem.wpAny_pyHash_str
def B80:=@PySem.SeqAt.EqAt.none_int
def B90:=@PySem.SeqAt.EqAt.none_str
def C00:=@PySem.SeqAt.EqAt.int_none
def C10:=@PySem.SeqAt.EqAt.int_int
def C20:=@PySem.SeqAt.EqAt.str_none
def C30:=@PySem.SeqAt.EqAt.str_str
def C40:=@PySem.SeqAt.RcAt.tuples
def C50:=@PySem.wpAny_loadName_free
def C60:=@PySem.wpAny_execs_nil
def C70:=@PySem.wpAny_standAt
def C80:=@PySem.W.plainGet_of
def C90:=@PySem.Heap.size_push
def D10:=@PySem.noFill_tuple_add
def D20:=@PySem.seq_tuple_add
def D30:=@PySem.F.slot_tuple_add
def D40:=@PySem.F.entry_tuple_add
def D50:=@PySem.F.args_tuple_add_2
def D60:=@Nat.min_le_right
def D70:=@PySem.wpAny_sequenceKey
def E00:=@PySem.Heap.IsSliceOf.new
def E10:=@PySem.wpAny_getItem_list_slice
def E20:=@PySem.Calls.evalArgs_plain
def E50:=@PySem.F.slot_dict_get
def E60:=@PySem.wpAny_loadPart'
def E70:=@PySem.F.slot_list_append
def E80:=@PySem.F.type_list_append
def E90:=@PyProof.Rows.F.plain_set_update_loop
def F00:=@PySem.wpAny_nextOf_list_item
def F10:=@List.cons.inj
def F20:=@List.rel_of_pairwise_cons
def F30:=@List.pairwise_cons
def F40:=@Nat.not_lt
def F50:=@List.append_of_mem
def F60:=@Nat.pow_succ
def F70:=@Nat.div_le_self
def F80:=@List.append_nil
def F90:=@List.Pairwise.filter
def G00:=@List.Perm.nodup_iff
def I00:=@Int.natCast_nonneg
def a20:=@Int.lt_of_le_of_lt
def a30:=@List.Pairwise.imp_of_mem
def a40:=@List.mem_of_mem_drop
def a60:=@PySem.wpAny_callSpecialIfBoundUnlessNone?_slot
def hq0:=@PySem.Calls.Name_function_global
def k10:=@PySem.wpAny_pyNext_list_item
def l10:=@PySem.wpAny_pyNext_tuple_item
def n10:=@PySem.wpAny_pyNext_tuple_end
def np0:=@PyProof.Rows.callWith_builtin1
def tk0:=@PySem.wpAny_comprehension_free
def x30:=@Bool.eq_false_iff
def x90:=@PySem.F.slot_dict_getitem
def xc0:=@PySem.F.entry_dict_get
def xe0:=@PySem.F.args_dict_get_2
def xs0:=@PySem.F.plainAttrs_dict
def A01:=@PySem.F.slot_list_extend
def A11:=@PySem.F.type_list_extend
def A21:=@PySem.F.slot_list_pop
def A31:=@PySem.F.type_list_pop
def A41:=@PySem.F.slot_tuple_mul
def A51:=@PySem.F.slot_tuple_rmul
def A61:=@PySem.wpAny_binaryOp_repeat_ref
def Ab1:=@PySem.SeqAt.ne_of_list_tuple
def Ad1:=@PySem.SeqAt.RcAt.lists_lengths
def Ae1:=@PyProof.Rows.F.entry_set_update_loop
def Af1:=@PyProof.Rows.SetOf_congr
def Ao1:=@Array.getElem?_eq_none
def As1:=@List.getElem?_zip_eq_some
def Au1:=@PySem.F.slot_int_mul
def Ax1:=@Array.getElem_mem
def B01:=@PySem.F.kt_called_dict
def B11:=@PySem.F.kt_typeCall_dict_1
def B21:=@PySem.F.entry_dict_init
def B41:=@PySem.F.args_dict_init_2
def B51:=@List.mergeSort_perm
def B61:=@List.pairwise_mergeSort
def B71:=@PySem.F.slot_dict_setdefault
def B81:=@Classical.choose_spec
def B91:=@List.length_pos_iff
def Bb1:=@List.length_filter_le
def Bc1:=@List.perm_ext_iff_of_nodup
def Bd1:=@List.find?_eq_none
def Bg1:=@PySem.F.slot_dict_ne
def Bj1:=@List.eq_nil_of_length_eq_zero
def Bk1:=@List.map_snd_zip
def Bl1:=@List.isPrefixOf_iff_prefix
def Bm1:=@List.reverse_perm
def Bn1:=@Classical.axiomOfChoice
set_option Elab.async false
set_option linter.all false
set_option maxRecDepth 100000
variable{prog:`av}{E Q:`aK}{o e b tg iter value elt ke ve:`G}{od an:`cY}{x y name qual x2 root:Str}{K:`C}{h' base:`aa}{i t' j n k1 k2 x1:Nat}{vs us:`am}{u dV doc pm cdv ct oc vl vu:`A}{α β κ:Type}{pins:`aN}{ch fp as':`aw}{it dx fa I z i1 l1 l2 c0:`f}{s':`v}{pos pos' tpos apos p2 cpos py spos px p3 pos2 p0 lpos:Pos}{rest:`d8}{ys:`aO}{es ifs elts:`d3}{lo:`bw}{mA mg:`cd}{fd:`f0}{nm N' cs rs T' pool:`e}{sc scope lsc:`ev}{osl:`hz}{caps idx L:`j}{oa oC:Obj}{adj:`R?}
namespace KfT
def sl:Slot `B0 `aNv "object.__getattribute__" := by
 refine .of (owner:= "object") (n:= `aNv) ?_ `bf `bf `bf ?_ ?_
 ·apply `p_;kernel_rfl
 ·first|exact `n `bf|exact `u `bf
 ·rw[`afO];kernel_rfl
def lk:`pn `p0 `aeu=`bD (`c `aNw):=by
 apply `p_;kernel_rfl
def ow:`ajK `p0 (`cR (".".intercalate ("object.__class__".cutAt '.').dropLast))=`MA:=by
 rw[F.owner_object_class,`afO];kernel_rfl
section
variable{P:`av}{W:`T}{A:`aq}{X:`aK}{s:`v}{f:`f}{y:Obj}
def gs{R:`nw}(e:`aNx)(c:`Sa)(q:`o4 `p0 s):
  `mH `Sb A (`wZ (`cW "getset_descriptor.__get__") #[[`aE?,`uM,`BD],[]]) R s:=by
 apply `ajL;apply `ajM;have z2:=ow;refine B40 F.slot_gs_get.plain F.entry_gs_get (F.slot_gs_get.check _ _ _ _ _ _ _ _ B50 (F.args_gs_get _ _ _) ?_)
 apply `jK
 refine#[`aNy,E5 F.entry_object_class ?_]
 apply `jK
def ga{tk:Tok}{R:`aNz}(e:`aNx)(c:`Sa)(q:R (`EU (`u1 `p0)) s):
  `aP `Sb A (Builtin.«object.__getattribute__» #[[`uM,`aNA],[]]) R X s:=by
 apply `ajL;apply `ajM;have z2:`aCO `aNw "getset_descriptor" := B50;have z3:=lk;have z4:=B50;have z5:=F.slot_gs_get.lookup;have z6:=F.slot_gs_set.lookup
 apply `jK
 refine gs e c ?_
 apply `jK
variable{hh:`aa}{gg:`Dv}{dd:Drawn}{tt:Nat}{oo:OsState}
def by'{tk:Tok}{R:`aK}(e:`aNB)(c:`Sa)(q:R `p0 `Ow):`aP `Sb A (getAttrBy `e2 (`aNA) `q) R X `Ow:=by
 apply `ajM;have z2:=sl.lookup;have z3:=sl.bind `e2
 apply `jK
 refine B40 sl.plain F.entry_object_getattribute (sl.check _ _ _ _ _ _ _ _ z1 (F.args_object_getattribute_2 _ _) (ga e c ?_))
 apply `jK
def at'{R:`tI}(e:`aNB)(c:`Sa)(q:R (`c `p0) #[hh,gg,dd,tt+1,oo]):`aP `Sb A (`aHl `e2 `aeu) R X `Ow:=by
 delta getAttr? getAttrBy?
 repeat (any_goals (first|assumption|with_reducible apply by' e c|wp_step))
omit z
def kit{f:`f}:W.KitX K `e2 `p0 (W.KitAt f `B0):=(W.kitx_of W.kitAt_ty λ{_ _ _ _ _ s} p k=>by
 skip;apply `ajL;let#[_,e,c]:=p;done;exact at' e c k)
omit KfT
open Y
abbrev Key:=`acW
def gl0:Key->`aNC
 | `Gk,v=>`aND k v
 | `p1,v=>`aNE x v
def u71(w:`T):Key->Int
 | `Gk=>hashInt k
 | `p1=>hashStr w x
theorem u50:∀{k:Key} {v:`A},gl0 k v=`d->(∃i t,k=`pb i/\v=`Mo i t)∨(∃x t,k=`dB x/\v=`w0 x t)
 | `yl,v,h=>by
  let#[t,e]:=Value.isInt_shape (k:=i) (v:=v) h;exact `n #[i,t,rfl,e]
 | `p1,v,h=>by
  let#[t,e]:=Value.isStrOf_shape (x:=x) (v:=v) h;exact `u #[x,t,rfl,e]
def Ny0(i:Int)(t:Tok):gl0 (`yl) `wW=`d:=by simp[gl0,`aND]
def K10(x:Str)(t:Tok):gl0 (`p1) `Sc=`d:=by simp[gl0,`aNE]
def yi1(a b:Int):`an (`aNF)=(a==b):=by
 by_cases e:a=b
 ·subst e;simp
 ·have h:¬`aNF:=λq=>e (Sum.inl.inj q)
  rw[`fn];exact(`m0 e).symm
def ym1(a b:Str):`an (`aNG)=`aI7:=by
 by_cases e:a=b
 ·subst e;simp
 ·have h:¬`aNG:=`ajN
  rw[`fn,`ym]
def Av0(a:Int)(b:Str):`an (`aFa=`dB b)=`q:=(`aNH)
def z21(a:Str)(b:Int):`an (`aFb=`pb b)=`q:=(`aNH)
def wi0(prog:`av)(w:`T):PySem.KeyKind `hO w Key where
 is:=gl0
 hash:=u71 w
 inj:=λv a b ha hb=>by
  rcases u50 ha with⟨i,t,rfl,rfl⟩|⟨x,t,rfl,rfl⟩
  ·apply `aNI
   ·apply `ajO;rw[e1]
   ·exact nomatch e
  ·apply `aNI
   ·exact nomatch e
   ·apply `ajO;rw[e1]
 byValue:=λk v h=>by
  rcases u50 h with⟨i,t,rfl,rfl⟩|⟨x,t,rfl,rfl⟩<;>rfl
 pyHash:=λhv h=>by
  rcases u50 hv with⟨i,t,rfl,rfl⟩|⟨x,t,rfl,rfl⟩
  ·exact B60 h
  ·exact B70 h
 eqBool:=λhu hv h=>by
  rcases u50 hu with⟨i,t,rfl,rfl⟩|⟨x,t,rfl,rfl⟩
  ·apply `aNJ
   ·rw[yi1] at h;exact wpAny_eqBool_int h
   ·rw[Av0] at h;exact v3 i t y u _ _ _ _ h
  ·apply `aNJ
   ·rw[z21] at h;exact w8 x t j u _ _ _ _ h
   ·rw[ym1] at h;exact wpAny_eqBool_str h
 «strs»:=λk x t v h=>by
  rcases u50 h with⟨i,u,rfl,e⟩|⟨y,u,rfl,e⟩
  ·exact nomatch e
  ·apply `ajO
   subst e1;cases v<;>rfl
def R40(prog:`av)(w:`T)(i:Int)(t:Tok):`aNK (`yl) `wW=`d:=(Ny0 i t)
def R90(prog:`av)(w:`T)(x:Str)(t:Tok):`aNK (`p1) `Sc=`d:=(K10 x t)
set_option genInjectivity true in
inductive V where
 | non|bl (b:`aj)|int (i:Int)|str (x:Str)|byt (b:`aNL)|flt (b:UInt64)|ref (a:`f)|ty (n:`da)
 deriving DecidableEq
variable{v:L2.V}{xs dvs:`aeF}{σ:`ao (`aT L2.V)}{kvs:`aNM}
def RelV:V->`ac8
 | `y,u=>u=`xp
 | `e5,u=>u=`CM b
 | `b9,u=>`RA
 | `cG,u=>`aKL
 | .byt b,u=>`aNN
 | .flt b,u=>`aNO
 | `cQ,u=>`RQ
 | .ty n,u=>u=`m2 n
abbrev Vals:`P->`am->Prop:=`cu `dw
def Vals.length(r:`eq):`aB=`o8:=(x4 r)
def Vals.get:∀{xs:`P} {us:`am} {i:Nat} {x:V},`eq->`pj->∃u,`afu=`bS/\`ip:=by
 intro xs us i x p;induction p generalizing i with
 | nil=>intro e;cases e
 | cons r t ih=>
  cases i with
  | zero=>intro e;cases e;exact`Sd
  | succ i=>exact ih
def Vals.append:∀{xs ys:`P} {us ws:`am},`eq->`aNP->`b_ `NC (us++ws):=by
 intro xs ys us ws p q;induction p with
 | nil=>exact q
 | cons r t ih=>exact `Gl
def Vals.take:`aNQ xs.take `P3:=by
 intro xs us n p;induction p generalizing n with
 | nil=>cases n<;>exact `ah
 | cons r t ih=>
  cases n with
  | zero=>exact `ah
  | succ n=>exact `aE r (ih n)
def Vals.drop:`aNQ `p2 `agk:=by
 intro xs us n p;induction p generalizing n with
 | nil=>cases n<;>exact `ah
 | cons r t ih=>
  cases n with
  | zero=>exact `tJ
  | succ n=>exact ih n
def Vals.none_of:∀{xs:`P} {us:`am} {i:Nat},`eq->`afZ->`afu=`g:=(λ{xs us i} r e=>by
 have h1:=`a2;have h2:`aeJ:=x5.mp e;exact x5.mpr `l)
open B
def RelO:`ep->`iR->Prop
 | `aX,`bS=>`gG
 | `g,`g=>True
 | _,_=>`cx
def KV{κ:Type}:`hA->`yn->Prop:=`cu λ(p:`KG) (q:κ×`A)=>p.1=q.1/\`dw p.2 q.2
def kV:Key->V
 | `yl=>`b9
 | `p1=>`cG
inductive SubO where
 | lst (xs:`P)|dK (kvs:`lE)|ins (C dx:`f) (fs:`jL)
variable{so:`aev}{sos:`aNR}
inductive HO where
 | deep (sub:`nx)
 | lst (xs:`P)
 | tup (xs:`P)
 | dK (kvs:`lE)|dT (kvs:`lI)|dX (kvs:`ao (Nat×V))
 | set (S:Int->`aj) (n:Nat)
 | ins (C dx:`f) (fs:`jL)
 | own (x:`f)
 | xd (fs:`jL)
 | met (f x:`f)
 | rng (lo hi:Int)
 | frz (o:Obj) (u:HO)
 | tbl (ps:`aO)
 | ext (φ:`Dj)
abbrev Hp:=`f->`yo
def upd(H:Hp)(a:`f)(o:HO):Hp:=λb=>`D (b=a) `aF (H b)
variable{H H' H1 H2 H₀:L2.Hp}
def yb0{a:`f}{o:HO}:upd H a o a=`aF:=by delta upd;rw[`a4]
def zi0{a b:`f}{o:HO}(h:`ps):upd H a o b=H b:=by delta upd;rw[`bV]
def bu0{a b:`f}{o u:HO}(h:`Cc)(h':`Gm)(d:o≠u):a≠b:=by
 intro e;subst e;rw[h] at h';exact d (B4 h')
def wp0{a b:`f}{o:HO}(h:`Cc)(h':`dp):a≠b:=by
 intro e;subst e;rw[h] at h';cases h'
def IsTupN(h:`aa)(a:`f)(items:`aO):Prop:=∃o,`Mq/\`Gn/\∃n,`sf=`aDl/\`yp
def IsTupN.tup{h:`aa}{a:`f}{items:`aO}(x:`Se h a `bJ):`Ek h a `bJ:=by let#[o,e,c,n,d,_]:=x;exact#[o,e,c,n,d]
def IsTupN.new(h:`aa)(items:`aO):`Se (h.push (`wX `bJ)) `hl `bJ:=(`ajP)
def qOf(ps:`aO):Str:=match (ps[0]?:`iR) with
 | `c (`p q _)=>q
 | _=> ""
def TabOk(H:Hp)(h:`aa)(a:`f)(q:Str):Prop:=∃cont:`aO,`jd=`aNS/\`ajQ `ajR /\
 ∀pos cv,`yq pos `ajR=`ajS->∃c oc vs tq,cv=`tq/\H c=`c (`fT oc `aKp)/\oc.data=`Er/\vs[1]?=`c (`p q tq)
section
variable(P:`av)(w:`T)
def SubOk(H:Hp)(h:`aa)(a b:`f):`dW->Prop
 | `dx=>`ajT (`uW=`Sf)
 | `vs=>`aCP `aNT b
 | `ms=>b=a/\`ajU/\`ajV/\dx≠a/\`aNU /\
   `aNV
def ObjOk(H:Hp)(h:`aa)(a:`f):HO->Prop
 | `dx=>`ajT (`jd=`Sf)
 | `fI=>`se/\∃its:`am,`wp/\`Se h a `bj
 | `vs=>`ajW
 | .dT kvs=>`wT/\`o7/\∃xs:`tK,
   `cu (λ(p:`e0×V) (q:`aAy)=>`aNW) kvs xs /\
   ∃o es ep,`Mq/\`ajX/\`ajY/\`ajZ=`OH (`Sg (`PH))/\`aNX
 | .dX _=>`cx
 | .set S n=>h.SetOf (intKind P w) a S n
 | `ms=>`ajU/\`ajV/\dx≠a/\`aNU /\
   `aNV
 | `oy sub=>(`Sh)/\∀p∈sub,`aNY
 | `go _=>`Sh
 | .xd fs=>∃mA,h.Ns1 a mA/\`aex
 | .rng lo hi=>∃t u v,`jd=`c `aEw
 | `fT o u=>`Mq/\`g7 H h a u
 | `acs=>`aEH
 | .met f x=>`jd=`c (`aLE `e2 `FV)
 | .ext φ=>φ h/\(`Sh)/\∀h1 h2:`aa,φ h1->(∀o,h1.get? a=`aF->h2.get? a=`aF)->φ h2
def HOk(H:Hp)(h:`aa):Prop:=∀a o,`Cc->`Si
omit z
section
variable{P:`av}{w:`T}{h:`aa}{a:`f}{o:HO}
def ObjOk.lt(x:`Si):a<`hl:=by
 skip;cases o with
 | lst xs=>let#[_,_,_,_,e]:=x;done;exact `fF
 | tup xs=>let#[_,_,_,p]:=x;done;exact p.tup.lt
 | dK kvs=>apply `aNZ;done;exact `fF
 | dT kvs=>apply `aNZ;done;exact `fF
 | dX kvs=>done;exact `fM x
 | set S n=>let#[o,_,_,_,e,_]:=x;done;exact `fF
 | ins C dx fs=>let#[_,_,_,e,_]:=x;done;exact `fF
 | own y=>let#[_,e]:=x;done;exact `fF
 | xd fs=>let#[_,#[_,_,_,e,_],_]:=x;done;exact `fF
 | rng lo hi=>let#[_,_,_,e]:=x;done;exact `fF
 | frz ob u=>let#[e,_]:=x;done;exact `fF
 | tbl ps=>let#[_,e,_]:=`aFi;done;exact `fF
 | met f y=>done;exact B6 (show `jd=`Sj from x)
 | ext φ=>let#[_,#[_,e],_]:=x;done;exact `fF
 | deep sub=>let#[#[_,e],_]:=x;done;exact `fF
def Paired.mapP{F G:`lJ}:∀{l₁:`aV} {l₂:`sa},`cu F l₁ l₂->(`aj_)->`cu G l₁ l₂:=by
 intro l₁ l₂ p f
 induction p with
 | nil=>exact `ah
 | cons r t ih=>exact `aE (f _ _ r) ih
def SubOk.stay{b:`f}(x:`O7 P w H h a b so)(hb:`aey)(k:`aN_)
  (ho:`aj0):`O7 P w H' h' a b so:=by
 skip;cases so with
 | lst xs=>let#[z,its,n,r,e]:=x;done;exact#[z,its,n,r,`aN0]
 | dK kvs=>apply `aN1;done;exact`Sk vs r `aN0
 | ins C dx fs=>
  let#[rfl,d,z,ne,e,mA,#[od,es,ep,e2,c],r]:=x;done;exact#[rfl,ho _ d,z,ne,`io,mA,`aN2,r]
def ObjOk.stay(x:`Si)(k:`aN_)
  (ho:`aj0) (ht:`Go) (hf:∀b ob u,H b=`aj1->`hY=`aj1):`g7 P w H' h' a o:=by
 induction o with
 | lst xs=>let#[z,its,n,r,e]:=x;exact#[z,its,n,r,`io]
 | tup xs=>let#[z,its,r,ob,e,c]:=x;exact#[z,its,r,ob,`io,c]
 | dK kvs=>skip;apply `aN1;done;exact`Sk vs r `io
 | dT kvs=>
  skip;apply `aN3;done;exact`Sk xs `aN4 `io
 | dX kvs=>exact `fM x
 | set S n=>let#[ob,es,ep,t,e,c]:=x;exact#[ob,es,ep,t,`io,c]
 | ins C dx fs=>
  skip;let#[d,z,ne,e,mA,#[od,es,ep,e2,c],r]:=x;done;exact#[ho _ d,z,ne,`io,mA,`aN2,r]
 | own y=>let#[ob,e]:=x;exact#[ob,`io]
 | xd fs=>skip;let#[mA,#[od,es,ep,e,c],r]:=x;done;exact#[mA,#[od,es,ep,`io,c],r]
 | rng lo hi=>let#[t,u,v,e]:=x;exact#[t,u,v,`io]
 | frz ob u ih=>let#[e,q]:=x;exact#[`io,ih q]
 | tbl ps=>
  apply `aN5;exact#[cont,`aN6,t,λpos cv q=>`aN7 `aN8 (hf _ _ _ z2)]
 | met f y=>
  have e:`jd=`aN9:=x;show `fQ a=`aN9;exact `aN6
 | ext φ=>let#[p,#[o,e],st]:=x;exact#[st _ _ p λo q=>k _ _ `gY q,`aN',st]
 | deep sub=>let#[#[o,e],q]:=x;exact#[`aN',λp hp=>#[(q p hp).1.imp id (ho _),(q p hp).2.stay (q p hp).1 k ho]]
def HOk.lt(x:`fo)(e:`Cc):a<`hl:=((x a o e).lt)
def HOk.fresh(x:`fo)(e:`aj2):`Sl:=by
 cases q:H a with
 | none=>rfl
 | some u=>exact `p3 (x.lt q) e
def HOk.kept(x:`fo)(k:`Sm):HOk P w H h':=(λa o e=>
 (x a o e).stay (λb u _ q=>`O8) `ail (`FT) `tw)
def HOk.laid(x:`fo)(k:`Sm)(hp:`aj2)(new:`g7 P w `lk h' a o):HOk P w `lk h':=(λb u e=>by
 have hn:=x.fresh hp
 apply `tL
 ·subst hb;rw[yb0] at e;cases e;exact new
 ·rw[zi0 hb] at e
  exact`aj3 `aN! (λc q=>`Gp) (λc xs q=>`Gp) λc ob u' q=>`Gp)
omit z
def Rd(H:Hp)(a:`f)(u:HO):Prop:=H a=`bS∨∃o,H a=`acM
def Rd.ok{P:`av}{w:`T}{h:`aa}{a:`f}{u:HO}(r:Rd H a u)(x:`fo):`aN?:=by
 rcases r with r|⟨o,r⟩
 ·exact x a u r
 ·let#[_,q]:=x a _ r
  exact q
def Mut:`yo->Prop
 | `c (`eo)=>True
 | `c (.dK _)=>True
 | `c (.dT _)=>True
 | `c (.dX _)=>True
 | `c (.set _ _)=>True
 | `c (`i3 _ _ _)=>True
 | `c (.ext _)=>True
 | `c (`oy _)=>True
 | _=>`cx
section
variable{P:`av}{w:`T}{h:`aa}{x e:`f}{o':HO}
def HOk.write(ok:`fo)(mu:`aj4)(he:`aj5)(k:`aOa)(heo:`aj6)
  (new:`g7 P w (upd H x o') h' x o'):HOk P w (upd H x o') h':=(λb u q=>by
 have J:∀c y,H c=`aj7->c≠x:=λc y r z=>`aj8
 have M:∀c xs,H c=`i?->c≠x:=λc xs r z=>`aj8
 have O:∀c ob u',H c=`aj9->c≠x:=λc ob u' r z=>`aj8
 by_cases hb:b=x
 ·subst hb;rw[yb0] at q;cases q;exact new
 ·rw[zi0 hb] at q
  by_cases hbe:b=e
  ·have q':H b=`aCS:=by
    rcases he with z|z
    ·exact `K (hbe.trans z) hb
    ·rw[hbe];exact z
   rw[q] at q';cases q';let#[v,hv]:=heo;exact#[v,`k hbe hv]
  ·refine(ok b u q).stay (λc v hc r=>k c v ?_ r) (λc r=>`ja (J c b r) r) (λc xs r=>`ja (M c xs r) r) λc ob u' r=>`ja (O c ob u' r) r
   rcases hc with rfl|hc
   ·exact hbe
   ·rintro rfl
    rcases he with z|z
    ·exact J c b hc z
    ·rw[hc] at z;cases z;exact hb rfl)
omit z
structure Un(fs ex:`aw)(H H':Hp)(h h':`aa):Prop where
 keep:`aj' (b∉fs->`Gq->`mz)
 slot:`aj' (b∈fs->`Gq->`aOb)
 free:`aj' (`Gq->`w4)
 there:∀b o,`mW->`Gq->`aOc
 tups:`Go
 frzs:`aj!
 tbls:`aOd
section
variable{fs fs' ex ex':`aw}{h h1 h2:`aa}{a x e:`f}{o:HO}
def Un.any(u:`Gr H1 h1){b:`f}{ob:Obj}(q:`aOe)(n:`dp)(hx:`Gq):∃sl,h1.get? b=`c { ob with slots:=sl }:=by
 by_cases hb:b∈fs
 ·exact u.slot b ob q n hb hx
 ·exact#[ob.slots,u.keep b ob q n hb hx]
def Un.kept(k:`Sm):`Gr H h':=(
 #[λb ob q _ _ _=>`aj?,λb ob q _ _ _=>#[ob.slots,`aj?],λ_ _ _ n _=>n,λb ob q _=>#[ob,`aj?],`FT,`tw,λ_ ps q=>#[⟨⟩,`id q]])
def Un.refl:`Gr H h:=(`Gs `FT)
theorem Un.laid(k:`Sm)(hp:`aj2)(hn:`Sl):`Gr `lk h' where
 keep:=`aOf
 slot:=`aOg
 free:=λb u q n _=>`ja (B9 (C7 (B6 q) hp)) n
 there:=`aOh
 tups:=`yr `Gp
 frzs:=λb u xs q=>`Gp
 tbls:=`aka (zi0 (wp0 q hn))
def Un.write(mu:`aj4)(he:`aj5)(k:`aOa)(heo:`aj6):`Gr `akb h':=by
 have hx:∀b,`dp->b≠x:=λb n z=>`acL n mu
 have hb:∀b,`dp->b≠e:=λb n z=>by
  subst z;rcases he with r|r
  ·exact hx b n r
  ·rw[n] at r;cases r
 have hm:∀b u,`Gm->¬Mut (`bS)->b≠x:=λb u q nm z=>`acL q (nm mu)
 refine#[λb u q n _ _=>`aOi,λb u q n _ _=>#[u.slots,`aOi],λb u q n _=>`ja (hx b n) n,λb u q _=>?_,
  `yr `aOj,λb u xs q=>`aOj,`aka `aFk]
 by_cases hbe:b=e
 ·subst hbe;exact heo
 ·exact#[u,k b u hbe q]
omit z
def trk(h:`aa)(H:Hp):`aw:=(`bc `hl).filter λa=>(H a).isSome
def jq0(h:`aa)(H:Hp):`aa:=W.hideAll h (trk h H)
def Nr0(h:`aa)(H:Hp):(`ws (jq0 h H))=`hl:=(W.hideAll_size _ _)
def gg0{h:`aa}{b:`f}{o:Obj}(e:`mW)(n:`dp):`aOk:=(
 W.hideAll_get _ e λhm=>by
  have q:`v9 (H b):=(`pK hm).2;rw[n] at q;simp at q)
def Bk0{h:`aa}{b:`f}{o:Obj}(e:`aOk):`mW/\`dp:=by
 have e':`mW:=W.of_hideAll (trk h H) e;refine#[e',?_];cases q:H b with
 | none=>rfl
 | some x=>
  have hm:b∈trk h H:=K0.mpr #[`kr (B6 e'),by simp[q]];have z:`aFl=`g:=W.hideAll_none (trk h H) hm;rw[z] at e;cases e
omit L2
variable{v:L2.V}{xs dvs:`aeF}{H H' H1 H2 H₀:L2.Hp}{so:`aev}{σ:`ao (`aT L2.V)}{kvs:`aNM}{sos:`aNR}
open Y
structure Mod(K:`C)(mg:`cd)(base:`aa):Prop where
 kin:`akc
 glob:`Sn
 blt:∃mb,base.Ns `akd mb/\`aOl
 nolimit:base.NoLimit
structure Cx where
 prog:`av
 w:`T
 K:`C
 mg:`cd
 base:`aa
 A:`aq
 N:`e
 s₀:`v
 H₀:Hp
 env:Env
 outer:`f6
 stack:`f6
 ex:`aw
 fn:Str->`aj
 calm:`aj
 pn:`aN
 xe:`aK
variable{X:L2.Cx}
def frs(l:`f6):`aw:=`DD (·.frame)
abbrev Cx.fs(X:Cx):`aw:=frs `ys
def Vis(sc:`ev)(x:Str):Prop:=`aCU∨`acN∨`C6 x=`jv
def Loc(sc:`ev)(x:Str):Prop:=`ake
def Look(env:Env)(h:`aa)(m:`cd)(x:Str)(u:`A):Prop:=
 (`OL=`i2/\m x=`bS)∨((`OL=`ib∨`OL=`jv)/\∃c,`aOm/\h.IsCell c (`bS))
structure Cx.Ok(X:Cx):Prop where
 mod:`aOn
 kind:`OM=`sF
 glob:`akf=`hP
 blt:X.env.builtins=`akd
 above:`tu<=`gu
 inj:∀x y c,`h9->`aOo->x=y
 has:∀x,(`akg∨`Nx=`jv)->∃c,`h9
 cab:∀x c,`uU->`h9->`tu<=c
 hd:`dV->X.A.handled=`g
 frames:X.A.frames=`c `h0
 stk:`h0=`ys∨(`h0=`N::`ys/\X.env.frame=`c `gu)
 exf:∀b∈X.ex,`wq/\`aEv
 bs:`Gt (`akh/\`aOp)
 bsz:X.base.objs.size<=`tu
 noex:`Gt (b∉X.ex)
 exfs:∀b∈X.ex,`So
 funs:`aOq `fL `ys
 frf:∀b∈`je,`aOp
structure Inv(X:Cx)(pins:`aN)(σ:`aki)(H:Hp)(s:`v):Prop where
 ok:X.Ok
 os:s.os=X.s₀.os
 bare:`aOr
 base:Un `je X.ex `O9 H X.s₀.heap `aY
 loc:∃m,`aOs/\∀(i:Nat) (x:Str) (v:V),`mg->`Sp->`KH->∃u,`gG/\Look `N `aY m x u
 cell:∀x c,`h9->∃v,`akj c v
 free:H `gu=`g
 freeC:∀x c,`h9->H c=`g
 pin:∀p∈`Ox,`aOt
 hok:`mX H `aY
 len:`wr=X.N.length
section
variable{s:`v}
def Cx.Ok.nofr(ok:X.Ok){b:`f}{o:Obj}(e:`aA3):`So:=(λhb=>by
 have:=(ok.funs.mem hb).1;apply `ay e;cases `w)
def Inv.bs(I:`B):`Gt `aOu:=(λb o e=>
 #[`ah7 b o `akk (`acO).2 (I.ok.nofr e) `aOv,`Mr b o `akk (`acO).2 `aOv])
def Inv.bk(I:`B):`Gt `gv:=(`hZ (I.bs b o e).1)
def Inv.mod(I:`B):`aOn:=(I.ok.mod)
def Inv.kIn(I:`B):X.K.In `aY:=(I.ok.mod.kin.keeps I.bk)
def Inv.nolimit(I:`B):`aOw:=(I.ok.mod.nolimit.keeps I.bk)
def Inv.lt(I:`B):`gu<`L:=(let #[_,hn,_]:=`jl;hn.lt)
def Inv.sz(I:`B):`tu<=`L:=(C3 `Nz (L8 I.lt))
def Inv.nofs(I:`B){a:`f}(h:`Sq):a∉`je:=(λhb=>by
 apply `akl;exact `p3 (B6 ho) (C3 I.sz h))
def Inv.cne(I:`B):`OE `gu:=(λx c e z=>by
 skip;apply `aOx;let#[m,#[o',es,ep,M,J,_],_]:=`jl;rw[z,M] at ho;cases ho;rw[J] at hd;cases hd)
def Inv.funs(I:`B):`Sr `fL `ys:=by
 have all:∀(l:`f6),(∀b∈frs l,b∈`je)->`aOq `fL l->`Sr `fL l:=by
  intro l
  induction l with
  | nil=>intro _ _;trivial
  | cons env r ih=>
   intro hs hl;skip;let#[hk,#[L,o,hf,hn,ho,hd],hr]:=hl;have hL:L∈`je:=`aOy L A8;let#[sl,e]:=`acP L o ho (I.ok.frf L hL) hL λz=>I.ok.exfs L z hL
   done;exact#[hk,#[L,_,hf,hn,e,hd],ih (λb hb=>`aOy b `DE) hr]
 exact all `ys (λ_ hb=>hb) I.ok.funs
def Inv.stack(I:`B):`Sr `fL `h0:=by
 apply `aOz
 ·rw[e];exact I.funs
 ·rw[e]
  let#[m,hn,_]:=`jl;refine `aE (`akm `jM) hf hn ?_ I.funs;exact Heap.get?_none_of_le (C3 I.ok.bsz `Nz)
def Inv.stkSub(I:`B):∀b∈`yt,b∈`gu::`je:=(λb hb=>by
 apply `aOz
 ·rw[e] at hb;exact `DE
 ·rw[e] at hb
  delta frs at hb;rw[`w3,hf] at hb;exact hb)
def Inv.stkFree(I:`B):∀b∈`yt,`dp:=(λb hb=>by
 rcases `bF (`akn b hb) with e|hb
 ·rw[e];exact `k5
 ·apply `akl
  exact `Mr b o ho (I.ok.frf b hb) λz=>I.ok.exfs b z hb)
def Inv.step{g':`Dv}{t':Nat}{d':Drawn}{ch:`aw}(I:`B)
  (hch:∀b∈ch,`ako)
  (keep:∀b o,`wq->`So->`Gu->`gv->`dp->`mz)
  (slot:∀b o,`wq->b∈`je->`Gu->`gv->`dp->`aOb) (free:∀b o,`Gu->`gv->`aOA)
  (there:∀b o,`Gu->`gv->`aOc)
  (tups:`Go) (frzs:`aj!) (tbls:`aOd)
  (ns:∀m,`aOs->h'.Ns `gu m) (hok:`akp) (hg:`Ns g'):
  `aOB:=by
 have Y:∀b o,`akh->`wq:=`hZ (B9 (C7 `mL `Nz))
 have M:∀b o,`akh->b∉X.ex->`Gu:=λb o e hx hb=>by
  rcases (hch b hb).1 with z|z
  ·exact hx z
  ·exact `p3 `mL z
 have O:∀x c,`h9->∀v,`akj c v->h'.IsCell c v:=λx c e v hq1=>by
  let#[o,ho,hd]:=hq1
  have J:c∉ch:=`aOC
  by_cases hc:c∈`je
  ·let#[sl,q]:=`aOD slot
   exact#[_,q,hd]
  ·exact#[o,`aOD keep,hd]
 refine#[I.ok,I.os,hg,#[`Ef,`Ef,`aOE,`aFp,`aOF tups,λb o xs e=>frzs b o xs (`aeE b o xs e),`aOG],?_,`Ss,?_,`Ss,`lK,hok,`hm]
 ·exact keep b o (Y b o e) hb `St `akq `Su
 ·apply `akr
  let#[Z,e2]:=slot b _ (Y b o e) hb `St e1 `Su;exact#[Z,e2]
 ·apply `Sv
  exact free b o' `St e1 `Su
 ·apply `Sv
  exact there b o' `St e1
 ·let#[m1,e1]:=`aOH
  let#[m2,e2]:=tbls b _ e1;exact#[`Sw,by rw[e2,`aOI]]
 ·apply `aks
  refine#[m,ns m hn,`aOJ];let#[u,r,l]:=hl i x v e1 e2 e3;refine#[u,r,?_];skip;rcases l with l|⟨k,c,e,z⟩
  ·done;exact `n l
  ·done;exact `u #[k,c,e,O x c e _ z]
 ·let#[v,z]:=`aeB
  exact#[v,O x c e v z]
 ·skip;let#[m,#[o,_,_,ho,_],_]:=`jl
  done;exact free _ o (`aOK) ho `k5
 ·apply `aOx
  exact free c o (`aOC) ho `aeC
 ·apply `akt
  have J:p.1∉ch:=λz=>(hch p.1 z).2.2.2 p hp rfl
  exact#[keep p.1 p.2 ne nf J e n,free p.1 p.2 J e n,ne,nf,d]
def Inv.un(I:`B)(u:Un `je [] H H' `aY h')(hok:`akp):`aW H' `sg:=by
 skip;apply `aOL;let#[sl,hL]:=u.any ho `k5 `az;done;exact `Sx (g':=`sP) (d':=`PM) (ch:=[]) `aOM (`aON u.keep) (`aON u.slot) (λb o _ e n=>u.free b o e n `az) (λb o _ e=>u.there b o e `az) u.tups u.frzs u.tbls (λm' hm=>by
  let#[o',O,M,J,r']:=hm;rw[ho] at J;cases J;exact`aOO) hok `k4
def Inv.call{g':`Dv}{t':Nat}{d':Drawn}(I:`B)(u:Un (`yt) ch H H' `aY h')(hok:`akp)(hg:`Ns g')
  (hch:∀b∈ch,`ako):
  `aOB:=by
 skip;apply `aOL;let#[sl,hL]:=u.any ho `k5 `aOK
 done;exact `Sx (ch:=ch) hch (λb o hL hb hc e n=>u.keep b o e n (λz=>(`bF (`akn b z)).elim hL hb) hc) (λb o _ _ hc e n=>u.any e n hc) (λb o hc e n=>u.free b o e n hc) (λb o hc e=>u.there b o e hc) u.tups u.frzs u.tbls (λm' hm=>by
  let#[o',O,M,J,r']:=hm;rw[ho] at J;cases J;exact`aOO) hok hg
def Inv.turned{t':Nat}(I:`B)(k:∀b o,b≠it->`xm)(hn:H it=`g)(hL:it≠`gu)
  (h1:it∈X.ex∨`tu<=it) (h2:`OE it) (h3:∀p∈`Ox,p.1≠it):`aku:=by
 have J:∀b u,`Gm->b≠it:=λb u e z=>by rw[z,hn] at e;cases e
 refine `Sx (g':=`sP) (d':=`PM) (ch:=[it]) (`ju) (`Sy `akv) (`Sy #[`akw,`akv]) `aOP
  (λb o hc e=>#[o,`akv]) (`akx) (λ_ _ _ e=>e) `aOQ `aky (`akz) `k4
 ·apply `Gv
  subst e;exact#[h1,hL,h2,h3]
 ·let#[o,es,ep,ho,r]:=hm
  exact#[o,es,ep,k _ o (C1 hL) ho,r]
 ·apply `aOR
  rcases hc with z|z
  ·rw[z];exact J b u e
  ·exact J c _ z
def Inv.tok(I:`B)(t:Nat):`aW H ((`BI t)):=(I.un (h':=`aY) (t':=t) Un.refl `bT)
def Inv.kept(I:`B)(k:`akA):`aku:=(I.un (`Gs k) (`aOS k))
def Inv.laid{a:`f}{o:HO}{t':Nat}(I:`B)(k:`akA)(hp:`Sq)(new:`Gw `lk a o):
  `aW `lk `sg:=(I.un (Un.laid k hp (`oE hp)) (I.hok.laid k hp new))
def Inv.write{x e:`f}{o:HO}{t':Nat}(I:`B)(mu:`aj4)(he:`aj5)(k:∀b u,b≠e->`aCY)(heo:`aj6)
  (new:`Gw `akb x o):`aW `akb `sg:=(I.un (Un.write mu he k heo) (I.hok.write mu he k heo new))
def Inv.weak{σ':`aki}(I:`B)(hl:`akB)(w:∀(i:Nat) v,σ'[i]?=`v_->`Sp):Inv X `z σ' H s:=(
 #[I.ok,I.os,`k4,`aCZ,let #[m,hn,hl']:=`jl;#[m,hn,λi x v e1 e2 e3=>hl' i x v e1 (w i v e2) e3],`r!,`k5,`v0,`r6,`bT,hl.trans `hm])
def Inv.pins_of{pins':`aN}(I:`B)(h:∀p∈pins',`aOt):Inv X pins' σ H s:=(
 (`akC I.ok λp hp=>`aOT (λz=>`r6 p `agw) (h p)))
def Ue0{N:`e}(hN:`Gx)(a:N[i]?=`c4)(b:N[j]?=`c4):i=j:=by
 let#[h1,e1]:=`c9 a;let#[h2,e2]:=`c9 b;exact(i7 hN).mp (e1.trans e2.symm)
def Wg0{M:Model}{A:`aq}{E:`aK}{Q:`p4}(I:`B)(hN:`fp)(hi:`mg)(hx:`vF)(r:`gG)
  (h:∀s',`aOU->(∃a,`aAX a `aY `nd/\(a=`gu∨`aak x=`kD))->`Sz) (hf:`lL):`aOV:=by
 apply `akD;have a3:(`OM==.class||(`OM==.module&&`gu != `akf))=`q:=`ax `jM
 have hiσ:i<`wr:=`p5 `hm `SA
 have cne:=I.cne;have J:∀{a:`f} {h':`aa},(∃o,`Gg/\`Sl)->`aOW->`mX H h':=λ{a h'} ha hs b ob e=>by
  let#[_,_,O]:=ha;refine(`bT b ob e).stay (λc w' hc q=>`yu c ?_ q) `ail (`FT) `tw
  rintro rfl;rcases hc with rfl|hc
  ·rw[O] at e;cases e
  ·rw[O] at hc;cases hc
 rcases hx with hk|hk
 ·refine wpAny_storeName_local hk hn (λh' a4 hs=>?_) a3
  let#[oL,_,_,a5,_]:=id hn;refine h _ #[I.ok,I.os,`k4,`aOX,#[_,a4,`aOY],λy c e=>?_,`k5,`v0,`lK,J #[oL,a5,`k5] hs,`aOZ] #[_,hs,`mi]
  ·exact`akE `akq
  ·apply `akr
   exact#[sl,`akE e1]
  ·apply `Sv
   exact#[o',`akE e1]
  ·by_cases hj:j=i
   ·subst hj
    rw[hi] at e1;cases e1;rw[`Cd hiσ] at e2;cases e2;exact#[u,r,`n #[hk,`a_]]
   ·rw[`akF] at e2
    apply `aO_;refine`aO0;skip;rcases q with⟨k,e⟩|⟨k,c,e,z⟩
    ·done;refine `n #[k,?_]
     have:y≠x:=λe=>hj (Ue0 hN e1 (e▸hi))
     simp[`w,e]
    ·done;exact `u #[k,c,e,`aO1]
  ·let#[w',z]:=`r! y c e
   exact#[w',`aO1]
  ·apply `akt
   exact`aO2 ne
 ·have Y:`uU:=by
   rcases hf with z|z
   ·exact z
   ·rw[z] at hk;cases hk
  let#[c,hc]:=`SB x (`n hk);let#[w',z]:=`aO3;refine wpAny_storeName_cell `jM hk hc z (`aO4);let#[oc,Z,a2]:=id z;refine h `k6 #[I.ok,I.os,`k4,`aOX,#[m,`aO5 hs (C1 (cne x c hc)),`aOY],λy c' e=>?_,`k5,`v0,`lK,J #[oc,Z,`SC] hs,`aOZ] #[c,hs,`u hc]
  ·exact`akG `akq
  ·apply `akr
   exact#[sl,`akG e1]
  ·apply `Sv
   exact#[o',`akG e1]
  ·by_cases hj:j=i
   ·subst hj
    rw[hi] at e1;cases e1;rw[`Cd hiσ] at e2;cases e2;exact#[u,r,`u #[`n hk,c,hc,a1]]
   ·rw[`akF] at e2
    apply `aO_;refine`aO0;skip;rcases q with q|⟨k,c',e,z'⟩
    ·done;exact `jn
    ·done;refine `u #[k,c',e,z'.sameBut hs ?_]
     rintro rfl;exact hj (Ue0 hN e1 (I.ok.inj _ _ _ e hc▸hi))
  ·by_cases hcc:c'=c
   ·subst hcc;exact#[_,a1]
   ·let#[w2,z2]:=`r! y c' e
    exact#[w2,z2.sameBut hs hcc]
  ·apply `akt
   refine`aO2 ?_;intro q;rw[q,Z] at e;have q':oc=p.2:=B4 e;exact d w' (`bk q' a2)
def b90{M:Model}{A:`aq}{E:`aK}{Q:`p4}(I:`B)(hN:`fp)(hi:`mg)(hx:`vF)(r:`gG)
  (h:∀s',`aOU->`Sz) (hf:`lL):`aOV:=(
 Wg0 I hN hi hx r (λs' I' _=>h s' I') hf)
def Inv.call'(I:`B)(ho:`akH)(u:Un (`yt) ch H H' `aY `nd)(hok:`mX H' `nd)(hg:`ai')
  (hch:∀b∈ch,`ako):`p6:=by
 let#[h',g',d',t',o']:=s';have e:o'=s.os:=ho;subst e;exact I.call (g':=g') (t':=t') (d':=d') u hok hg hch
omit z
abbrev XK:=`A->`cY->`ke
abbrev St:=`aki
abbrev VK:=`akI
abbrev TE:=St->`KI
variable{r:`aO6}
abbrev TT:=`Eh `Gy
variable{ta tb te ty:L2.TE}
abbrev TA:=`Eh `NF
structure Ends where
 nx:`lf
 rt:VK
 bk:`lf:=λ_ _=>`cx
 ct:`lf:=λ_ _=>`cx
abbrev TS:=Ends->`lf
def EP(X:Cx)(pins:`aN)(σ:St)(Q:VK)(u:`A)(s':`v):Prop:=∃v H',`p6/\`aO7
def TP(X:Cx)(pins:`aN)(σ:St)(Q:`Gy)(b:`aj)(s':`v):Prop:=∃H',`p6/\Q b H'
def AP(X:Cx)(pins:`aN)(σ:St)(Q:`NF)(us:`am)(s':`v):Prop:=∃vs H',`p6/\`pY/\Q vs H'
def SP(X:Cx)(pins:`aN)(D:Ends)(f:Flow)(s':`v):Prop:=
 match f with
 | `Pn=>`F6 `aL3
 | .brk=>`F6 (D.bk σ' H')
 | .cont=>`F6 (D.ct σ' H')
 | `u1 u=>∃v σ' H',`aba/\`gG/\D.rt v H'
def PE(X:Cx)(e:`G)(t:TE):Prop:=
 `aO8 VK (`dt `FU `f7)
noncomputable def PT(X:Cx)(e:`G)(t:TT):Prop:=
 `aO8 `Gy (`dt (`Oy e `N `FU) `akJ)
def PW(X:Cx)(e:`G)(t:TT):Prop:=
 ∀(whole:Sem `A) (pins:`aN) (s:`v) (σ:St) (H:Hp) (Q:`Gy),`B->`rT->`dt (`aC1) `akJ
def PW.pt{t:TT}(h:PW X e t):PT X e t:=(h _)
def PA(X:Cx)(es:`d3)(t:TA):Prop:=
 ∀(pos:Pos) (pins:`aN) (s:`v) (σ:St) (H:Hp) (Q:`NF),`B->`rT->`dt (`CK (`aac)) (AP X `z σ Q)
def PS(X:Cx)(st:`a0)(t:TS):Prop:=
 `aO9 exec
def PSs(X:Cx)(st:`d8)(t:TS):Prop:=
 `aO9 execs
def thn{t:Sem α}{Q Q':α->`fz}{M:Model}{A:`aq}{s:`v}(h:`nb M t)(hQ:∀a s,Q a s->Q' a s):`aP M A t Q' E s:=(E7 h hQ `SD)
section
def u01(i:Nat):TE:=`ir (∃v,`Sp/\Q v H)
def tC(v:V):TE:=λ_ H Q=>Q v H
def tr0(hN:`mg)(hv:`KH)(hd:`a9)(hcd:`hB):PE X `nc (u01 i):=by
 apply `a';skip;let#[v,e,h]:=h;apply `aks;let#[u,r,l]:=hl i x v hN e hv;have fin:`po u s:=`akK;apply `aO'
 ·done;exact U1 (x6 `jM hk hn hm fin) hd
 ·rcases hk with hk|hk
  ·done;exact U1 (`aO! `jM hk hc J fin) hd
  ·done;exact U1 (C50 `jM hk hc J fin hcd) hd
def yn1{i j pos}:`SE `ho `ho:=(`tM (`aO? #[`b9,H,`u2,`al,h]))
def wg1{b j pos}:`SE (`SF) `v1:=(`tM (Constant_bool (`lH `e5 h)))
def zx1{j pos}:`SE `a8 `y:=(`tM (Constant_none (`lH `y h)))
def zk1{x j pos}:`SE `mE `mE:=(`tM (Calls.Constant_str #[`cG,H,`u2,`al,h]))
def Gl(X:Cx)(x:Str):Prop:=`Nx=`c .globalImplicit
def dy0{E:`aK}{s:`v}{σ:St}{pos:Pos}(I:`B)(hg:`mh)(hm:`aPa)(h:Q u s)
  (hd:`a9):`aPb:=(
 hq0 `jM hg (Calls.loadGlobal_global `aPc hm h) hd)
def q40{E:`aK}{s:`v}{σ:St}{pos:Pos}(I:`B)(hg:`mh)(hm:`tN)(hv:`aPd)(h:Q u s)
  (hn:`tO) (hd:`a9):`aPb:=by
 let#[mb,h1,h2]:=I.mod.blt;exact hq0 `jM hg (Calls.loadGlobal_builtin `aPc hm (`k I.ok.blt (h1.keeps I.bk)) ((h2 x hn).trans hv) h) hd
def dn0(hg:`mh)(hm:`aPa)(r:`gG)(hd:`a9):`aPe:=(
 `tM (dy0 I hg hm `akK hd))
def Dg0(hg:`mh)(hm:`tN)(hv:`aPd)(r:`gG)(hn:`tO)(hd:`a9):`aPe:=(
 `tM (q40 I hg hm hv `akK hn hd))
variable{a:`G}
def PC(X:Cx)(op:`jN)(a b:`G)(t:TE):Prop:=
 ∀(pins:`aN) (s:`v) (σ:St) (H:Hp) (Q:VK),`B->`rT ->
  `aPf (`Bm op v u) `f7
def tB(t:TE):TT:=`db t (`SG (Q c H1))
def Au0{op:`jN}{t:TE}(h:`aPg)(h1:`aPh):PE X `tP t:=(λpins s σ H Q I hw=>`aPi `aPj h1)
def Ke0{op:`jN}{t:TE}(h:`aPg)(h1:`aPh):PT X `tP (tB t):=by
 apply `akL;refine `aPk (`SH `akM λu s2 h2=>thn h2 λc s3 hq2=>?_) h1;skip;apply `fk hq2;let#[d,rfl,q]:=q1;cases r1;done;exact `aPl
def K80{t:TE}(h:PE X e t)(he:`akN):PT X e (tB t):=by
 apply `akL;refine isTrue_plain (thn `akM λv s1 hq3=>?_) (he _);skip;apply `fk hq3;let#[d,rfl,q]:=q1;cases r1;done;exact `aPl
variable{tA tB':TT}{rest:`d3}
def v61(t u:TT):TT:=`akO (u σ H1 Q) (Q `q H1)
def tOr(t u:TT):TT:=`akO (Q `d H1) (u σ H1 Q)
def u21(t:TT):TT:=`db t `aPm
def Qr0(ha:`Gz):PW X `akP tA:=by
 apply `SI;refine `aPn `aPo;cases c with
 | true=>exact isTrue_and_nil e
 | false=>exact e
def Lf0(ha:`Gz):PW X `akQ tA:=by
 apply `SI;refine isTrue_or `aPo;cases c with
 | false=>exact isTrue_or_nil e
 | true=>exact e
def Lc0(ha:`Gz)(hb:PW X `GA tB'):PW X `GB (v61 tA tB'):=by
 apply `SI;apply `p7 `aPn λc s1 hq4=>?_;let#[H1,I1,q1]:=hq4;cases c with
 | true=>exact `aPp
 | false=>exact`aPq
def Fc0(ha:`Gz)(hb:PW X `GC tB'):PW X `GD (tOr tA tB'):=by
 apply `SI;apply `p7 isTrue_or λc s1 hq5=>?_;let#[H1,I1,q1]:=hq5;cases c with
 | true=>exact`aPq
 | false=>exact `aPp
def Md0(ha:`Gz):PT X `GE (u21 tA):=by
 apply `a';exact isTrue_not (`di ha (`aPm) h)
def xi1(ta tb:TE):TE:=`db ta (`SG (`D `akR `akS (Q `Bl H1)))
def vq1(ta tb:TE):TE:=`db ta (`SG (`D `akR (Q `KC H1) `akS))
def wb1(ta:TE):TE:=`db ta (`SG (Q (.bl (!c)) H1))
def z61{op}{t:TE}(h:PE X a t):PE X `aPr t:=(λpins s σ H Q I hw=>BoolOp_one `aPj)
def Bp0(ha:`jO)(hb:PE X `GA tb):PE X `GB (xi1 ta tb):=by
 apply `a';apply `p7 BoolOp_and λv s1 hq6=>?_;skip;apply `fk hq6;apply `akT;cases r1;done;refine P5 ?_;cases c with
 | true=>apply `akU
 | false=>exact#[`aa3,H1,I1,rfl,q1]
def wi1(ha:`jO)(hb:PE X `GC tb):PE X `GD (vq1 ta tb):=by
 apply `a';apply `p7 BoolOp_or λv s1 hq7=>?_;skip;apply `fk hq7;apply `akT;cases r1;done;refine P5 ?_;cases c with
 | false=>apply `akU
 | true=>exact#[`n',H1,I1,rfl,q1]
def yb1(ha:`jO):PE X `GE (wb1 ta):=by
 apply `a';apply `p7 UnaryOp_ λv s1 hq8=>?_;skip;apply `fk hq8;apply `akT;cases r1;done;exact not_of (P5 #[.bl (!c),H1,I1,rfl,q1])
def tIf(t:TT)(ta tb:TE):TE:=`akO (ta σ H1 Q) `akS
def If0{c:`G}(hc:PT X c tA)(ha:`jO)(hb:`tQ):PE X `aPs (tIf tA ta tb):=by
 apply `a';refine wpAny_IfExp (thn `aPt λd s1 hq9=>?_);let#[H1,I1,q1]:=hq9;cases d with
 | true=>exact `lx ha Q
 | false=>apply `akU
omit z
def SqL(K:`C)(H:Hp)(a:`f)(xs:`P):Prop:=
 `aGj ∨
  `aPu (`rv=`h_/\`yp/\`aPv)
def SqT(K:`C)(H:Hp)(a:`f)(xs:`P):Prop:=
 Rd H a `q' ∨
  `aPu (`Gn/\`aPv)
def ub1:`A->`ep
 | `a8=>`c `y
 | `SF=>`SJ
 | `h i _=>`c `ho
 | `p x _=>`c `mE
 | .bytes b _=>`c (.byt b)
 | .float b _=>`c (.flt b)
 | `cQ=>`n?
 | `cR n=>`c (.ty n)
 | _=>`g
def RelV.abs{x:V}(r:`ip):ub1 u=`c4:=by
 cases x with
 | non=>cases r;rfl
 | bl _=>cases r;rfl
 | int _=>apply `iA;rfl
 | str _=>apply `iA;rfl
 | byt _=>apply `iA;rfl
 | flt _=>apply `iA;rfl
 | ref _=>cases r;rfl
 | ty _=>cases r;rfl
def RelV.inj{x y:V}(r:`ip)(q:`eR):x=y:=(B4 (r.abs.symm.trans q.abs))
def Vals.inj:∀{xs ys:`P} {us:`am},`eq->`b_ ys us->xs=ys:=by
 intro xs ys us h
 induction h generalizing ys with
 | nil=>intro h2;cases h2;rfl
 | cons r t ih=>intro h2;cases h2 with
  | cons r' t'=>rw[`akV,ih t']
section
variable{σ:St}{s:`v}{a:`f}{ys:`P}
def SqT.of(h:`akW):`lM:=(`n `SK)
def Inv.list(I:`B)(h:`aPw):`akX PlainL:=by
 skip;rcases h with h|⟨o,its,n,hk,hc,hd,hs,hz,r⟩
 ·let#[z,its,n,r,e]:=`aPx
  done;exact#[its,r,#[_,n,e,rfl,rfl,rfl],z]
 ·done;refine#[`w5,r,#[o,n,`aPy,hc,hd,`aPz],?_]
  have e:=`a2;simp only[`yv] at e;lia
def Inv.tuple(I:`B)(h:`aPA):`akX `Ek:=by
 skip;rcases h with h|⟨o,its,n,hk,hc,hs,hz,r⟩
 ·let#[z,its,r,p]:=`aPx
  done;exact#[its,r,p.tup,z]
 ·done;refine#[`w5,r,#[o,`aPy,hc,n,`aPz],?_]
  have e:=`a2;simp only[`yv] at e;lia
def Inv.list_inj(I:`B)(h:`aPw)(h':SqL X.K H a ys):xs=ys:=by
 skip;let#[its,r,#[o,n,e,_,_,d],_]:=`hW h;let#[J,r',#[o',n',e',_,_,d'],_]:=`hW h';rw[e] at e';cases e';rw[d] at d';done;injection d' with d1 _
 apply `aPB
 subst this;exact `akV
def Inv.tuple_inj(I:`B)(h:`aPA)(h':SqT X.K H a ys):xs=ys:=by
 skip;let#[its,r,#[o,e,_,n,d],_]:=`mK h;let#[J,r',#[o',e',_,n',d'],_]:=`mK h';rw[e] at e';cases e';rw[d] at d';done;injection d' with d1 _
 apply `aPB
 subst this;exact `akV
omit z
abbrev Cx.wish(X:Cx)(E:`aK):Cx:={ X with xe:=E }
abbrev Cx.nox(X:Cx):Cx:=X.wish `KZ
def Cx.Ok.wish(ok:X.Ok)(E:`aK):`aPC:=(
 `aPD)
def Cx.Ok.unwish(ok:`aPC):X.Ok:=(
 `aPD)
section
variable{σ:St}{s:`v}
def Inv.wish(I:`B)(E:`aK):`aPE:=((`akC (I.ok.wish E) `r6))
def Inv.unwish(I:`aPE):`B:=((`akC I.ok.unwish `r6))
def SP.unwish{D:Ends}{f:Flow}(h:SP (X.wish E) `z D f s'):`aPF:=by
 skip;cases f with
 | next=>apply `akY;done;apply `akZ
 | brk=>apply `akY;done;apply `akZ
 | cont=>apply `akY;done;apply `akZ
 | ret u=>let#[v,σ',H',I,r,q]:=h;done;exact#[v,σ',H',`aKa,r,q]
def PSs.nox{st:`d8}{t:TS}(h:PSs X.nox st t):PSs X st t:=(λpins s σ H D I hw=>
 E7 (h `z s σ H D (I.wish _) hw) (λ_ _ q=>q.unwish) λ_ _ z=>`fM z)
omit z
section
variable{st:`a0}{t u:TS}
def xw1:TS:=`iw `afp
def vf1(t u:TS):TS:=`iw (t `aPG σ H)
def Y00:PSs X [] xw1:=(λ_ _ σ H _ I h=>C60 `aPH)
def uw0(h1:PS X st t)(h2:PSs X `bG u):PSs X (st::`bG) (vf1 t u):=by
 apply `iB;refine wpAny_execs_cons (thn (`di h1 `aPG h) λf s1 q=>?_);cases f with
 | next=>
  let#[σ',H',I',q]:=q;exact h2 `z s1 σ' H' D I' q
 | ret v=>exact q
 | brk=>exact q
 | cont=>exact q
def Inv.quiet{σ:St}{s:`v}(I:`B):`aPI `N=`q:=by simp[`aPI,`jM]
def we1(te:TE):TS:=`ak_ λ_ H1=>`aPJ
def Yk0(he:`eS)(hs:`aPK):PS X (.Expr e pos) (we1 te):=by
 apply `iB;exact wpAny_Expr_any (`ak0 `hs #[σ,H1,I1,q1]) I.quiet hs
def vl1(te:TE):TS:=`ak_ D.rt
def i00(he:`eS):PS X `abh (vl1 te):=by
 apply `iB;exact wpAny_Return_some (`ak0 `hs #[x,σ,H1,I1,r1,q1])
def u41(c:TT)(t u:TS):TS:=`iw (c σ H λb H1=>`D (b=`d) (t D σ H1) (u D σ H1))
def Nf0{c:`G}{a b:`d8}{tc:TT}(hc:PT X c tc)(ha:PSs X a t)(hb:PSs X b u):PS X (.If c a b pos) (u41 tc t u):=by
 apply `iB;refine wpAny_If (thn `aPt λd s1 hq10=>?_);let#[H1,I1,q1]:=hq10;cases d with
 | true=>exact `lx ha D
 | false=>exact `lx hb D
def Ag0:TS:=`xw
def ms0{sts:`d8}:PSs X sts Ag0:=(λ_ _ _ _ _ _ h=>`rR)
omit z
abbrev TG:=V->`aPL
abbrev TGs:=`P->`aPL
def PG(X:Cx)(target:`G)(t:TG):Prop:=
 ∀(pins:`aN) (s:`v) (σ:St) (H:Hp) (v:V) (u:`A) (Q:`lf),`B->`gG->`aPM ->
  `dt (`ie `RN `N u) `aPN
def PGs(X:Cx)(ts:`d3)(t:TGs):Prop:=
 ∀(pins:`aN) (s:`v) (σ:St) (H:Hp) (vs:`P) (us:`am) (Q:`lf),`B->`pY->t vs σ H Q ->
  `dt (assignInOrder (`jz (`mY ts `N)) us) `aPN
abbrev H50:=`aPO
def y51(X:Cx)(t:H50):Prop:=
 ∀(pins:`aN) (s:`v) (σ:St) (H:Hp) (o i v:V) (ov iv u:`A) (Q:`ke),`B->`dw o ov->`dw i iv->`gG->t o i v H Q ->
  `dt (`O' ov iv u) (λ_ s'=>∃H',`p6/\Q H')
abbrev TIp:=`yw
def PIp(X:Cx)(op:`yx)(t:TIp):Prop:=
 ∀(pins:`aN) (s:`v) (σ:St) (H:Hp) (x y:V) (v u:`A) (Q:VK),`B->`jP->`eR->t x y H Q ->
  `dt (`ak1 op v u) `f7
def Gl0(i:Nat):TG:=`GF (Q `Ee H)
def m20(hN:`fp)(hi:`mg)(hx:`vF)(hf:`lL):PG X `nc (Gl0 i):=by
 apply `aPP;exact `aPQ (b90 I hN hi hx r (λs' I'=>#[_,H,I',h]) hf)
def vh1:TGs:=λvs σ H Q=>vs=[]/\Q σ H
def w91(t:TG)(u:TGs):TGs:=λvs σ H Q=>∃v r,vs=v::r/\t v σ H fun σ' H'=>u r σ' H' Q
def Qw0:PGs X [] vh1:=by
 apply `p8;let#[e,h]:=h;subst e;cases r;exact assignInOrder_nil `aPH
def kq0{t:TG}{u:TGs}(h1:PG X e t)(h2:PGs X es u)
  (hs:`acS `gl (`ie e `N::`jz `ak2)):PGs X `gl (w91 t u):=by
 apply `p8;let#[v,vr,e1,h]:=h;subst e1;cases r with
 | cons r rr=>
  rw[hs];refine assignInOrder_cons (thn (h1 `z s σ H _ _ _ I r h) λ_ s1 hq11=>?_);let#[σ1,H1,I1,q1]:=hq11;exact h2 `z s1 σ1 H1 _ _ Q I1 rr q1
def vu1(K:`C)(n:Nat)(t:TGs):TG:=`GF (`pp `lM (`aB=n/\t xs σ H Q))
def K70{k:Nat}{t:TGs}{n:Nat}(hc:`dV)(h:PGs X es t)
  (hn:`H ((`o `ak2)=n) Aa) (hst:`ak3 `ak2):PG X (`lB es k pos) (vu1 X.K n t):=by
 intro pins s σ H v u Q I r hw;skip;let#[a,xs,e1,hq,hl,hw]:=hw;subst e1;cases r;let#[its,rv,ht,hz]:=`Mv;done;refine assign_Tuple_tuple `lN ht (by simp[hn,← hl,`p9]) hst λh' hx=>?_
 have I1:`act:=`GG (t':=`b?) λb o e=>hx b o `SL e
 exact h `z _ σ H xs _ Q I1 (`aPR) hw
def vy1(to ti:TE)(t:H50):TG:=`GF (to σ H λo H1=>ti σ H1 λi H2=>t o i v H2 λH3=>Q σ H3)
def Bm0{i:`G}{to ti:TE}{t:H50}(ho:`ak4)(hi:PE X i ti)(hs:y51 X t)
  (ha:`H (∀v,`ie `ak5 `N v=(do
   let ov ← `mM [v] `aaO
   let iv ← `mM [v,ov] (`cs i `N)
   `Mt pos
   `aPS
   `aPT)) Ad):PG X `ak5 (vy1 to ti t):=by
 apply `aPP;rw[ha];refine A1 (D3 (thn `EG λov s1 hq12=>?_));apply `fk hq12;refine A1 (D3 (thn `aPU λiv s2 hq13=>?_));let#[y,H2,I2,r2,q2]:=hq13;refine `yy C70 (D3 (thn (hs `z s2 σ H2 x y v ov iv u _ I2 r1 r2 r q2) λ_ s3 hq14=>?_));let#[H3,I3,q3]:=hq14;exact wpAny_release #[σ,H3,I3,q3]
def Ap0(te:TE)(g:TG):TS:=`ak_ λx H1=>g x σ H1 `jj
def Tg0{g:TG}(he:`eS)(hg:PG X tg g)(hs:`ak6)(hw:`ak7)
  (h1:`ak8):PS X `ak9 (Ap0 te g):=by
 apply `iB;refine wpAny_Assign_stores (thn `hs λv s1 hq15=>?_) hs hw;apply `fk hq15;rw[h1];exact thn (hg `z s1 σ H1 x v _ I1 r1 q1) λ_ s2 q=>q
def St0(hN:`fp)(hi:`mg)(hx:`vF)(he:`eS)(hs:`su e (`c (`SM)))(hf:`lL):
  PS X (`nj [`SM] e pos) (Ap0 te (Gl0 i)):=by
 apply `iB;refine wpAny_Assign_Name (thn `hs λv s1 hq16=>?_) hs;let#[y,H1,I1,r1,q1]:=hq16;exact b90 I1 hN hi hx r1 (λs2 I2=>#[_,H1,I2,q1]) hf
def ua1(i:Nat)(te:TE)(ti:TIp):TS:=`iw (∃x,`Bv=`c (`c4)/\te σ H λy H1=>ti x y H1 λz H2=>`jj (`B9 i (`SN)) H2)
def yt1{op:`yx}{ti:TIp}{pos':Pos}(hN:`fp)(hi:`mg)(hx:`vF)(he:`eS)(ho:PIp X op ti)(hf:`lL):
  PS X (`SO (`SM) op e pos) (ua1 i te ti):=by
 apply `iB;skip;let#[v,e1,h]:=h;apply `aks;have M:`KH:=by rcases hx with k|k;exact `Gk;exact `u (`Gk)
 let#[u,r,l]:=hl i x v hi e1 M;done;refine wpAny_AugAssign_Name ?_;skip;have go:`dt `FU (λw s₂=>`aP `eD X.A (`ak1 op u w) (λr s₃=>`aP `eD X.A (`aFo `N x r) (λ_=>SP X `z D `Pn) `iQ s₃) `iQ s₂):=by
  refine thn `hs λw s1 hq17=>?_;let#[y,H1,I1,r1,q1]:=hq17
  refine thn (ho `z s1 σ H1 v y u w _ I1 r r1 q1) λz s2 hq18=>?_;let#[zv,H2,I2,r2,q2]:=hq18
  exact b90 I2 hN hi hx r2 (λs3 I3=>#[_,H2,I3,q2]) hf
 apply `aO'
 ·done;exact x6 `jM hk hn hm go
 ·rcases hk with hk|hk
  ·done;exact `aO! `jM hk hc J go
  ·rcases hx with k|k
   ·have:`uV=`jv:=hk
    apply `ay k;cases `w
   ·have:`uV=`jv:=hk
    apply `ay k;cases `w
def ipI(f:`ak'):TIp:=`c? (`ak! (`h (f i j)))
def yl1:PIp X .Add (ipI λi j=>i+j):=by
 intro pins s σ H x y v u Q I r1 r2 h;skip;let#[i,j,e1,e2,q]:=h;subst e1;subst e2;apply `ak?;let#[t',rfl]:=r2;done;exact iadd_int `aPV
def Az0(c:TT)(tb:TS):TS:=λD σ H=>∃W:`aFx,(∃m,W m σ H)/\∀m σ H,W m σ H ->
 c σ H λb H1=>if b=`d then ∃N:`lf,(∀σ' H',N σ' H'->∃m',m'<m/\W m' σ' H')/\tb `aPW σ H1 else `aPJ
def Ht0{c:`G}{body:`d8}{tc:TT}{tb:TS}(hp:`GH)(hc:PT X c tc)(hb:`aPX):PS X `aPY (Az0 tc tb):=by
 apply `iB;let#[W,#[m0,w0],J]:=h;refine wpAny_While (codeAny_whileLoop (λn s'=>`F6 (W n σ' H')) ?_ m0 #[σ,H,I,w0]);rintro n s1 ⟨σ1,H1,I1,w1⟩;refine `tR (hc `z s1 σ1 H1 _ I1 (J n σ1 H1 w1)) λb s2 hq19=>?_;let#[H2,I2,q2]:=hq19;cases b with
 | true=>
  let#[N,hN,q2]:=q2;rw[`a4];refine `tR (`aiq hb σ1) λf s3 q3=>?_;skip;cases f with
  | next=>
   let#[σ3,H3,I3,n3]:=q3;let#[m',hm,w3]:=hN σ3 H3 n3;done;exact`aPZ
  | cont=>
   let#[σ3,H3,I3,n3]:=q3;let#[m',hm,w3]:=hN σ3 H3 n3;done;exact`aPZ
  | brk=>done;exact q3
  | ret v=>done;exact q3
 | false=>
  rw[`p'];exact C60 #[σ1,H2,I2,q2]
structure It where
 go:`aP_
 yld:Nat->Hp->`akI
 stop:`aP_
def m10(X:Cx)(pins:`aN)(H:Hp)(b:`f):Prop:=
 `dp/\`wq/\`So/\`aCV/\`aCW
def Inv.fpOk{σ:St}{s:`v}{b:`f}(I:`B)(hb:`L<=b)(hn:`w4):`ala:=by
 refine#[hn,`GI I.lt,I.nofs hb,`u (C3 I.sz hb),`aP0,`aP1]
 ·let#[v,q]:=`aeB
  exact `p3 q.lt `aP2
 ·exact `p3 (B6 (`acQ).1) `aP2
structure Turn(P:`av)(w:`T)(K:`C)(tg:`G)(J:It)(fp:`aw)(it:`f)(tn:`alb):Prop where
 mem:it∈fp
 obj:∀i h,tn i h->∀b∈fp,∃o,`mW/\`aP3
 keep:∀i h h',tn i h->(∀b∈fp,∀o,`af_)->tn i h'
 item:∀(X:Cx),`dT=P->X.w=w->X.K=K->`dV->∀(i:Nat) (pins:`aN) (s:`v) (σ:St) (H:Hp) (E:`aK),`B->`aP4->`alc->`ald ->
  `aP `s4 X.A `aP5 (λr s1=>∃u,r=`bS /\
   `aP `s4 X.A `ale (λ_ s2=>∃x H',`alf/\`ip/\`alg/\tn `dn `aeI/\∀b∈fp,`w4) E s1) E s
 done:∀(X:Cx),`dT=P->X.w=w->X.K=K->`dV->∀(i:Nat) (pins:`aN) (s:`v) (σ:St) (H:Hp) (E:`aK),`B->`aP4->`alc->`alh ->
  `aP `s4 X.A `aP5 (λr s1=>r=`g/\`aW H s1) E s
 self:∀(A:`aq) (i:Nat) (s:`v) (Q:`aK) (E:`aK),`alc->Q `w6 s->`nb `s4 (`SP `w6)
abbrev TI:=`Eh `SQ
def PIE(X:Cx)(pins:`aN)(σ:St)(tg:`G)(R:`SQ)(itv:`A)(s2:`v):Prop:=
 ∃(it:`f) (fp:`aw) (tn:`alb) (J:It) (H':Hp),itv=`aaR/\`alf/\`aP6/\`aP7/\(∀b∈fp,`ala)/\R J H'
def PI(X:Cx)(tg iter:`G)(wi:TI):Prop:=
 ∀(pins:`aN) (s:`v) (σ:St) (H:Hp) (R:`SQ),`B->wi σ H R ->
  `dt (`cs `j? `N) (λv s1=>`p! (`SP v) `aP8 s1)
def Vf0{M:Model}{A:`aq}{E:`aK}{s:`v}{tg:`G}{u:`A}{o:Obj}{n:`da}{vs:`aO}{Q:`p4}(ho:`fO it=`aF)(hc:`rv=`cR n)(hd:`sf=`Er)
  (hn:`aP9=`q) (hQ:Q () s):`nb M `ale:=by
 delta letOwnedTupleGo;cases tg<;>first
  | exact A5 hQ
  | (cases u<;>first
    | exact A5 hQ
    | (apply `gN `aP' ho
       rw[hc,hd];show `nb M (`D ((`aP9&&vs[0]?==`c (`px _))=`d) _ _);rw[`ap (by intro h;rw[hn,Bool.false_and] at h;cases h)];exact A5 hQ))
def Itl(K:`C)(a:`f):It:=
 #[`aP!,`ali `aP?,`aQa]
def Itt(K:`C)(a:`f):It:=
 #[λi H=>∃xs x,`lM/\`pj,`ali (∀xs,`lM->`pj),λi H=>∃xs,`lM/\`aeJ]
def Itr(lo:Int)(n:Nat):It:=#[λi _=>i<n,`ali (x=`alj),λi _=>n<=i]
theorem Lm0{P:`av}{w:`T}(a it:`f):`SR (Itl K a) `aQb where
 mem:=`a_
 obj:=λi h st b hb=>by
  apply `Gv
  subst e;apply `alk;apply `all
 keep:=`aQc
 item:=by
  apply `lO;skip;apply `lP;apply `alm;apply `aQd;apply `aln;apply `p?;done;refine k10 st `SS (x:=u) `alo `aQe
  apply `aQf;apply `alp;exact`aQg `aQh
 done:=by
  apply `lO;skip;apply `lP;let#[xs,hq,hx]:=hg;apply `aQd;apply `p?;have hl:=`p9;done;exact `aQi `lN st `SS `m3 `GJ
 self:=`alq wpAny_pyIter_listiter
theorem N90{P:`av}{w:`T}(a it:`f):`SR (Itt K a) (h.IsTupleIter it a i) where
 mem:=`a_
 obj:=λi h st b hb=>by
  apply `Gv
  subst e;apply `alk;apply `all
 keep:=`aQc
 item:=by
  apply `lO;skip;apply `lP;apply `alm;apply `aQj;apply `aln;apply `p?;done;refine l10 st `aQk (x:=u) `alo `aQe
  apply `aQf;apply `alp;exact`aQg λys hy=>`k (`aQl hy hq) hx
 done:=by
  apply `lO;skip;apply `lP;let#[xs,hq,hx]:=hg;apply `aQj;apply `p?;have hl:=`p9;done;exact n10 `lN st `aQk `m3 `GJ
 self:=`alq wpAny_pyIter_tupleiter
theorem Oe0{P:`av}{w:`T}(it:`f)(lo:Int)(n:Nat):`SR (Itr lo n) (`aQm h it (lo+(i:Nat)*1) (`bm - (i:Nat)) 1) where
 mem:=`a_
 obj:=λi h st b hb=>by
  apply `Gv
  subst e;exact#[_,st,λv z=>by
   have z':`aQn _=Data.cell v:=z;cases z']
 keep:=λi h h' st k=>k it `az _ st
 item:=by
  apply `lO;skip;apply `lP;apply `p?;have W:=Walks.range (prog:=`dT) (w:=X.w) `lN it lo 1 n;done;refine W.item i s _ _ hg st λv h' tk hv J kk=>?_
  let#[t,rfl]:=hv;have I1:`aQo:=`adW (`kB (kk b o (`vB) e)) f0 f1 f3 f4 f5;refine`qa (Vf0 (s:=`jt) (n:= "range_iterator") J rfl rfl `E #[`alj,H,I1,#[t,?_],`iz,J,`aeM]);rw[Int.mul_one]
 done:=by
  apply `lO;skip;apply `lP;apply `p?;done;exact wpAny_pyNext_range_end `lN st (by have:n<=i:=hg;lia) `GJ
 self:=`alq wpAny_pyIter_rangeiter
def w81(K:`C)(tl:TE):TI:=`aQp `aQq Itl
def u81(K:`C)(tl:TE):TI:=`aQp (∃xs,SqT K H1 a xs) Itt
def Ql0{l:`G}{tl:TE}(hl:PE X l tl):PI X tg l (w81 X.K tl):=by
 apply `yz;refine thn `aQr λv s1 hq20=>?_;skip;apply `fk hq20
 apply `aQs;subst e;cases r1;let#[its,rv,p,hz]:=`alr;done;refine x8 `SS ?_;refine`aQt Lm0;have e:b=`mZ:=`vB
 subst e;apply `GK
def zd1{l:`G}{tl:TE}(hl:PE X l tl):PI X tg l (u81 X.K tl):=by
 apply `yz;refine thn `aQr λv s1 hq21=>?_;skip;apply `fk hq21
 apply `aQs;subst e;cases r1;let#[its,rv,p,hz]:=`als hq;done;refine `aQu (show s1.heap.IsTuple a `bj from p) ?_;refine`aQt N90;have e:b=`mZ:=`vB
 subst e;apply `GK
def Vz0{σ:St}{s:`v}{R:`SQ}{E:`aK}{lo hi:Int}{t u v:Tok}{tk:Nat}(I:`B)(h1:`k7<=lo)(h2:lo<`e_)(h3:`k7<=hi)(h4:hi<`e_)
  (q:R (Itr lo `w8) H):`aP `eD X.A (`SP `f2) `aP8 E `aQv:=by
 refine wpAny_pyIter_range (IsRange.new ..) (small_one h1 h2 h3 h4) ?_;have I1:`aW H `aQv:=`GG `xt
 refine#[`alt,[`alt],_,_,H,rfl,
  `EX (t':=tk) `xt,Oe0 _ lo `w8,?_,`ju,q]
 ·have e1:lo+`vA*1=lo:=`a_
  have e2:`aQw=Builtin.Range.rangeSize lo hi 1:=by rw[rangeSize_one];split<;>lia
  show `aQm _ _ (lo+`vA*1) (`aQw) 1;rw[e1,e2];exact `e7
 ·have e:b=`alt:=`vB
  subst e;apply `GK
def x01(ta:TA):TI:=`GL ta λvs H1=>∃j:Int,vs=[`gw]/\`k7<=j/\j<`e_/\R (Itr 0 `kW) H1
def w51(ta:TA):TI:=`GL ta λvs H1=>∃i j:Int,vs=`aQx/\(`k7<=i/\i<`e_/\`alu)/\R (Itr i (j - i).toNat) H1
def J20{a:`G}{ta:TA}{p:Pos}(hg:`afq)(hm:`ST)(ha:`aQy)(hs:`SU):PI X tg `aQz (x01 ta):=by
 apply `yz;refine `aQA `aQB λus s1 hq22=>?_;skip;apply `SV hq22;let#[j,e,q1,q2,q]:=q1;subst e;cases r1 with
 | cons r rr=>
  cases rr;apply `iA;done;exact call_range_1 (Vz0 I1 `l `l q1 q2 (`SW))
def My0{a:`G}{ta:TA}{p pos:Pos}(hg:`afq)(hm:`ST)(ha:PA X `mO ta)(hs:`aQC)(hs2:`aQD):
  PI X tg `aQE (w51 ta):=by
 apply `yz;refine Call_ (q40 I hg hm `aQB (L9 (thn `O? λus s1 hq23=>?_) (by rw[hs,hs2]) (`ax hs2)));skip;apply `SV hq23;let#[i,j,e,#[q1,q2,q3,q4],q]:=q1;subst e;cases r1 with
 | cons r rr=>
  cases rr with
  | cons r' rr=>
   cases rr;apply `iA;let#[t',rfl]:=r';done;exact call_range_2 (Vz0 I1 q1 q2 q3 q4 q)
def vx1(wi:TI)(g:TG)(tb:TS):TS:=λD σ H=>wi σ H λJ H1=>∃W:`aQF,(∃m,W 0 m σ H1)/\∀i m σ H,`aQG ->
 (`alh/\`afp)∨(`ald/\∃N:`lf,(∀σ' H',N σ' H'->`afa σ' H')/\∀x H',`alg->g x σ H' fun σ2 H2=>tb `aPW σ2 H2)
def es0(fp:`aw)(h:`aa):`aN:=fp.filterMap λb=>(`uW).map λo=>`Ei
def lk0{h:`aa}{b:`f}{o:Obj}(hb:b∈fp)(e:`mW):`Ei∈es0 fp h:=(d6.mpr #[b,hb,`alv])
def Ld0{h:`aa}{p:`az'}(hp:p∈es0 fp h):p.1∈fp/\`mk p.1=`w2:=by
 let#[b,hb,e]:=d6.mp hp;cases q:`uW with
 | none=>rw[q] at e;cases e
 | some o=>
  rw[q] at e;have e':`Ei=p:=B4 e;subst e';exact#[hb,q]
def Inv.pinned{σ:St}{s:`v}(I:`B)(hf:∀b∈fp,`O!)(ho:∀b∈fp,∃o,`gv/\`aP3):Inv X (`z++es0 fp `aY) σ H s:=(
 I.pins_of λp hp=>`aOT (λz=>`r6 p (D4 _ z)) λz=>by
  skip;let#[hb,e]:=Ld0 z;let#[f0,f1,f2,_]:=hf p.1 hb;let#[o,e',d]:=ho p.1 hb;rw[e] at e';cases e';done;exact#[e,f0,f1,f2,d])
def Inv.unpinned{pl:`aN}{σ:St}{s:`v}(I:Inv X (`z++pl) σ H s):`B:=(I.pins_of λp hp=>`r6 p (D4 _ (D1 _ hp)))
def Lj0{body:`d8}{wi:TI}{g:TG}{tb:TS}{pos:Pos}(hp:`GH)(hc:`dV)(hi:`alw)(hg:PG X tg g)(hb:`aPX)
  (hs:`f8):PS X `alx (vx1 wi g tb):=by
 apply `iB;refine wpAny_For (`SH `GM λa5 s2 h2=>?_) hs;skip;let#[it,fp,tn,J,H2,e,I2,T,a3,f2,W,#[m0,w0],a1]:=h2;subst e;have M:`aQH `ala:=λhn b hb=>#[hn b hb,(`m_).2]
 done;refine codeAny_forLoop_any (λn s'=>∃i σ' H',`aba/\`aQI/\`SX n σ') ?_ m0 #[0,σ,H2,I2,a3,λb hb=>(`m_).1,w0];rintro n s3 ⟨i,σ3,H3,I3,Y,Z,w3⟩;skip;rcases a1 i n σ3 H3 w3 with⟨stop,qn⟩|⟨go,N,hN,step⟩
 ·done;refine `tR (T.done X rfl rfl rfl hc i `z s3 σ3 H3 `iQ I3 (M Z) Y stop) λr s4 hq24=>?_;let#[hr,I4]:=hq24
  subst hr;exact C60 #[σ3,H3,I4,qn]
 ·done;refine `tR (T.item X rfl rfl rfl hc i `z s3 σ3 H3 `iQ I3 (M Z) Y go) λr s4 hq25=>?_;let#[u,hr,h4]:=hq25
  subst hr;refine `tR h4 λ_ s5 hq26=>?_;skip;let#[x,H5,I5,r5,y5,O,a2]:=hq26;have a4:=I5.pinned (M a2) (`FW _ _ O);done;refine `tR (hg _ s5 σ3 H5 x u _ a4 r5 (step x H5 y5)) λ_ s6 hq27=>?_;let#[σ6,H6,I6,q6]:=hq27;refine `tR (hb _ s6 σ6 H6 _ I6 q6) λf s7 q7=>?_;skip;have again:∀{σ7:St} {H7:Hp},Inv X (`z++es0 fp s5.heap) σ7 H7 s7->N σ7 H7->∃m,m<n/\∃i σ' H',Inv X `z σ' H' s7/\tn i s7.heap/\`SX m σ':=λ{σ7 H7} I7 n7=>by
   let#[m',hm,w7]:=hN σ7 H7 n7;refine#[m',hm,i+1,σ7,H7,`aly,`alz O (`aQJ).1,`ju,w7];let#[o,e,d]:=`FW _ _ O b hb;exact(`aQJ).2.1
  cases f with
  | next=>let#[σ7,H7,I7,n7]:=q7;done;exact `aQK
  | cont=>let#[σ7,H7,I7,n7]:=q7;done;exact `aQK
  | brk=>let#[σ7,H7,I7,q7]:=q7;done;exact#[σ7,H7,`aly,q7]
  | ret v=>let#[x7,σ7,H7,I7,r7,q7]:=q7;done;exact#[x7,σ7,H7,`aly,r7,q7]
abbrev R2:=`yw
def OpR(X:Cx)(f:`yA)(r:R2):Prop:=
 ∀(pins:`aN) (s:`v) (σ:St) (H:Hp) (x y:V) (v u:`A) (Q:VK),`B->`jP->`eR->`RM ->
  `dt `alA `f7
def UnR(X:Cx)(f:`aaW)(r:`BX):Prop:=
 ∀(pins:`aN) (s:`v) (σ:St) (H:Hp) (x:V) (v:`A) (Q:VK),`B->`jP->r x H Q ->
  `dt (f v) `f7
def CallR(X:Cx)(f:`A)(r:`i0):Prop:=
 ∀(pins:`aN) (s:`v) (σ:St) (H:Hp) (xs:`P) (us:`am) (Q:VK),`B->`eq->`SY ->
  `El f us
def tOp(r:R2)(ta tb:TE):TE:=`db ta (`yB tb λy H2=>r x y H2 Q)
def tUn(r:`BX)(ta:TE):TE:=`tS ta (r x H1 Q)
def rI(C:`alB)(g:`SZ):R2:=`c? (∃i j,`NA/\`aC5/\C i j/\Q `pg H)
def rI0(g:`SZ):R2:=`c? (`ak! `pg)
def rU(g:Int->V):`BX:=λx H Q=>∃i,`NA/\Q (g i) H
section
variable{a c:`G}{tc:TE}
def Hv0(ha:`jO)(hb:`tQ){s:`v}{σ:St}{R:V->`akI}(I:`B)
  (h:ta σ H (`yB tb λy H2=>R x y H2)) {Q:`aK} {f:`yA}
  (hf:∀v u s2 x y H2,`aQL->`jP->`eR->R x y H2->`p! `alA Q s2):
  `aPf `alA Q:=by
 refine thn `KY λv s1 hq28=>?_;apply `fk hq28
 refine thn `aFD λu s2 hq29=>?_;let#[y,H2,I2,r2,q2]:=hq29
 exact hf v u s2 x y H2 I2 r1 r2 q2
def Gf0{op:`yx}{r:R2}(ho:`aQM)(ha:`jO)(hb:`tQ):PE X `aQN `S_:=by
 apply `a';exact wpAny_BinOp `aQO
def wv1{op:UnaryOp}{r:`BX}(ho:UnR X (unaryOp op) r)(ha:`jO):PE X (`abe op a pos) (tUn r ta):=by
 apply `a';exact UnaryOp_ (`ak0 `KY (ho `z s1 σ H1 x v Q I1 r1 q1))
def opI{f:`yA}{C:`alB}{g:`ak'}
  (rule:`alC (C i j->`aQP)):
  OpR X f (rI C `aQQ):=by
 apply `ew;skip;let#[i,j,rfl,rfl,hc,q]:=h;apply `cz;apply `cM;done;exact rule i j t t' s _ _ hc `aQR
def zp1{f:`yA}{g:`ak'}
  (rule:`alC `aQP):
  `S0 f `aQQ:=by
 apply `ew;skip;let#[i,j,rfl,rfl,q]:=h;apply `cz;apply `cM;done;exact rule i j t t' s _ _ `aQR
def No0{f:`yA}{g:Int->Int->`aj}
  (rule:`alC (Q (`gA `pg) s->`aFz)):
  `S0 f λi j=>.bl `pg:=by
 apply `ew;skip;let#[i,j,rfl,rfl,q]:=h;apply `cz;apply `cM;done;exact rule i j t t' s _ _ (`lH (.bl `pg) q)
def I30(i j:Int):Prop:=`S1
def CMul(i j:Int):Prop:=`aQS
def CMul.ok{i j:Int}(h:CMul i j):IntMulOk i j:=by
 rcases h with⟨h1,h2⟩|⟨h1,h2⟩
 ·exact .of_left `aQT
 ·exact .of_right `aQT
def zn1:`S0 `GN `aQU:=(`yC zp1 add_int)
def Aa0:`S0 (`ox .Sub) `aQV:=(`yC zp1 sub_int)
def Bv0:OpR X `S2 (rI CMul `aQW):=(opI λ_ _ _ _ _ _ _ hc q=>mul_int q hc.ok)
def Cy0:OpR X (`ox .FloorDiv) (rI I30 `aQX):=(opI λi j _ _ _ _ _ hc q=>by
 have h1:`f5<j:=hc.1;have h2:`aBB:=hc.2;exact floordiv_int `cK (`k (Int.fdiv_eq_ediv_of_nonneg i `cK) q) (`n (PyProof.noPylong_small `cK)))
def Aj0:OpR X (`ox .Mod) (rI (`aQY) `aQZ):=(opI λi j _ _ _ _ _ hc q=>by
 have h1:`f5<j:=hc;exact mod_int' `l (`k (Int.fmod_eq_emod_of_nonneg i `l) q))
def unI{f:`aaW}{g:`aC4}
  (rule:∀(i:Int) (t:Tok) (s:`v) (Q:`aK) (E:`aK),Q (`h (g i) `b?) `sR->`OI (f `wW) Q):
  UnR X f (rU λi=>`aQ_):=by
 intro pins s σ H x v Q I rx h;let#[i,rfl,q]:=h;apply `cz;exact rule i t s _ _ (`pi `aQ_)
def z81:UnR X (unaryOp .USub) (rU λi=>`h (-i)):=(unI λ_ _ _ _ _ q=>neg_int q)
omit z
def H20:V->V->`aj
 | `y,`y=>`d|`y,`cZ=>`d|`cZ,`y=>`d|`y,`cL=>`d|`cL,`y=>`d|`y,`co=>`d|`co,`y=>`d
 | `cZ,`cZ=>`d|`cL,`cL=>`d|`co,`co=>`d|.byt _,.byt _=>`d
 | `cZ,`co=>`d|`co,`cZ=>`d|`cL,`co=>`d|`co,`cL=>`d
 | _,_=>`q
def rEq:R2:=`c? (`alD/\`GO (`GP))
def rNe:R2:=`c? (`alD/\`GO (!`GP))
def Qn0{i j:Int}:`alE V.int V.int:=by
 rw[`ny];simp
def La0{i j:`aj}:`alE V.bl V.bl:=by
 rw[`ny];simp
def Q50{i j:Str}:`alE `o_ `o_:=by
 rw[`ny];simp
def P90{i j:`aNL}:`an (V.byt i=V.byt j)=(i.toList==j.toList):=by
 rw[`ny];cases i;cases j;simp
section
variable{a c:`G}{tc:TE}
def wg0{σ:St}{s:`v}{Q:VK}{k k':`aj}(I:`B)(q:Q (.bl k) H)(e:k=k'):`po (`gA k') s:=by
 subst e;exact#[.bl k,H,I,rfl,q]
def b8:`h1 .Eq rEq:=by
 apply `ew;let#[hs,q]:=h;cases x with
 | non=>
  cases rx;cases y with
  | non=>cases ry;exact PySem.EqNone.eq_none_none `dc
  | bl j=>cases ry;exact PySem.EqNone.eq_none_bool `dc
  | int j=>apply `cM;exact PySem.EqNone.eq_none_int `dc
  | str j=>apply `cM;exact PySem.EqNone.eq_none_str `dc
  | _=>exact `iC
 | bl i=>
  cases rx;cases y with
  | non=>cases ry;exact PySem.EqNone.eq_bool_none `dc
  | bl j=>cases ry;exact eq_bool (wg0 I q La0)
  | str j=>apply `cM;exact PySem.EqMixed.eq_bool_str `dc
  | _=>exact `iC
 | int i=>
  apply `cz;cases y with
  | non=>cases ry;exact PySem.EqNone.eq_int_none `dc
  | int j=>apply `cM;exact eq_int (wg0 I q Qn0)
  | str j=>apply `cM;exact PySem.EqMixed.eq_int_str `dc
  | _=>exact `iC
 | str i=>
  apply `cz;cases y with
  | non=>cases ry;exact PySem.EqNone.eq_str_none `dc
  | bl j=>cases ry;exact PySem.EqMixed.eq_str_bool `dc
  | int j=>apply `cM;exact PySem.EqMixed.eq_str_int `dc
  | str j=>apply `cM;exact eq_str (wg0 I q Q50)
  | _=>exact `iC
 | byt i=>
  apply `cz;cases y with
  | byt j=>apply `cM;exact W.eq_bytes (wg0 I q P90)
  | _=>exact `iC
 | _=>cases y<;>exact `iC
def yq0:OpR X `alF rNe:=by
 apply `ew;let#[hs,q]:=h;cases x with
 | non=>
  cases rx;cases y with
  | non=>cases ry;exact PySem.EqNone.ne_none_none `dc
  | bl j=>cases ry;exact PySem.EqNone.ne_none_bool `dc
  | int j=>apply `cM;exact PySem.EqNone.ne_none_int `dc
  | str j=>apply `cM;exact PySem.EqNone.ne_none_str `dc
  | _=>exact `iC
 | bl i=>
  cases rx;cases y with
  | non=>cases ry;exact PySem.EqNone.ne_bool_none `dc
  | bl j=>cases ry;exact `S3 ne_bool La0
  | str j=>apply `cM;exact PySem.EqMixed.ne_bool_str `dc
  | _=>exact `iC
 | int i=>
  apply `cz;cases y with
  | non=>cases ry;exact PySem.EqNone.ne_int_none `dc
  | int j=>apply `cM;exact `S3 ne_int Qn0
  | str j=>apply `cM;exact PySem.EqMixed.ne_int_str `dc
  | _=>exact `iC
 | str i=>
  apply `cz;cases y with
  | non=>cases ry;exact PySem.EqNone.ne_str_none `dc
  | bl j=>cases ry;exact PySem.EqMixed.ne_str_bool `dc
  | int j=>apply `cM;exact PySem.EqMixed.ne_str_int `dc
  | str j=>apply `cM;exact `S3 ne_str Q50
  | _=>exact `iC
 | byt i=>
  apply `cz;cases y with
  | byt j=>apply `cM;exact `S3 W.ne_bytes P90
  | _=>exact `iC
 | _=>cases y<;>exact `iC
def Z6:`h1 .Lt (rI0 `alG):=(`yC No0 lt_int)
def o9:`h1 .LtE (rI0 `alH):=(`yC No0 le_int)
def yl0:`h1 .Gt (rI0 `alI):=(`yC No0 gt_int)
def yn0:`h1 .GtE (rI0 `alJ):=(`yC No0 ge_int)
def zp0:`h1 .Is `aQ0:=by
 apply `ew;let#[rfl,q]:=h;cases ry;refine is_none_gen (wg0 I q ?_);cases x<;>first
  | (cases rx;rfl)
  | (apply `cz;rfl)
def OpR.or{f:`yA}{r r':R2}(h:OpR X f r)(h':OpR X f r'):OpR X f `aQ1:=by
 intro pins s σ H x y v u Q I rx ry q;apply `S4
 ·exact `aQ2 h
 ·exact `aQ2 h'
def Sr0(b:`G){op:`jN}(h:`H (op≠.In) Ab)(h2:`H (op≠`xo) Ab):`Do:=by
 have e1:(op==CmpOp.In)=`q:=`aQ3 `alK
 have e2:(op==CmpOp.NotIn)=`q:=`aQ3 (`K rfl h2)
 cases b<;>simp[`LA,e1,e2]
def Cm0{op:`jN}{r:R2}(ho:`yD)(ha:`jO)(hb:`tQ)(hm:`Do):PE X `tP `S_:=by
 apply `a';exact `aPi `aQO hm
def w61(t:TE):TT:=`db t λx H'=>∃k,x=.bl k/\Q k H'
def Qb0{op:`jN}{r:R2}(ho:`yD)(ha:`jO)(hb:`tQ)(hm:`Do):PT X `tP (w61 `S_):=by
 apply `a';refine `aPk `aQ4 hm;apply `aQ5;refine `aQ6;apply `aQ7;refine thn `aQ8 λc s3 z9=>?_;skip;apply `aQ9
 subst e;cases r3;done;exact P5 #[H3,I3,q3]
def Ma0(r r':R2)(ta tb tc:TE):TE:=fun σ H Q=>ta σ H λx H1=>tb σ H1 λy H2=>r x y H2 λz H3=>∃k,z=.bl k /\
 (if k=`d then tc σ H3 λw' H4=>r' y w' H4 Q else Q `Bl H3)
def Iy0{op op':`jN}{r r':R2}(ho:`yD)(ho':`aQ')(ha:`jO)(hb:`tQ)(hc:PE X c tc)
  (hm:`aQ!):PE X `aQ? (Ma0 r r' ta tb tc):=by
 apply `a';refine Compare_chain `aQ4 hm;apply `aQ5;refine chain_link (`aQ6);apply `aQ7;refine thn `aQ8 λd s3 z9=>?_;skip;apply `aQ9
 subst e;cases r3;done;refine P5 ?_;cases k with
 | false=>exact ite_ff #[`aa3,H3,I3,rfl,q3]
 | true=>refine ite_tt (chain_last (thn (hc `z s3 σ H3 _ I3 q3) λw' s4 z9=>?_));let#[z',H4,I4,r4,q4]:=z9;exact ho' `z s4 σ H4 y z' u w' Q I4 r2 r4 q4
def k80:`aGR<`MI:=`akm `aRa
def Py0:OpR X `GN (`c? `aRb):=by
 apply `ew;skip;let#[i,j,rfl,rfl,hz,q]:=h;apply `cz;apply `cM;done;exact add_str (λt' tk=>(`pi `aFF)) hz
def vals1{x:V}(r:`aRc):`aRd:=by
 cases r with
 | cons r1 r2=>cases r2;exact#[_,rfl,r1]
def T8:`er X `aRe `aRf:=by
 apply `yE;skip;let#[x,rfl,hz,q]:=h;apply `aRg;done;exact ord_of_one hz `aPV
omit z
structure ObjM(h:`aa)(x dx C:`f)(mA:`cd):Prop where
 obj:`mk x=`aFc
 ns:`aew
 ne:dx≠x
open T in
def K50{h:`aa}(n:`aew):∃od,`mk dx=`c od/\`aRh:=by
 let#[o,es,ep,ho,hd,hk,_,hm]:=n;refine#[o,ho,λname=>?_];have e:=hm `fe;delta nsFind findBy at e;rw[← Array.find?_toList] at e;delta W.lookIn;rw[hd];dsimp only;split
 ·rename_i y q
  rw[q] at e;exact D9 `c e
 ·rename_i q
  rw[q] at e;have a:`aRi=`q:=by
   rw[List.any_eq_false];intro y hy;let#[z,t,J]:=hk y (Array.mem_toList_iff.mp hy);simp[DictEntry.refKey,J]
  have a':¬`aRi=`d:=`k a C0
  rw[`ap a'];exact D9 `c e
def ObjM.look{h:`aa}{x C:`f}(I:ObjM h x dx C mA):∃od,W.InstAt h x `aEF C (`c od)/\`aRh:=(
 let #[od,ho,hl]:=K50 I.ns
 #[od,(`rg I.obj ho),hl])
section
variable{w:`T}{A:`aq}{s:`v}{x C f:`f}{v:`A}
def get_map{expr:`aj}{Q:`aK}(X:`yF)(I:`alL)(hg:`aRj)(hh:`alM)
  (ha:`aRk=`cN) (hv:`aeR=`aX) (hv':`aRl v=`d) (h:Q v `sR):
  `dH (`alN `FV `fe expr):=by
 apply `alO;exact W.get_value X J `aRm (W.findObj_own hh ha rfl (by rw[hl,hv])) hv' h
def Ia0{pl:`yG}{Q:`aRn}(X:`yF)(I:`alL)(hg:`aRj)
  (hf:`aRk=`Ej) (ht:`GQ) (hv:`aeR=`g) (h:Q (`uM,[`ag x]) s):
  `dH (`abP `FV `fe pl):=by
 apply `alO;exact W.method_fn X J `aRm (C80 hg).2 hf (W1.mp ht) (by show (`aFG).map (·.isSome)=`br;rw[hl,hv];rfl) h
def Dw0{ns:`e}{Q:`p4}(X:`yF)(I:`alL)
  (hs:`aRo) (hp:`aRp) (ht:W.takerIn K C `fe=`cN) (hh:`alM)
  (hw:`aEG mA ns) (hsz:`aRq)
  (h:∀h',ObjM h' x dx C (λy=>`D (y=`fe) `aX (mA y))->`D6 dx->Q () (`fC h' (`b?+2))):
  `dH (setAttr `FV `fe v):=by
 apply `alO;refine W.set_plain X J hs (W.osa_open (s:=`sR) (r:=`g) X J hp ht λb=>?_);let#[cd,hc,Z]:=W.any_some hh;have hx:`fO x=`c #[`Bi,`GR,.plain,⟨⟩]:=I.obj;refine `yy A5 (A1 (wpAny_loadPart hx (A1 (W.Looks.here (s:=`sR) (W.looks_clsIn X hc) ?_))));rw[Z];refine A5 (a:=`GR) (A1 (A5 (`lQ)));refine wpAny_nsSet1 (s:=`sR) I.ns λh' M O=>?_
 let#[oD,a4,a3,Y,a1,a2]:=M.count (PySem.Within.cons `fe v hw);apply `jQ wpAny_lookBehind Y (`k a1 (pastItsLine_dict (C3 a2 `S5)));exact A5 (h _ #[(O.2 _ (C1 I.ne)).trans I.obj,M,I.ne] O)
def Hy0{R:`nw}{vs:`am}{kw:`sT}(X:`yF)(hm:`alP)
  (hi:`aRr) (hf:W.typeIn K `e2=`c `p0)
  (h:`mH `dZ (`aBC vs) (`wZ `e2 #[`ag `hn::vs,kw]) (W.InitBack `hn R)
   `aRs):
  `F9 (`wZ `gx #[vs,kw]) s:=by
 let#[hh,g,d,t,os]:=s;exact W.make_core (W.makes_of X hm) (W.looks_findIn X hi) (λself=>W.bind_fn X self hf) `gY h
omit z
def s50(f:Str)(v:V):`jL->`jL
 | []=>[(f,v)]
 | (g,x)::r=>`D (g=f) ((g,v)::r) ((g,x)::`aLH)
def c50(f g:Str)(v:V):∀fs:`jL,(`aeU).lookup g=`D (g=f) `aX (`Ms g):=by
 intro z;induction z with
 | nil=>
  show `lp g [(f,v)]=_
  by_cases h:g=f
  ·apply `alQ f
   simp only[`lp,hb,`bM]
  ·have hb:(g==f)=`q:=`m0 h
   simp only[`lp,hb,`bV]
 | cons zp r iq=>
  let#[k,x]:=zp
  have ih:=iq;apply `alR
  by_cases hk:k=f
  ·rw[`yH]
   by_cases h:g=k
   ·apply `alQ k
    simp only[`lp,hb,`I (`Cy hk)]
   ·have hb:`aRt:=`m0 h
    simp only[`lp,hb,`ap (λe:g=f=>h (`alS hk.symm))]
  ·rw[`GS]
   by_cases h:g=k
   ·apply `alQ k
    simp only[`lp,hb,`ap (λe:g=f=>hk (h.symm.trans e))]
   ·have hb:`aRt:=`m0 h
    simp only[`lp,hb];exact ih
def ft0(f:Str)(v:V):∀fs:`jL,f∈`aRu/\∀g,g∈`ad?->g∈`aRu:=by
 intro z;induction z with
 | nil=>exact#[`en s50,λg h=>`nz]
 | cons zp r ih=>
  let#[k,x]:=zp
  let#[i1,i2]:=ih;apply `alR
  by_cases hk:k=f
  ·rw[`yH]
   subst hk;exact#[`a_,λg h=>`aab]
  ·rw[`GS]
   refine#[?_,λg h=>?_]
   ·rw[`J]
    exact A7 _ i1
   ·rw[`J] at h ⊢
    rcases `Ni with e|e
    ·exact B5.mpr (`qb)
    ·exact A7 _ (i2 g e)
def cl0(f:Str)(v:V):∀fs:`jL,(`o `aeU)<=`Nv+1:=by
 intro z;induction z with
 | nil=>simp[s50]
 | cons zp r iq=>
  let#[k,x]:=zp
  have ih:=iq;apply `alR
  by_cases hk:k=f
  ·rw[`yH,`ae,`ae];lia
  ·rw[`GS,`ae,`ae];lia
def RelO.some_of{o:`iR}(r:RelO `rn o):∃u,o=`bS/\`gG:=by
 cases o with
 | none=>apply `yI
 | some u=>exact#[u,rfl,r]
def RelO.none_of{o:`iR}(r:RelO `g o):o=`g:=by
 cases o with
 | none=>rfl
 | some u=>apply `yI
def Ky0(r:`gG):`aRl u=`d:=by
 cases v with
 | non=>cases (`lz (u=`xp));rfl
 | bl b=>cases (`lz (u=`CM b));rfl
 | int i=>apply `aRv;cases e;rfl
 | str x=>apply `aRw;cases e;rfl
 | byt b=>let#[t,e]:=(`lz `aNN);cases e;rfl
 | flt b=>let#[t,e]:=(`lz `aNO);cases e;rfl
 | ref a=>cases (`lz `RQ);rfl
 | ty n=>cases (`lz (u=`m2 n));rfl
section
variable{P:`av}{w:`T}{h:`aa}{a C:`f}{fs fs':`jL}
def Yh0(hok:`fo)(e:`S6):∃mA,ObjM h a dx C mA/\(`aex)/\`aFd/\`ajV/\`ajU:=by
 skip;let#[d,z,ne,ob,mA,n,r,q]:=(show `CE (`ms) from hok a _ e);done;exact#[mA,#[ob,n,ne],r,q,z,d]
omit z
structure Cls(K:`C)(C:`f):Prop where
 pg:`aRx=`d
 hd:`alM
 po:`aRp
 sa:`aRo
def Cls.get{C:`f}(c:`tT)(f:Str):`aeS K C f=`d:=(c.pg)
def NoAttr(K:`C)(C:`f)(f:Str):Prop:=`alT=`cN
def NoAttr.taker{C:`f}{f:Str}(n:`yJ):W.takerIn K C f=`cN:=by
 delta W.takerIn;rw[show `alT=`cN from n];rfl
structure Meth(K:`C)(C:`f)(m:Str)(f:`f):Prop where
 at_:`wt K `gx m=`Ej
 fn:`GQ
 kp:`qc
section
variable{σ:St}{s:`v}{a C:`f}{fs:`jL}{f:Str}{A:`aq}
def Zb0{b:`aj}{Q:`aK}(I:`B)(e:`S6)(c:`GT)(n:`aRy)(l:`alU)
  (h:∀u s',`NR->`gG->Q u s'):`jR (`alN `ci f b):=by
 skip;apply `aRz;let#[u,hu,ru]:=`alV (mA f) (`bk l (r f));done;exact get_map `kj O (c.get f) c.hd n hu (Ky0 ru) (h u _ `CJ ru)
def a70{m:Str}{g:`f}{pl:`yG}{Q:`aRn}(I:`B)(e:`S6)(c:`GT)(k:Meth X.K C m g)(l:`S7)
  (h:Q (`ag g,`gH) s):`jR (`abP `ci m pl):=by
 apply `aRz;have hn:mA m=`g:=RelO.none_of (`bk l (r m));exact Ia0 `kj O (c.get m) k.at_ k.fn hn h
def Z80{y:V}{Q:`p4}(I:`B)(e:`S6)(c:`GT)(n:`aRy)(hl:`aRA)(ry:`eR)
  (h:∀s',`GU a `aRB s'->`Sz):`jR (setAttr `ci f u):=by
 let#[mA,O,r,wi,_,ho]:=`aFJ;have hz:(`o `ad?)<=`R:=`hg `x `aRa
 refine Dw0 `kj O c.sa c.po n.taker c.hd wi hz λh' O' sb=>h _ ?_
 have hd:∃o,`fQ dx=`aF:=by let#[o,_,_,e',_]:=O'.ns;exact#[o,e']
 refine `alW (x:=a) (e:=dx) `ac4 (`u ho) (λb q hb z=>`aJ7 z) hd ?_;refine#[`k (zi0 O.ne) ho,?_,O.ne,O'.obj,_,O'.ns,λg=>?_,λg hg=>?_]
 ·have:=cl0 f y fs;lia
 ·show RelO ((`aFK).lookup g) `aRC
  rw[c50]
  by_cases q:g=f
  ·rw[`GV,`GV];exact ry
  ·rw[`yK,`yK];exact r g
 ·by_cases q:g=f
  ·rw[q];exact(`aRD).1
  ·refine(`aRD).2 g (wi g λz=>hg ?_)
   show `aRC=`g;rw[`yK];exact z
def Inv.made(I:`B):Inv X `z σ (upd (`BV (`go `hn)) `hn (`aRE))
  `aRs:=by
 have e1:(`D4).get? `L=`c `aa7:=C5 `aY rfl;have e2:(`aFI).get? `hn=`c (`aeb):=by
  have:=C5 (`D4) (o:=`aeb) rfl
  apply `iD C90
 have e3:(`D4).Ns `L (`yL):=#[`aa7,⟨⟩,_,e1,rfl,(λe he=>`K he `az),`lv];have I1:=`oM (a:=`L) (o:=`go `hn) (h':=`D4) (t':=`b?) (λb u q=>`vO) `bq `aRF;refine `Gi (a:=`q9) (o:=`aRE) (t':=`b?) (λb u q=>`vO) (K2 (C90 _ _)) ?_;have ne:`L≠`q9:=`alX;refine#[`yM (zi0 ne),`bP,ne,e2,`yL,(Heap.Ns1.of_empty e3).at λo q=>`vO,λ_=>`pP,λy hy=>`K rfl hy]
def Cs0{prog:`av}{w:`T}{env:Env}{f:Str}{pos:Pos}{s:`v}{Q:`aK}(hb:`vj e f env (`alY)=`alY)
  (h:`aRG (`alY) (`alN o f `d) Q):`dH (`cs `alZ env):=(
 Attribute_any_ h (by rw[arm_eval_Attribute,hb]))
omit z
def v81(K:`C)(ta:TE)(f:Str):TE:=`tS ta (∃a C dx fs v,`fa/\`S8/\`tT/\`yJ/\`alU/\Q v H1)
def vd1(K:`C)(ta tv:TE)(f:Str):TS:=λD σ H=>tv σ H λy H1=>ta σ H1 λx H2=>∃a C dx fs,`fa/\H2 a=`rQ/\`tT/\`yJ/\`aRA /\
 `jj σ (upd H2 a `aRB)
def z01(X:Cx)(op:`yx)(rd:`yw):Prop:=
 ∀(pins:`aN) (s:`v) (σ:St) (H:Hp) (x y:V) (u v:`A) (Q:VK),`B->`ip->`dw y v->rd x y H Q->`dt (`ak1 op u v) `f7
def Cg0(K:`C)(ta tv:TE)(rd:`yw)(f:Str):TS:=λD σ H=>ta σ H λx H1=>∃a C dx fs v,`fa/\`S8/\`tT/\`yJ/\`alU /\
 tv σ H1 λy H2=>rd v y H2 λz H3=>∃dx' fs',H3 a=`c (`i3 C dx' fs')/\fs'.length<1000/\`jj σ (upd H3 a (`i3 C dx' (s50 f z fs')))
section
variable{f:Str}{tv:TE}
def zw1(he:PE X e ta)(hb:`aRH):PE X `alZ (v81 X.K ta f):=by
 apply `a';refine Cs0 hb (thn `hs λu s1 hq30=>?_);skip;apply `aRI hq30;subst ex;apply `tU;done;exact Zb0 I1 ea c n l λu' s2 I2 ru=>#[v,H1,I2,ru,q]
def Uf0(ha:`S9)(hv:`aRJ)(hs:`K2 `gD (`c (`aRK)) `aaD `N=`u?):PS X (`nj [`aRK] `gD pos) (vd1 X.K ta tv f):=by
 apply `iB;refine plainObj_wpAny_Assign_Attribute (thn (`di hv _ h) λu s1 hq31=>?_) hs;let#[y,H1,I1,ry,q]:=hq31;refine thn (ha `z s1 σ H1 _ I1 q) λov s2 hq32=>?_;skip;let#[x,H2,I2,rx,a,C,dx,fs,ex,ea,c,n,l,q2]:=hq32;subst ex;obtain rfl:ov=`oj:=rx;done;exact Z80 I2 ea c n l ry λs3 I3=>#[σ,_,I3,q2]
def Kf0{op:`yx}{rd:`yw}(ha:`S9)(hv:`aRJ)(hop:z01 X op rd):PS X (`SO (`hV o f tpos) op `gD pos) (Cg0 X.K ta tv rd f):=by
 apply `iB;apply `p7 wpAny_AugAssign_AttributeAny λov s1 hq33=>?_;skip;apply `aRI hq33;subst ex;obtain rfl:ov=`oj:=rx;done;refine Zb0 I1 ea c n l λu s2 I2 ru=>thn (hv `z s2 σ H1 _ I2 q) λw3 s3 hq34=>?_;let#[y,H2,I3,ry,q3]:=hq34;refine thn (hop `z s3 σ H2 v y u w3 _ I3 ru ry q3) λw4 s4 hq35=>?_;skip;let#[z,H3,I4,rz,M,fs',J,l',q4]:=hq35
 done;exact Z80 I4 J c n l' rz λs5 I5=>#[σ,_,I5,q4]
def vn1:`yw:=`c? (`ak! (`Pa))
def Al0:z01 X .Add vn1:=by
 rintro pins s σ H x y u v Q I rx ry ⟨i,j,rfl,rfl,q⟩;let#[t,rfl]:=(show `RA from rx);let#[t',rfl]:=(show ∃t',v=`Mo j t' from ry);exact PyProof.Rows.iadd_int (`pi `Pa)
omit z
structure Room(k:Nat)(A:`aq):Prop where
 hd:`fq
 dp:`S'+3*k+5<`aRL
 un:`oq+16*k+200<`i1
def Room.mono{k:Nat}{A:`aq}(r:`GW)(h:j<=k):`i4 j A:=(#[r.hd,`aRM,`aRN])
def Room.deeper{k:Nat}{A:`aq}(r:`aRO)(env:Env):`i4 k (`Mc env):=(
 #[r.hd,`al_ r.dp (`S'+1+3*k+5),`al_ r.un (`oq+3+16*k+200)])
def Nm0{A:`aq}{C:`f}{kw:`sT}:(`S!).depth=`S'+1:=by
 first|rfl|simp[`al0,Code.weight,Code.isCreation,Code.isGuard,Code.isCaller,`aRP,`al1,guardIds]
def Nd0{A:`aq}{C:`f}{kw:`sT}:(`S!).units=`oq+1:=by
 first|rfl|simp[`al0,Code.cUnits,`aRP,`al1]
def Room.make{k:Nat}{A:`aq}(r:`aRO)(C:`f)(us:`am)(kw:`sT):`i4 k (`S!):=(
 #[r.hd,by have:=r.dp;rw[Nm0];lia,by have:=r.un;rw[Nd0];lia])
def Room.depth{k:Nat}{A:`aq}(r:`GW):`S'<`aRL:=`aRM
def Room.units{k:Nat}{A:`aq}(r:`GW):`oq+64<`i1:=`aRN
def Yb0:TA:=λ_ H Q=>Q [] H
def xr1(ta:TE)(tr:TA):TA:=`db ta (`yB tr λxs H2=>Q (`tV) H2)
section
variable{t:TA}
def t00:PA X [] Yb0:=(λ_ _ _ _ H Q I h=>M0 #[[],H,I,`ah,h])
def vv0(ha:`eS)(hr:`yN)(hs:`d9):PA X `gl (xr1 te t):=by
 intro pos pins s σ H Q I h;rw[hs];show `b6 (`CK (`n3::`aac)) s;apply `p7 F3 λu s1 hq36=>?_;apply `fk hq36;exact thn (hr pos `z s1 σ H1 _ I1 q1) λus s2 #[xs,H2,I2,r2,q2]=>#[`tV,H2,I2,`aE r1 r2,q2]
def vm1(t:TA):TE:=`aRQ `q'
def va1(t:TA):TE:=`aRQ `kJ
def M90{x1}(h:`yN):PE X (`lB es x1 pos) (vm1 t):=by
 intro pins s σ H Q I hq;refine wpAny_Tuple_spliced (thn `aRR λus s1 hq37=>?_);let#[xs,H1,I1,r,z,q]:=hq37;apply `aRS;have hf:`aRT:=`FI;refine`aRU `q';exact#[z,us,r,`ajP]
def Ss0(h:`yN):PE X `al2 (va1 t):=by
 intro pins s σ H Q I hq;refine wpAny_List_spliced (thn `aRR λus s1 hq38=>?_);let#[xs,H1,I1,r,z,q]:=hq38;apply `aRS;have hf:`aRT:=`FI;refine`aRU `kJ;exact#[z,us,0,r,`e7]
omit z
abbrev Sp:=`P->Hp->VK->XK->Prop
abbrev CXT:=`f6->Hp->`v->XK->`aK
variable{sp:L2.Sp}
structure Env0(P:`av)(w:`T)(K:`C)(mg:`cd)(base:`aa)(A:`aq)(outer:`f6)(s:`v)(H:Hp):Prop where
 frames:A.frames=`c `dK
 mod:Mod K mg `aJ
 bs:∀b o,base.get? b=`aF->`aOu
 bsz:base.objs.size<=`L
 funs:`Sr `aJ `dK
 frf:∀b∈frs `dK,`dp
 hok:HOk P w H `aY
 bare:`aOr
variable{CX:L2.CXT}
def CE(outer:`f6)(P:`av)(w:`T)(H:Hp)(s:`v)(Q:VK)(u:`A)(s':`v):Prop:=
 ∃v H',`akH/\`ai'/\Un (frs `dK) [] H H' `aY `nd/\HOk P w H' `nd/\`aO7
def CR(CX:CXT)(outer:`f6)(P:`av)(w:`T)(H:Hp)(s:`v)(Q:VK)(E:XK)(r:Result)(s':`v):Prop:=
 match r with
 | .ok (`u1 u)=>`aRV
 | .ok _=>`cx
 | `aLV=>CX `dK H s E e s'
structure FnOk(P:`av)(w:`T)(K:`C)(mg:`cd)(base:`aa)(CX:CXT)(k:Nat)(f:`f)(fd:`f0)(ps:`e)(sp:Sp):Prop where
 len:`S?
 run:∀(A:`aq) (outer:`f6) (s:`v) (H:Hp) (args:Args) (us:`am) (vs:`P) (Q:VK) (E:XK),`GW->`al3->`P_ s fd args `Pb->`pY->`v3 ->
  `mH `s4 A (`wZ `e2 args) (CR CX `dK P w H s Q E) s
def Env0.make{P:`av}{w:`T}{A:`aq}{outer:`f6}{s:`v}(e:`al3)(C:`f)(us:`am)(kw:`sT):
  `aC' (`S!):=(#[by first|exact `al4|(simpa [`al0,Code.envs,`al1,pushEnvs] using `al4),e.mod,e.bs,e.bsz,e.funs,e.frf,e.hok,e.bare])
section
variable{σ:St}{s:`v}
def Inv.env0(I:`B):`aRW s H:=(
 #[I.ok.frames,I.ok.mod,I.bs,C3 I.ok.bsz I.sz,I.stack,I.stkFree,`bT,`k4])
def Inv.after{Q:VK}(I:`B)(h:CE `h0 `dT X.w H s Q u s'):`po u s':=by
 skip;let#[v,H',os,bare,un,hok,r,q]:=h;let#[hh,g,d,t,J]:=s';obtain rfl:J=s.os:=os;done;exact#[v,H',I.call (h':=hh) (g':=g) (d':=d) (t':=t) (ch:=[]) un hok bare (`al5),r,q]
omit z
def xm1(sp:Sp)(dvs:`P)(E:XK)(t:TA):TE:=`db t λvs H1=>sp `sS H1 Q E
def xu1(C:`f)(m:Str)(sp:Sp)(dvs:`P)(E:XK)(ta:TE)(t:TA):TE:=fun σ H Q=>ta σ H λx H1=>∃a dx fs,`fa/\`S8/\`S7 /\
 t σ H1 λvs H2=>sp (x::`sS) H2 Q E
def wo1(C:`f)(sp:Sp)(dvs:`P)(E:XK)(t:TA):TE:=fun σ H Q=>t σ H λvs H1=>∀x dx,H1 x=`g->H1 dx=`g->dx≠x ->
 `aRX (`aFQ H1)
def Binds(K:`C)(fd:`f0)(ps:`e)(ds:`am):Prop:=
 ∀(s:`v) (us:`am),`yF->`aRY->`P_ s fd `GX (`rI `GY)
def Binds.all{ps:`e}(h:∀us:`am,`al6->`sM fd `GX=`aRZ):`Gj:=(λs us _ hl=>by
 rw[`du] at hl ⊢;exact .of_eq (h us hl))
def kh0(CX:CXT)(X:Cx)(E:XK):Prop:=∀(pins:`aN) (σ:St) (H:Hp) (s:`v) (e:`A) (s':`v),`B->CX `h0 H s E e s'->`iQ e s'
section
variable{k:Nat}{f C:`f}{ps:`e}{ds:`am}{E:XK}{m:Str}{p:Pos}{t:TA}
def R20{pins:`aN}{σ:St}{H:Hp}{s:`v}{Q:VK}{us:`am}{vs:`P}(F:`yO)(hr:`nA)(hb:`yP)(hd:`yQ)(hx:`yR)
  (I:`B) (r:`pY) (h:sp `sS H Q E):`El `e2 us:=by
 have r2:`b_ `sS `GY:=`Pj hd;have hl:`aRY:=`bk `o! `aR_
 refine i8 (P6 (F.run X.A `h0 s H `GX `GY `sS Q E hr I.env0 (hb s us `kj hl) r2 h) `Ta);cases r with
 | error e=>exact hx `z σ H s e s' I hq
 | ok fl=>
  cases fl with
  | ret u=>exact I.after hq
  | next=>exact `yS
  | brk=>exact `yS
  | cont=>exact `yS
def i20(F:`yO)(hr:`nA)(hg:`mh)(hm:`rj=`aAZ)(hk:`K' X.K `e2=`d)(hb:`yP)(hd:`yQ)(hx:`yR)
  (ha:`yT) (hdb:`a9) (he:`d9) (hpl:`f9):
  PE X `vE (xm1 sp dvs E t):=by
 apply `a';apply `al7;refine `aR0 hk (thn `O? λus s1 hq39=>?_);let#[vs,H1,I1,r,q]:=hq39;refine #[I1.kIn,?_];exact R20 F hr hb hd hx I1 r q
def Ep0{pl:`yG}(he:`S9)(c:`GT)(hm:`aR1)(F:`yO)(hr:`nA)(hb:`yP)(hd:`yQ)(hx:`yR)(ha:`yT)
  (hst:`d9) (hpl:`f9)
  (ht:`H (`cs `aR2 `N=(do
   let ov ← `vk
   `Tb
   let (f,`w') ← `Tc
   `aR3)) Aa):
  PE X `aR2 (xu1 C m sp dvs E ta t):=by
 apply `a';refine `aR4 λu s1 hq40=>?_;skip;let#[x,H1,I1,rx,a,dx,fs,ex,ea,l,q]:=hq40;subst ex;apply `tU;done;refine `aR5;refine `aFL (first:=`gH) (h₀:=`fL) `aFM hm.kp (thn (ha pos `z s1 σ H1 _ I1 q) λus s2 hq41=>?_) hst hpl;let#[vs,H2,I2,r,q2]:=hq41;refine #[I2.kIn,?_];exact R20 (us:=`cQ::us) (vs:=`cQ::vs) F hr hb hd hx I2 (`aE rfl r) q2
structure Mk(K:`C)(C f:`f):Prop where
 makes:`alP
 init:`aRr
 fn:`GQ
 kp:`aR6
def Jh0{pins:`aN}{σ:St}{H:Hp}{s:`v}{Q:VK}{us:`am}{vs:`P}(M:`aR7)(F:`yO)(hr:`aR8)(hb:`yP)(hd:`yQ)
  (hx:`yR) (I:`B) (r:`pY)
  (h:∀x dx,H x=`g->H dx=`g->dx≠x->`aRX (`aR9)):
  `El `gx us:=by
 have hq:=h `hn `L (`oE (j0 _)) `Mu (`alX);have I2:=Inv.made (C:=C) I;have r2:`b_ (`Ot `hn::`sS) (`e1 `hn::`GY):=`aE rfl (`Pj hd);have hl:(`o (`al8++ds))=`V:=by
  have e:=`o!;rw[F.len _ _ _ _ hq] at e;exact e.symm
 refine i8 (Hy0 (f:=f) `kj M.makes M.init (W1.mp M.fn) (P6 (F.run _ `h0 _ _ #[`al8,[]] (`e1 `hn::`GY) _ _ E (hr.make C us [])
  (I2.env0.make C us []) (hb _ (`al8) I2.kIn hl) r2 hq) λr s' J=>?_))
 skip;cases r with
 | error e=>done;exact hx `z σ _ _ e s' I2 J
 | ok fl=>
  cases fl with
  | ret u=>
   let#[v,H',I3,rv,ev,q3]:=I2.after J;subst ev;done;exact#[rv,#[`Ot `hn,H',I3,rfl,q3]]
  | next=>done;exact `fM J
  | brk=>done;exact `fM J
  | cont=>done;exact `fM J
def In0(M:`aR7)(F:`yO)(hr:`aR8)(hg:`mh)(hm:`rj=`BB)(hb:`yP)(hd:`yQ)(hx:`yR)
  (hdb:`a9):PE X (`gt `vg []) (wo1 C sp dvs E Yb0):=by
 apply `a';apply `al7;exact `aR' `kj M.kp (Jh0 (us:=[]) M F hr hb hd hx I `ah h)
omit z
structure FnScope(N P:`e)(sc:`ev):Prop where
 kind:`aR!
 co:`aR?
 gen:`aSa
 nd:`Gx
 pre:`aSb
 par:∀x∈P,`ake
 nofree:∀y∈`Td,`aSc
def W70{kindOf:`Te}:`aSd bindL:=by
 intro z;induction z with
 | nil=>intro _ _;exact rfl
 | cons zp r ih=>
  let#[n,v]:=zp
  intro m h
  delta bindL;rw[`aSe];split
  ·apply `aSf
   simp[`w]
  ·rfl
def Ws0{kindOf:`Te}:`aSd bindC:=by
 intro z;induction z with
 | nil=>intro _ _;exact rfl
 | cons zp r ih=>
  let#[n,v]:=zp
  intro m h
  delta bindC;rw[`aSe];split
  ·rfl
  ·apply `aSf
   simp[`w]
def Xo0{kindOf:`Te}{v:`A}:∀{P:`e} {vs:`am} {i:Nat} {m:`cd},P.Nodup->`aSg->`al9->`v4 x=`i2 ->
  bindL `v4 (`ajJ) m x=`aX:=by
 intro z;induction z with
 | nil=>intro _ _ _ _ h _ _;simp at h
 | cons p P ih=>
  intro z1;cases z1 with
  | nil=>intro _ _ _ _ h _;simp at h
  | cons w vs=>
   intro z2;cases z2 with
   | zero=>
    apply `Tf
    simp at h1 h2;subst h1;subst h2;show `Tg bindL p;delta bindL;rw[W70 `aSh,`yH];simp
   | succ i=>
    apply `Tf
    show `Tg bindL x;delta bindL;apply `aSi
def Wq0{kindOf:`Te}{v:`A}:∀{P:`e} {vs:`am} {i:Nat} {m:`cd},P.Nodup->`aSg->`al9->`v4 x≠`i2 ->
  bindC `v4 (`ajJ) m x=`aX:=by
 intro z;induction z with
 | nil=>intro _ _ _ _ h _ _;simp at h
 | cons p P ih=>
  intro z1;cases z1 with
  | nil=>intro _ _ _ _ h _;simp at h
  | cons w vs=>
   intro z2;cases z2 with
   | zero=>
    apply `Tf
    simp at h1 h2;subst h1;subst h2;show `Tg bindC p;delta bindC;rw[Ws0 `aSh,`GS];simp
   | succ i=>
    apply `Tf
    show `Tg bindC x;delta bindC;apply `aSi
def start(N:`e)(vs:`P):St:=`aSj++`cr (`yU - `c8) `g
def nj0(CX:CXT)(P:`av)(w:`T)(K:`C)(mg:`cd)(base:`aa)(N:`e)(qual:Str)(scope:`ev)(f:`f)(cd:`A)(A:`aq)(outer:`f6)(s:`v)(H:Hp)(E:XK):Cx where
 prog:=P
 w:=w
 K:=K
 mg:=mg
 base:=`aJ
 A:=`Mc (`w!)
 N:=N
 s₀:=s
 H₀:=H
 env:=`w!
 outer:=`dK
 stack:=`w!::`dK
 ex:=[]
 calm:=`d
 fn:=`al'
 pn:=[]
 xe:=λe s'=>`aP `s4 (`Mc (`w!)) (leaving (`w!) e) (λ_ s''=>CX `dK H s E e s'') (λe' s''=>CX `dK H s E e' s'') s'
def Uq0(h:`acN):∃c,(`aFS n `Td []).lookup x=`eX:=by
 have q:=`aSk `Td n [] `SK;exact Option.isSome_iff_exists.mp q
def Lh0{CX:CXT}{P:`av}{w:`T}{K:`C}{mg:`cd}{base:`aa}{N ps:`e}{qual:Str}{scope:`ev}{f:`f}{cd:`A}{A:`aq}{outer:`f6}{s s1:`v}{H:Hp}{E:XK}{us:`am}{vs:`P}
  (S:`aSl) (hd:`fq) (e0:`al3) (hl:`aBD) (r:`pY)
  (x:InCallC s `L (bindL `aSm `Pb `yL) (`aSn) (bindC `aSm `Pb `yL) s1):
  Inv (`aSo) [] `OK H s1:=by
 have O:`V<=`yU:=by have:=D9 `aSp S.pre;apply `ay `fb;lia
 let#[h1,tk,rfl,hk]:=x.done;have J:∀b:`f,b∉(`aSo).ex:=λb z=>`ra `al! z `az
 refine#[#[e0.mod,S.kind,rfl,rfl,`fA,λy z c h1 h2=>?_,`Th,λy c _ h=>?_,λ_=>hd,Around.frames_deeper e0.frames,`u `iz,`aSq,e0.bs,e0.bsz,λb _ _=>J b,`aSq,e0.funs,e0.frf],
  rfl,e0.bare,`Gs hk,#[_,x.toInCall.ns,λi y v h1 h2 h3=>?_],λy c h=>#[_,x.cell y c h],`aSr `bq,λy c h=>?_,λp hp=>`ra (p∈([]:`aN)) hp `az,e0.hok.kept hk,?_]
 ·exact name_of_addr x.apart (N4 h1) (N4 h2)
 ·have hy:`Pm=`ib∨`Pm=`jv:=hy
  rcases hy with hy|hy
  ·exact Uq0 hy
  ·exact `K rfl (S.nofree _ (N4 hy))
 ·exact `aSs
 ·have hi:i<`c8:=by
   delta start at h2
   by_cases hi:i<`c8
   ·exact hi
   ·rw[`al?] at h2
    rw[`tW] at h2;split at h2<;>cases h2
  have ha:`al9:=by
   delta start at h2;rw[`Ti,`cH] at h2;cases e:`acU with
   | none=>rw[e] at h2;cases h2
   | some a=>rw[e] at h2;cases h2;rfl
  let#[u,hu,rv]:=`nB ha;have hp:`af8=`g5:=by
   rw[← S.pre,List.getElem?_take_of_lt `l];exact h1
  have M:ps.Nodup:=`bk S.pre (S.nd.sublist (List.take_sublist _ _))
  refine#[u,rv,?_];rcases S.par y `Qe with k|k
  ·exact `n #[k,Xo0 M hp hu k]
  ·let#[c,e]:=Uq0 (n:=`q9) k
   refine `u #[`Gk,c,e,?_];have q:=x.cell y c e;rw[Wq0 M hp hu (by show `Pm≠_;rw[k];decide)] at q;exact q
 ·exact `aSr (`aSs)
 ·delta start
  show _=`yU;rw[`S,`x,`GZ];lia
def Pf0{CX:CXT}{P:`av}{w:`T}{K:`C}{mg:`cd}{base:`aa}{k:Nat}{f:`f}{name qual:Str}{params:`Tj}{body:`d8}{scope:`ev}{dV kV doc pm cdv ct oc:`A}{an od:`cY}
  {osl:`hz} {N ps:`e} {sp:Sp} (lk:`G_ `aSt) (hcd:`Pk) (S:`aSl)
  (len:`S?)
  (hbody:∀(A:`aq) (outer:`f6) (s:`v) (H:Hp) (vs:`P) (Q:VK) (E:XK),`Pl `ef f cdv->`v3 ->
   ∃t,PSs `ama `dm t/\`aF8):
  `me P w K mg `aJ CX `fZ f `aSt ps sp:=by
 refine#[len,λA outer s H Z us vs Q E hr e0 hb r O=>?_];have hl:=len _ _ _ _ O;have KX:`yF:=e0.mod.kin.keeps `aSu
 have Y:`aOw:=e0.mod.nolimit.keeps `aSu
 have M:∀y∈`rI us,`rK y.1=`i2∨(`rK y.1=`ib/\`v9 ((`aSn).lookup y.1)):=λhq42 hy=>by
  let#[n,v]:=hq42
  rcases S.par n (x9 hy).1 with q|q
  ·exact `jn
  ·exact `u #[q,`aSk _ _ _ (`jn)]
 refine codeAny_call_function hr.depth (KX _ _ lk) rfl S.co S.gen rfl (W.codeRec_of KX hcd) (hb _ _ _ _ ?_);refine wpAny_newFunctionEnv_cells S.kind M λenv he s1 x=>?_
 subst he;refine#[Y.keeps x.toInCall.keep,codeAny_func ?_];let#[t,ht,hq]:=hbody A `dK s H vs Q E (hr.deeper _) O;have I:Inv `ama [] `OK H s1:=Lh0 S hr.hd e0 hl r x;refine E7 (ht [] s1 `OK H _ I hq) (λfl s' hs=>?_) λe s' hs=>hs
 skip;have fin:∀{σ':St} {H':Hp} {v:V} {u:`A},Inv `ama [] σ' H' s'->`gG->`vC->`aRV:=
  λ{σ' H' v u} J rv q=>#[v,H',J.os,J.bare,J.base,J.hok,rv,q]
 cases fl with
 | ret u=>
  let#[v,σ',H',J,rv,q]:=hs;done;exact fin J rv q
 | next=>
  let#[σ',H',J,q]:=hs;done;exact fin (v:=V.non) (u:=`xp) J rfl q
 | brk=>
  let#[_,_,_,q]:=hs;done;exact `fM q
 | cont=>
  let#[_,_,_,q]:=hs;done;exact `fM q
section
variable{p:Pos}{t:TA}{id T:`da}
def tCB(r:`i0)(t:TA):TE:=`db t λvs H1=>r vs H1 Q
def gs0(hc:`aSv)(hg:`mh)(hm:`tN)(hv:`sO=`ae_)(ha:`yT)(hn:`tO)(hdb:`a9)
  (he:`d9) (hpl:`f9):`aSw:=by
 apply `a';apply `aSx;exact np0 `aSy he hpl
def mo0(hc:`aSz)(hg:`mh)(hm:`tN)(hv:`sO=`amb)(ha:`yT)(hn:`tO)(hdb:`a9)
  (he:`d9) (hpl:`f9):`aSw:=by
 apply `a';apply `aSx;exact L9 `aSy he hpl
omit z
omit L2
variable{r:`aO6}{X:L2.Cx}{ta tb te ty:L2.TE}{CX:L2.CXT}{sp:L2.Sp}
namespace HT
open PyProof.Rows
section
variable{w:`T}{A:`aq}{s:`v}
def Dx0{t b:`f}{ws:`am}{Q:`aK}(ht:`Ek `aY t `rM)(hb:`Ek `aY b `yV)(hv:vs≠[])
  (h1:ws=[]->Q `pm s) (h2:ws≠[]->Q `f2 (`Dd (`wX `aSA)))
  (hsz:`c8+`Fk<=`R):`dH (`ox .Add `pm `EH):=by
 skip;apply `afx (id ht);let#[#[a1,Y,data2,Z],J,O,n2,M]:=id hb;simp only at hc hd O M;subst hc hd O M;have e:`rM++`yV=`aSA:=`a_
 by_cases hw:ws=[]
 ·done;exact y4 `lR `aSB D10 D20 D30 D40 (D50 _ _)
   (tuple_addW1 t b `rM `yV n n2 dd Y sl Z `Tk (by simp[hw])) #[ho,J,h1 hw]
 ·done;refine y4 `lR `aSB D10 D20 D30 D40 (D50 _ _)
   (tuple_addW2 t b `rM `yV n n2 dd Y sl Z `Tk `aNq (`ii `cm `cm hsz)) #[ho,J,?_]
  rw[e];exact h2 hw
def sIx(n d:Nat):`aSC
 | `g=>d
 | `aX=>`Tl
def zg1(n d:Nat)(hd:d<=n)(o:`bw):sIx n d o<=n:=by
 cases o with
 | none=>exact hd
 | some v=>
  show (`Tl)<=n
  by_cases hv:v<0
  ·rw[`I hv];lia
  ·rw[`ap hv];exact D60 _ _
def cmN(k n:Nat):min `cS `bm=(`ak (min k n)):=by
 rcases `amc k n with h|h
 ·rw[`ag3 h,`aSD `aSE]
 ·rw[`ag4 h,Int.min_eq_right `aSE]
def Rz0(v:Int)(n d:Nat):`aSF=(`ak (sIx n d `rn)):=by
 show `aSF=(`ak (`Tl))
 by_cases hv:v<0
 ·apply `aM (`I hv);exact (Int.ofNat_toNat _).symm
 ·apply `aM (`ap hv);let#[k,rfl]:=`aSG (`aSH hv);exact cmN _ _
def O30(lo hi:`bw)(n:Nat):`aSI=(`Tm,`aSJ):=by
 have h1:¬(`Dh<0):=`U
 delta Builtin.Slice.sliceAdjust;apply `tX h1;apply `c_ Prod.ext
 ·cases lo with
  | none=>rfl
  | some v=>exact Rz0 v n 0
 ·cases hi with
  | none=>rfl
  | some v=>exact Rz0 v n n
def N30(i j:Nat):`amd `hX `bN 1=j - i:=by
 delta Builtin.Slice.slicePlaces;have h1:(1:Int) > 0:=`U
 simp only[h1,`qd,`aSK];split<;>lia
def Zg0{v:`A}{o:`bw}{Q:`bw->`fz}(p:`CG v o)(h:Q o s):`dH (Builtin.Slice.slicePartIndex v):=by
 cases p with
 | none=>exact `aSL h
 | int i t=>exact slicePart_int h
def km0{sl:`f}{hi:`bw}{n:Nat}{Q:Int×Int×Nat->`fz}(hs:`Tn)(pl:`To)(pu:`Tp)
  (h:Q (`Tm,1,`aFU - `aBG) s):`dH (Builtin.Slice.sliceApplied `Pc (`bD `bm)):=by
 let#[os,M,O,J]:=id hs;delta Builtin.Slice.sliceApplied Builtin.Slice.sliceFields;refine A1 (`ame vl (`ame vu (`ame `a8 `rz)));refine A1 (`aSL ?_);show `b6 (`D ((`Dh==0)=`d) _ _) s;rw[`fm];refine A1 (Zg0 pl (A1 (Zg0 pu (`G0))));show `b6 (match `aSI with|(lo,hi)=>`bD (lo,`Dh,`amd lo hi 1)) s;rw[O30 lo hi n];show `b6 (`bD (`Tm,`Dh,`amd `Tm `aSJ 1)) s;rw[N30];exact A5 h
def Iu0(xs:`aO)(i k:Nat):(`hr (`amf k `aSM))=(`hr ((xs.toList.drop i).take k)):=by
 have e:(`aSM)=`aSN:=by
  funext m
  have:`aFV=i+m:=`U
  rw[`w]
 rw[e];have:=pick_run xs i k;apply `ay `amg;have e2:((λx=>xs[x]?) ∘ λx=>i+x)=`aSN:=rfl
 apply `ay e2;rw[`w]
def c10{t sl:`f}{items:`aO}{hi:`bw}{Q:`aK}(ht:`aSO)(hs:`Tn)(pl:`To)(pu:`Tp)
  (hw:¬(`aSP))
  (h:Q `f2 (`Dd (`e? `mu `aSQ)))
  (hsz:`eL<=`R):`aSR:=by
 have J:sizeOk (`aSQ):=by
  show (`aFW).toArray.size<=`R;rw[`cm,`fb,`pV,`yv];exact `aSS (Nat.min_le_right _ _) (`aSS (Nat.sub_le _ _) hsz)
 have hj:`aco<=`eL:=zg1 _ _ `bq hi;let#[os,Y,Z,a1]:=id hs;have O:`aST:= #[os,Y,Z];delta getItem
 apply `G1
 first|refine `G0|try fail
 refine `aSU;refine A1 (j3 (name:=`EO `aeZ) `ty g5
  `aSV)
 show `aSW;apply `gN `amh ht;apply `gN L0 O;rw[`qe];refine `aSX;have M:¬(`ai4):=by
  intro q;rw[`a?,`a?] at q;have q1:`aCK=0:=`yW q.1.1;have q2:`acG=`eL:=`yW q.2;exact hw #[`ch,`ch]
 apply `aSY;rw[`ap M,Iu0]
 first
  | exact `aSZ
  | exact `Pd (A1 `aS_) J
  | exact A1 (`Pd `aS_ J)
  | exact A1 (`aSZ)
omit z
omit HT
open Y
abbrev TO:=`Eh `aS0
def PO(X:Cx)(e:`yX)(t:TO):Prop:=
 ∀(pins:`aN) (s:`v) (σ:St) (H:Hp) (Q:`aS0),`B->`rT ->
  `dt (evalPart e `N) (λu s'=>∃o H',`p6/\`CG u o/\Q o H')
def Cq0:TO:=λ_ H Q=>Q `g H
def xp1(t:TE):TO:=`tS t (∃i,`NA/\Q (`G2) H1)
section
variable{lo hi:`yX}{tl th:TO}
def Df0:PO X `g Cq0:=by
 apply `a';rw[`ami];exact A5 #[`g,H,I,`a8,h]
def Dv0(h:`eS):PO X (`g3) (xp1 te):=by
 apply `akL;rw[evalPart_some];refine thn `akM λu s1 hq43=>?_;skip;apply `fk hq43
 let#[i,rfl,q]:=q1;apply `ak?;done;exact#[`G2,H1,I1,`h i t,q]
def SlR(X:Cx)(r:`tY):Prop:=
 ∀(pins:`aN) (s:`v) (σ:St) (H:Hp) (x:V) (v vl vu:`A) (lo hi:`bw) (sl:`f) (Q:VK),`B->`jP->`Tn->`To->`Tp->`aS1 ->
  ∃T id,`aS2/\`rV v T/\`dt (`pl v `Pc) `f7
def SlR.or{r r':`tY}(h:SlR X r)(h':SlR X r'):SlR X (`Tq (`aS1∨r' x lo hi H Q)):=by
 intro pins s σ H x v vl vu lo hi sl Q I rx hs pl pu q;apply `S4
 ·exact `aS3 h
 ·exact `aS3 h'
def tSl(r:`tY)(te:TE)(tl th:TO):TE:=`aS4 (r x l u H3 Q)
def Io0{r:`tY}(hr:SlR X r)(he:`eS)(hl:`aS5)(hu:`aS6):PE X `aS7 (tSl r te tl th):=by
 apply `a';refine k0 (thn `hs λv s1 hq44=>?_);apply `fk hq44;refine `amj (thn `aS8 λvl s2 hq45=>?_);let#[l,H2,I2,pl,q2]:=hq45;refine thn `aS9 λvu s3 hq46=>?_;let#[u,H3,I3,pu,q3]:=hq46;rw[`ami];refine `eg;have I4:`aW H3 `amk:=I3.kept (t':=s3.toks) `NV
 let#[T,id,hT,ht,hg]:=hr `z `amk σ H3 x v vl vu l u `tZ Q I4 r1 `aml pl pu q3;show `p! (`amm e `aKN v (`ag `tZ)) `f7 `amk;exact `Tr (ops:=[`ag `tZ,v]) ht hT hg `aS'
def fv0(xs:`P)(lo hi:`bw):`P:=(`p2 (`Pe)).take `aFZ
def c80(xs:`P)(lo hi:`bw):(`o `aA7)<=`aB:=by
 delta fv0;rw[`fb,`pV];lia
def vt1(K:`C):`tY:=λx lo hi H Q=>∃a xs,`fa/\`lM /\
 ¬`aS!/\`t_ (`t `G3)
def za1:SlR X (vt1 X.K):=by
 apply `Ts;skip;apply `aS?;cases rx;apply `aTa;apply `aTb
 done;refine#[`dg,_,g5.lookup,`ty,?_];refine HT.c10 ht hs pl pu (`Tt) ?_ (`k J hz);rw[J];refine`Tu (`t `G3) `Tv;exact#[`aTc,_,`aTd,`Tw]
def Gu0(K:`C):R2:=λx y H Q=>∃a b xs ys,`fa/\`yY/\`lM/\`aTe/\`abU/\`afz /\
 (ys=[]->Q `ci H)/\(ys≠[]->`t_ (`amn))
def Vals.nil_iff(r:`eq):us=[]↔`yZ:=by
 cases r with
 | nil=>simp
 | cons _ _=>simp
def Ey0:`y_ `GN Gu0:=by
 apply `ew;skip;let#[a,b,xs,ys,rfl,rfl,ha,hb,hx,hz,q1,q2]:=h;cases rx;cases ry;apply `amo;let#[J,r2,p2,_]:=`mK hb;done;refine HT.Dx0 p1 p2 (λz=>hx (`aGS z)) (λz=>(`lH `cQ (q1 (r2.nil_iff.mp z)))) (`lA) (by rw[← `k',← `o!];exact hz);refine`Tu `amn (q2 (λw=>z (r2.nil_iff.mpr w)) _ `Mu);exact#[`aTf,_,`Tx,`Tw]
omit z
def ixN(n:Nat)(i:Int):`Ty:=`aTg
def atI{α:Type}(xs:`aV)(i:Int):`R!:=`aTh
def Er0{i:Int}(h:ixN n i=`Tz):seqIndex? i n=`Tz/\j<n/\`ae0/\i<n:=by
 delta ixN at h
 by_cases h0:0<=i
 ·rw[`I h0] at h
  by_cases h1:i<n
  ·rw[`amp] at h
   have e:`m9=j:=B4 h;exact#[by rw[`aTi h0 h1,e],`U,`U,h1]
  ·rw[`amq] at h;cases h
 ·rw[`amr] at h
  by_cases h1:`ae0
  ·rw[`amp] at h
   have e:`aF0=j:=B4 h;exact#[by rw[`aTj `l h1,e],`U,h1,`U]
  ·rw[`amq] at h;cases h
def Zz0{xs:`aV}{i:Int}{v:α}(h:`aNn):∃j,seqIndex? i `aB=`Tz/\`aTk/\j<`aB/\-`aTl<=i/\`y0:=by
 delta atI at h;cases e:`aF1 with
 | none=>rw[e] at h;cases h
 | some j=>
  rw[e] at h;let#[h1,h2,h3,h4]:=Er0 e;exact#[j,h1,h,h2,h3,h4]
def ii0(b:`G):Prop:=`aIa b
def IxR(X:Cx)(r:R2):Prop:=
 ∀(value slice:`G) (pins:`aN) (s:`v) (σ:St) (H:Hp) (x y:V) (v u:`A) (Q:VK),`B->`jP->`eR->`RM ->
  `OW `sU `q v u=`ajI [v,u] (`pl v u)->`dt (`amm `gD `sU v u) `f7
def MtR(X:Cx)(id:`da)(r:`jS):Prop:=
 ∀(pins:`aN) (s:`v) (σ:St) (H:Hp) (x:V) (xs:`P) (v:`A) (us:`am) (Q:VK),`B->`jP->`eq->`aTm ->
  `aTn
section
variable{a:`G}
def IxR.or{r r':R2}(h:`ams)(h':IxR X r'):IxR X `aQ1:=by
 intro value slice pins s σ H x y v u Q I rx ry q hs;apply `S4
 ·exact `aTo h
 ·exact `aTo h'
def Og0{r:R2}(hr:`ams)(ha:`jO)(hb:`tQ)(hs:ii0 b):PE X `G4 `S_:=by
 apply `a';exact k0 (Hv0 ha hb I h λv u s2 x y H2 I2 rx ry q=>hr a b `z s2 σ H2 x y v u Q I2 rx ry q (hs _ _))
def zy1(K:`C):R2:=`c? (`aTp `ae3)
def Bq0(K:`C):R2:=`c? (`aTp `aF2)
def Ab0:R2:=`c? (∃z i c,x=`on/\y=`b9/\`xa/\`aTq=`eX/\Q `TA H)
def Qg0:IxR X (zy1 X.K):=by
 apply `amt;skip;apply `aTr;cases rx;apply `G5;apply `amu;apply `amv;let#[w,ew,J]:=`nB h2;have hl:=`a2;have hn:=k80;apply `aTs
 by_cases h0:0<=i
 ·have hj:`m9=j:=by
   rw[`aTi h0 h5] at h1;exact B4 h1
  done;exact item_listR `hC h0 `l `aTt fin hs
 ·have hj:(i+(`hp:Int)).toNat=j:=by
   rw[`aTj `l h4] at h1;rw[`cm,← hl];exact B4 h1
  done;exact `aTu (x:=w) `aTv `G6
   (wpAny_getItem_list_neg (Q:=`aTw) `hC `l `TB `l `aTt `aTx) hs
def Tz0:IxR X (Bq0 X.K):=by
 apply `amt;skip;apply `aTr;cases rx;apply `G5;apply `TC;apply `amv;let#[w,ew,J]:=`nB h2;have hl:=`a2;have hn:=k80;apply `aTs;done;exact `aTu (x:=w) pl.typeIs slot_tuple_getitem.lookup
  (getItem_tuple (j:=j) (Q:=`aTw) pl `l `l (`afI hl h1) (`a7 ew) `aTx) hs
def zm1:IxR X Ab0:=by
 apply `amt;skip;let#[z,i,c,rfl,rfl,hz,he,q]:=h;apply `cz;apply `cM;apply `amv;have hl:z.cps.toList.length=`kq:=`en Str.length
 rw[hl] at h1 h4 h5;have hn:=k80;done;exact `Tr (g7 s z t) slot_str_getitem.lookup (getItem_str (c:=c) (by
  have e1:`an (i < `amw)=`q:=`TD;have e2:`an (i ≥ 2 ^ 63)=`q:=`TD;rw[e1,e2,`TE]) (`air h1 h2) (`pi `oN)) hs
def rIx(K:`C):R2:=`c? (`y1 zy1∨`y1 Bq0∨Ab0 x y H Q)
def yd1:IxR X (rIx X.K):=(Qg0.or (Tz0.or zm1))
def sbN(n d:Nat)(i:Int):max 0 (min (`D (i<0) (i+`bm) i) `bm)=(`ak (`kP n d (`G2))):=by
 rw[← HT.Rz0 i n d]
 by_cases h:i<0
 ·rw[`bM,`bM,`aSD `l,Int.max_comm]
 ·rw[`bV,`bV];let#[k,rfl]:=`aSG (`aSH h);rw[HT.cmN,Int.max_eq_right (Int.natCast_nonneg _)]
def S20(lo hi:`bw)(n:Nat):(`amx).1=(`ak (`kP n 0 lo))/\(`amx).2.1=(`ak (`kP n n hi))/\(`amx).2.2=1:=by
 refine#[?_,?_,rfl]
 ·cases lo with
  | none=>simp[`o9,`kP]
  | some i=>exact sbN n 0 i
 ·cases hi with
  | none=>simp[`o9,`kP]
  | some i=>exact sbN n n i
def V00(its:`am)(lo hi:`bw):`amy `bj lo hi `g=(`hr ((its.drop (`aTy)).take (`kP `ne `ne hi - `aTy))):=by
 let#[h1,h2,h3]:=S20 lo hi `hp;delta slicePick;rw[h1,h2,h3];simp only[sliceRange_one,pick_run,`cm]<;>rfl
def vi1(K:`C):`tY:=`Tq (`TF (`sQ/\`t_ (`m `G3)))
def Ed0:SlR X (vi1 X.K):=by
 apply `Ts;skip;let#[a,xs,rfl,hx,q]:=h;cases rx;apply `Pf `hW;have J:=`a2;done;refine#[`eV,_,`G6,`TG,?_];refine E10 `TH hs pl pu `a8 `az ?_ `TB;rw[V00,← J];refine`Tu (`m `G3) `Tv;exact#[`aTc,_,0,`aTd,`e7]
def ol0:V->`aj
 | `y=>`d
 | `cL=>`d
 | `cZ=>`d
 | `co=>`d
 | _=>`q
def eqV:V->V->`aj
 | `y,y=>`amz
 | .bl a,y=>`amA
 | `y2,y=>`amB
 | `lo,y=>`amC
 | _,_=>`q
def zf1{A:`aq}{s:`v}{y x:V}{v:`A}(ry:`eR)(rx:`jP)(fy:`aTz)(fx:`amD):`rU A s u v (`ae2):=by
 cases y with
 | non=>
  cases ry;cases x with
  | non=>cases rx;exact v0 _
  | bl b=>cases rx;exact `aTA b
  | int b=>apply `cz;exact B80 b t
  | str b=>apply `cz;exact B90 b t
  | _=>apply `TI
 | bl a=>
  cases ry;cases x with
  | non=>cases rx;exact `aTB a
  | bl b=>cases rx;exact `aTC a b
  | int b=>apply `cz;exact `aTD a b t
  | str b=>apply `cz;exact `aTE a b t
  | _=>apply `TI
 | int a=>
  apply `cM;cases x with
  | non=>cases rx;exact C00 a t'
  | bl b=>cases rx;exact `aTF a t' b
  | int b=>apply `cz;exact C10 a t' b t
  | str b=>apply `cz;exact v3 a t' b t
  | _=>apply `TI
 | str a=>
  apply `cM;cases x with
  | non=>cases rx;exact C20 a t'
  | bl b=>cases rx;exact `aTG a t' b
  | int b=>apply `cz;exact w8 a t' b t
  | str b=>apply `cz;exact C30 a t' b t
  | _=>apply `TI
 | _=>exact `ra `Bn fy C0
def eqU(x:V)(u:`A):`aj:=match u with
 | `a8=>eqV `y x
 | `SF=>eqV `v1 x
 | `h i _=>eqV `ho x
 | `p z _=>eqV `xr x
 | _=>`q
def Mm0{x y:V}(r:`eR)(f:`aTz):eqU x u=`ae2:=by
 cases y with
 | non=>cases r;rfl
 | bl b=>cases r;rfl
 | int i=>apply `iA;rfl
 | str z=>apply `iA;rfl
 | _=>exact `ra `Bn f C0
theorem ib0{x:V}:∀{xs:`P} {us:`am},`eq->`TJ->us.any `Mw=`aTH
 | _,_,`ah,_=>rfl
 | y::xs,u::us,`tJ,f=>by
  rw[`qf,`a?] at f;rw[`lS,`lS,Mm0 r f.1,ib0 t f.2]
theorem na0{A:`aq}{s:`v}{x:V}{v:`A}(rx:`jP)(fx:`amD):∀{xs:`P} {us:`am},`eq->`TJ->∀u∈us,`rU A s u v (eqU x u)
 | _,_,`ah,_=>λu hu=>by cases hu
 | y::xs,u::us,`tJ,f=>λu' hu=>by
  rw[`qf,`a?] at f;rcases `bF hu with rfl|hu
  ·rw[Mm0 r f.1];exact zf1 r rx f.1 fx
  ·exact na0 rx fx t f.2 u' hu
def inV(x:V)(xs:`P):`aj:=`aTH
def rIn(K:`C)(neg:`aj):R2:=`c? (∃p xs,y=`g0/\`aTI/\`amD/\`TJ/\`GO (`D neg (!inV x xs) (inV x xs)))
def o5:`h1 .In (rIn X.K `q):=by
 apply `ew;skip;apply `aTJ;cases ry;apply `TK
 ·apply `amu
  done;refine `TL SeqAt.in_listAt `hC;apply `TM;exact q
 ·apply `TC
  done;refine `TL SeqAt.in_tupleAt pl;apply `TM;exact q
def j8:`h1 `xo (rIn X.K `d):=by
 apply `ew;skip;apply `aTJ;cases ry;apply `TK
 ·apply `amu
  done;refine `TL SeqAt.notIn_listAt `hC;apply `TM;exact q
 ·apply `TC
  done;refine `TL SeqAt.notIn_tupleAt pl;apply `TM;exact q
def e40:`er X `amE (`TN (`aTK/\Q (`ae4) H)):=by
 apply `yE;skip;let#[p,ys,rfl,hq,q]:=h;apply `TO;cases rx;have hn:=k80;apply `TK
 ·apply `amF
  have J:=`pR;done;exact Calls.call_len_list `hC `Ph `aTL
 ·apply `amG
  have J:=`pR;done;exact len_tuple pl `Ph `aTL
def Tb0:`er X `amE (`tx `aTM):=by
 apply `yE;skip;let#[z,rfl,hz,q]:=h;apply `aRg;have hn:=k80;done;exact len_str `l (`pi `ae5)
def CallR.or{f:`A}{r':`i0}(h:`er X f r)(h':`er X f r'):`er X f (`tx (`SY∨r' xs H Q)):=by
 intro pins s σ H xs us Q I rs q;apply `S4
 ·exact `aTN h
 ·exact `aTN h'
def j7:`er X `xn (`TN (`aTK/\`aTO)):=by
 apply `yE;skip;let#[p,ys,rfl,hq,q]:=h;apply `TO;cases rx;have fin:∀(its:`am),`aTP->`TP->∀(h':`aa) (c':Nat),(∀b o',`Bh=`aea->`aFj) ->
   `fQ `L=`OS `bj c'->`po `f2 `k6:=λits r' hz h' c' kp e=>
  #[`gW,_,`oM (t':=`b?) kp `bq (show `Gw _ _ `Da from #[hz,its,c',r',e]),rfl,`Tv]
 apply `TK
 ·apply `amF
  have J:=`pR;let#[o,ho,hc,n,hd]:=`hC;done;exact `aTQ `gY
 ·apply `amG
  have J:=`pR;let#[o,ho,hc,n,hd]:=pl;done;exact `aTQ `TQ
def m9:`er X `s7 `aTR:=by
 apply `yE;skip;let#[p,ys,rfl,h]:=h;apply `TO;cases rx;rcases h with⟨hq,q⟩|⟨hq,q⟩
 ·apply `amF
  have J:=`pR;done;refine call_tuple_list `hC (λh' kp=>?_) `Ph;have I1:`act:=`GG (t':=`b?) kp;have I2:`GU `c! `Nn ((`hR s (`xu (`e? `mu `aTS)))):=
   `Gi (t':=`b?) (`xt) `bq (show `g7 `dT X.w _ _ _ `Nn from #[hz,its,r',`Tw])
  exact#[`ag `c!,_,I2,rfl,q _ (`FI)]
 ·apply `amG
  done;exact call_tuple_same pl (`lH `g0 q)
def tyV(K:`C)(T:`da)(x:V)(H:Hp):Prop:=match x with
 | `co=>T = `jT
 | `cZ=>T = `jU
 | `g0=>(T = `eV/\∃xs,`ae3)∨(T = `dg/\∃o,`hq p=`aF/\`Gn/\`yp) ∨
   (T = `ij/\((∃kvs,`aja)∨∃kvs,H p=`amH))∨(T = `kQ/\∃S n,H p=`c (.set S n))
 | _=>`cx
def Mr0{σ:St}{s:`v}{T:`da}{x:V}{v:`A}(I:`B)(r:`jP)(ty:tyV X.K T x H):
  `rV v T/\∀a,`aay->∃ob,`B7=`OT/\`aTT:=by
 skip;cases x with
 | str z=>
  apply `iA;cases (show T = `jT from ty);done;exact#[g7 s z t,λ_ e=>nomatch e]
 | int i=>
  apply `iA;cases (show T = `jU from ty);done;exact#[X0 s i t,λ_ e=>nomatch e]
 | ref p=>
  cases r;rcases ty with⟨rfl,xs,hq⟩|⟨rfl,o,hk,hc,hd⟩|⟨rfl,hk⟩|⟨rfl,S,n,hk⟩
  ·let#[its,_,pl,_]:=`sj
   done;refine#[`aTv,λa e=>?_];skip;cases e;let#[o,n,e,c,hd,_]:=pl;done;exact#[o,e,hd]
  ·done;refine#[#[o,`kj p o hk,hc],λa e=>?_]
   cases e;exact#[o,`kj _ o hk,hd]
  ·have z:∃o,`fO p=`aF/\`ajX:=by
    rcases hk with⟨kvs,hk⟩|⟨kvs,hk⟩
    ·skip;apply `aTU
     done;exact`aTV
    ·skip;apply `aTU
     done;exact`aTV
   let#[o,e,ex]:=z;done;apply `aTW;cases e2;exact`aTX
  ·let#[o,_,_,_,e,ex,_]:=`aF5
   done;apply `aTW;cases e2;exact`aTX
 | _=>done;exact `fM ty
def vv1(K:`C)(T:`da)(r:`jS)(to:TE):TE:=`tS to (`aTY/\r x [] H1 Q)
def tBM(K:`C)(T:`da)(r:`jS)(to:TE)(t:TA):TE:=`tS to (`aTY/\t σ H1 λxs H2=>r x xs H2 Q)
variable{to:TE}{t:TA}{T id:`da}{r:`jS}
def Mk0(pa:PlainAttrs T)(slot:`aTZ)(hty:`amI)(hm:`amJ)(ho:`ak4)
  (hbase:`amK) (hline:`gO):PE X (`tA `amL []) (vv1 X.K T r to):=by
 apply `a';refine wpAny_Call_method0_late `jx `jy (thn `EG λv s1 hq47=>?_);skip;let#[x,H1,I1,r1,ty,q1]:=hq47;let#[h1,h2]:=Mr0 I1 r1 ty;done;exact`aT_ (y9 rfl (PySem.evalArgs_none (hm `z s1 σ H1 x [] v [] Q I1 r1 `ah q1)))
def jj0(pa:PlainAttrs T)(slot:`aTZ)(hty:`amI)(hm:`amJ)(ho:`ak4)(ha:`yT)
  (hbase:`amK)
  (hfew:`H ((`KR (`u7 `_?)
  &&`acl `amM)=`d) Aa)
  (hline:`gO) (hs:`d9) (hplain:`H (`aT0=`q) Aa):
  PE X (`tA `amL `gl) (tBM X.K T r to t):=by
 apply `a';refine wpAny_Call_method_late `jx hfew `jy rfl (thn `EG λv s1 hq48=>?_);skip;let#[x,H1,I1,r1,ty,q1]:=hq48;let#[h1,h2]:=Mr0 I1 r1 ty;done;refine`aT_ ?_;have hA:=ha `oe `z s1 σ H1 _ I1 q1;rw[hs] at hA ⊢;refine y9 (by show (`q||`aT0)=`q;rw[`sY]<;>rfl) (E20 ?_);exact thn hA λus s2 #[vs,H2,I2,r2,q2]=>hm `z s2 σ H2 x vs v us Q I2 r1 r2 q2
omit z
def MtM(X:Cx)(id:`da)(r:`jS):Prop:=
 ∀(pins:`aN) (s:`v) (σ:St) (H:Hp) (x:V) (xs:`P) (v:`A) (us:`am) (Q:VK),`B->`jP->`eq->`aTm ->
  `aTn
def Vals.one:∀{x:V} {us:`am},`aRc->`aRd:=by
 intro x us h
 cases h with
 | cons r t=>cases t;exact`Sd
def Vals.two:∀{x y:V} {us:`am},`b_ `Mh us->∃u v,us=[u,v]/\`ip/\`dw y v:=by
 intro x y us h
 cases h with
 | cons r t=>cases t with
  | cons q t=>cases t;exact`hD r q
def Vals.zero:∀{us:`am},`b_ [] us->us=[]:=by
 intro us h;cases h;rfl
def Vals.dropLast(h:`eq):`b_ `acV us.dropLast:=by
 induction h with
 | nil=>exact `ah
 | cons r t ih=>
  cases t with
  | nil=>exact `ah
  | cons q t'=>exact `Gl
def Vals.reverse(h:`eq):`b_ `ab_ us.reverse:=by
 induction h with
 | nil=>exact `ah
 | cons r t ih=>rw[`eP,`eP];exact `aT1 ih (`aE r `ah)
def Vals.rep(h:`eq):∀k:Nat,`b_ `aT2 (`d2 k us):=by
 intro z;induction z with
 | zero=>exact `ah
 | succ k ih=>rw[`ex,`ex,`jV,`jV];exact `aT1 h (ih)
def Po0(l:`aV):l.eraseIdx (`aC - 1)=`aT3:=(List.eraseIdx_length_sub_one)
theorem foldl_rep(its:`am):∀(k:Nat) (acc:`am),
  List.foldl (λx1 x2=>x1++x2) `aT4 (`cr k `bj)=(`hr (acc++`aT5))
 | 0,acc=>`a_
 | k+1,acc=>by
  have e:`aT4++`bj=(`hr `amN):=`a_
  have e2:(`amN)++`aT5=acc++(`d2 `fZ its):=by
   rw[`ex,`jV,`be]
  rw[← e2,← `aGT its k (`amN),← e,`ex,`G7]
section
variable{σ:St}{s:`v}{l b:`f}{ys zs:`P}
def Inv.lset{its its':`am}{n:Nat}{f:`aO->`aO}{t':Nat}(I:`B)(hH:`Pi)
  (e:`fO l=`Sf) (hf:f `bj=its'.toArray) (hv:`b_ ys its') (hz:`TP):
  `GU l `Da ((`fC (`amO l (`s0 f)) t')):=by
 have q:=PySem.IsL.update e f;rw[hf] at q;refine `alW (x:=l) (e:=l) (`k hH `sl) `gY (λb' u hb hu=>(k8 `aY (`s0 f) (C1 hb)).trans hu) #[_,q] ?_;exact#[hz,its',_,hv,q]
def Inv.lnew{its:`am}{t':Nat}(I:`B)(hv:`aTP)(hz:`TP):
  `aW (`BV `Da) ((`fC (`kz (`e? `h_ `aTS)) t')):=(
 `oM `aer `bq #[hz,its,0,hv,`e7])
def Inv.fresh(I:`B):`aBL:=(`L')
def Inv.lstM(I:`B)(hH:`Pi):`ajT (`aB=`ne/\`fO l=`Sf):=by
 let#[z,its,n,r,e]:=`bT l _ hH;exact#[z,its,n,r,`a2,e]
def Hd0(h:`G8):`TR n=`q:=by
 apply `aT6;exact `TD
omit z
def Dr0:`jS:=`aT7 [y] (`aB<`R/\`Nc `y (`m (xs++[y])))
def jd0:MtM X `aT8 Dr0:=by
 apply `TS;skip;let#[l,xs,y,rfl,rfl,hH,hz,q]:=h;cases rx;apply `amP;apply `amQ;done;refine L4 F.slot_list_append `amR F.entry_list_append (F.args_list_append_2 _ _) (PySem.list_append l `bj n u `TT) `aT9;refine`aT' [u] (`aE ru `ah);apply `r0;lia
def vp1:`jS:=`aT7 [] (xs[`aB - 1]?=`g5/\`Nc y `amS)
def L60:MtM X "list.pop" vp1:=by
 apply `TS;skip;let#[l,xs,y,rfl,rfl,hH,hy,q]:=h;cases rx;have J:=rv.zero;subst J;apply `amQ;let#[u,hu,ru]:=`nB hy;have M:`bj[`hp - 1]?=`bS:=by
  show `bj[`ne - 1]?=`bS;rw[← `F1,← hl];exact hu
 done;refine L4 F.slot_list_pop `amR F.entry_list_pop (F.args_list_pop_1 _) (MeetsSeq.list_pop_last l `bj n u M (`Q2 `cm)) `aT9;refine#[y,_,I.lset (its':=its.dropLast) hH e ?_ r.dropLast ?_,ru,q]
 ·show its.toArray.eraseIdxIfInBounds (`hp - 1)=its.dropLast.toArray
  rw[`cm,List.eraseIdxIfInBounds_toArray,Po0]
 ·rw[`aT!]
  omega
def len_rep(xs:`aV)(k:Nat):(`aF6).flatten.length=k*`aB:=by
 induction k with
 | zero=>simp
 | succ k ih=>rw[`ex,`jV,`S,ih,`amT,Nat.add_comm]
omit L2
namespace Att
open PySem.W PySem.Calls PyProof.Rows
def Zd0{P:`G9}{h:`aa}:∀(ns:`ai) (vs:`am),WellAll P h vs (`vW WData.int)->`G':=by
 intro ns
 induction ns with
 | nil=>
  intro vs w;rw[`hE] at w;cases w;exact `ah
 | cons n ns ih=>
  intro vs w;rw[`J] at w;cases w with
  | cons a b=>
   cases a;exact `aE _ _ (ih _ b)
def J10{l:`amU}(hn:`amV){P:`G9}{h:`aa}{args:`aT?}{vals:`am}
  (hpre:l.row.toRowW.claim.pre args=`d) (hwl:WellAll P h vals args):
  ∃a vs ns,vals=[`oj]/\args=[WData.list (`vW WData.int)]/\`jd=`c `PW/\`G'/\`TU:=by
 skip;have M:WShape.hasAll [] args [.list `h]=`d:=(`aUa).1;have hc:l.pre.holds [] { args:=args }=`d:=(`aUa).2;let#[d,r,rfl,h1,h2]:=hasAllW_cons M;obtain rfl:=hasAllW_nil h2;let#[xs,rfl,h3]:=hasW_list h1;let#[ns,rfl]:=items_int h3;have J:`TU:=by
  delta OpenLaw.pre at hc;have h4:(WTm.not (.lt (.lit `Bj) (.len (.arg 0)))).holds [] { args:=[`amW] }=`d:=by
   have h4:=(holds_andW hc).1;rw[hn] at h4;exact h4
  have h5:=condW_of h4 (w_not (w_lt w_lit (w_len_list (w_arg rfl))));rw[`x] at h5;refine Nat.le_of_not_lt λq=>?_
  have q':`bm<((`jf:Nat):Int):=`ch
  first
   | (rw[`bn q'] at h5;exact `K h5 `E)
   | (simp at h5;omega)
 cases hwl with
 | cons w1 w2=>
  cases w2;cases w1 with
  | list ho hall=>done;exact#[_,_,ns,rfl,rfl,ho,Zd0 ns _ hall,J]
def Lp0(l:`amU)(args:`aT?):l.row.toRowW.claim.post args `F' args=`d:=(
 postW_of (r:=`amX) (X:=`aUb)
  (show `aUc [] `F' `gA=`d by first|rfl|decide|simp[`aUc,WShape.arms,WShape.armsAll])
  (show (WTm.eq .res (.lit `F')).value [] { args:=args,res:=`c `F',after:=args }=`c (`gA `aUb) from w_eq_bool (w_res rfl) w_lit) rfl)
omit Att
open Y
theorem Xd0:∀{vs:`am} {ns:`ai},`G'->`b_ `xv vs
 | _,_,`ah=>`ah
 | _,_,`aE n t h=>`aE `G! (Xd0 h)
def wv0(s:`a0):`Tj:=match s with
 | `amY a _ _=>a
 | _=>{ posonlyargs:=[],args:=[],vararg:=`g,kwonlyargs:=[],kw_defaults:=[],kwarg:=`g,defaults:=[] }
def xx0(s:`a0):`d8:=match s with
 | `amY _ b _=>b
 | _=>[]
def n6(s:`a0):`ev:=match s with
 | `amY _ _ sc=>sc
 | _=>{ kind:=`sF,names:=[],isGenerator:=`q,isCoroutine:=`q }
abbrev CX0:CXT:=λ_ _ _ _ _ _=>`cx
abbrev E0:XK:=`xw
def lj0:kh0 CX0 X E0:=(λ_ _ _ _ _ _ _ h=>`rR)
structure Fun(K:`C)(x qual:Str)(st:`a0)(f:`f)(fd:`f0):Prop where
 ex:∃(oc:`A) (od:`cY) (kV doc pm:`A) (an:`cY) (cdv ct:`A) (osl:`hz),
  fd=`TV/\`aUd
 kp:`qc
section
variable{P:`av}{w:`T}
def Fun.ok{st:`a0}{f:`f}{N ps:`e}{k:Nat}(F:`aUe)(S:`qg)(len:`S?)
  (hbody:∀(cdv:`A) (A:`aq) (outer:`f6) (s:`v) (H:Hp) (vs:`P) (Q:VK) (E:XK),`aUf->`v3 ->
   `aUg):`aUh:=by
 skip;apply `amZ;done;apply `aUi
 apply `aUj;exact`aUk
def Fun.binds{st:`a0}{f:`f}{ps:`e}(F:`aUe)
  (h:∀(kV doc pm:`A) (an:`cY) (cdv ct:`A) (us:`am),`al6->`sM (`TV) `GX=`aRZ):`Gj:=by
 skip;apply `amZ;done;exact .all (h kV doc pm an cdv ct)
def Se0{st:`a0}{f:`f}{kV:`A}(l:`G_ (`TV))
  (c:`Pk) (k:`qc):Fun K x `fK st f (`TV):=(`aUl)
omit z
def v9{A:`aq}{k:Nat}(hr:`GW):`y3:=(A2 (A3 (`a5:1<=64) _) `r5)
structure Same(H H':Hp):Prop where
 old:`aUm
 nf:∀b o xs,`aUn
instance{H H':Hp}:`fr `bI `aUm:=#[Same.old]
def Same.refl(H:Hp):`cP H H:=(#[λ_ _ h=>h,λ_ _ _ h=>h])
def Same.trans(a:`cP H H1)(b:`TW):`cP H H2:=(#[λc o h=>b c o (a c o h),λc o xs h=>a.nf c o xs (b.nf c o xs h)])
def Same.free(e:`bI){l:`f}(h:H' l=`aUo):H l=`aUo:=by
 cases q:H l with
 | none=>rfl
 | some o=>
  rw[e l o q] at h;cases h
def Its(x:Str):It:=#[λi _=>i<`G?,λi H v H'=>H'=H/\∃c,`am_=`eX/\v=`oN,λi _=>`G?<=i]
theorem U80{P:`av}{w:`T}{K:`C}{tg:`G}(it:`f)(T:`da)(hT:T = `aUp∨T = `aUq)(x:Str)(t:Tok):
  `SR (Its x) (h.IsStrIter it T x t i) where
 mem:=`a_
 obj:=λi h st b hb=>by
  apply `Gv
  subst e;apply `alk;apply `all
 keep:=λi h h' st k=>by
  let#[o,e,r]:=st;exact#[o,`aFs,r]
 item:=by
  apply `lO;skip;apply `lP;have O:i<`G?:=hg;have hx:`am_=`c x.cps[i]:=by simp[O]
  apply `p?;have fin:∀h',h'.IsStrIter it T x t `dn->`D6 it ->
    ∃u,(`c (`w0 `aUr `b?))=`bS/\`aP `eD X.A `ale (λ_ s2=>∃x_1 H',`alf/\`dw x_1 u/\(Its x).yld i H x_1 H'/\s2.heap.IsStrIter it T x t `dn/\∀b∈[it],`w4) E `TX:=by
   intro h' J sb;have I1:`aW H `TX:=`adW `ain f0 f1 f3 f4 f5;apply `alp;refine`qa (Vf0 (s:=`TX) (n:=T) e c d (`aBg hT) #[`p `aUr,H,I1,`al,#[rfl,_,hx,rfl],J,`aeM])
  rcases hT with rfl|rfl
  ·done;exact wpAny_pyNext_ascii_item st hx `aUs
  ·done;exact wpAny_pyNext_wide_item st hx `aUs
 done:=by
  apply `lO;skip;apply `lP;have M:`G?<=i:=hg;have hx:`am_=`g:=`aHt
  apply `p?;rcases hT with rfl|rfl
  ·done;exact wpAny_pyNext_ascii_end `lN st hx `GJ
  ·done;exact wpAny_pyNext_wide_end `lN st hx `GJ
 self:=λ_ _ _ _ _ st h=>by
  rcases hT with rfl|rfl
  ·exact wpAny_pyIter_striter_ascii st h
  ·exact wpAny_pyIter_striter_wide st h
def vw1(te:TE):TI:=`GL te λv H1=>∃x,`TY/\R (Its x) H1
def yc1(he:`eS):PI X tg e (vw1 te):=by
 apply `yz;refine thn `hs λv s1 hq49=>?_;skip;let#[y,H1,I1,r1,q1]:=hq49
 let#[x,rfl,q]:=q1;apply `ak?;have fp:∀(o:Obj),∀b∈`aeN,`Md H1:=λo b hb=>by
  have e:b=`mZ:=`vB
  subst e;apply `GK
 cases ha:x.cps.all (·<128) with
 | true=>
  done;exact `aUt wpAny_pyIter_ascii `aUp `gY
 | false=>
  done;exact `aUt wpAny_pyIter_wide `aUq `TQ
def xd0(X:Cx)(scope:`ev)(cl:`qh)(N':`e)(s:`v)(H:Hp)(ex:`aw):Cx:=
 { X with N:=N',s₀:=s,H₀:=H,env:=compEnvC `ef cl `L `N,outer:=`h0,ex:=ex,fn:=λ_=>`q,pn:=[],xe:=`KZ }
structure CompOk(sc scope:`ev)(N N':`e)(n:Nat)(caps:`j):Prop where
 kind:`aUu
 nocell:∀y∈`ht,`aUv
 loc:∀y∈`ht,`aUw
 free:∀y∈`ht,`aUx
 nd:N'.Nodup
 len:`am0=n+`xb
 cap:∀k∈`aUy,`aUz
def us0(n:Nat)(caps:`j)(σ:St):St:=`cr n `g++`aUA
def Mz0(n:Nat)(caps:`j)(σ:St):`aUB=n+`xb:=`en us0
def ke0{env:Env}:∀(names:`ao (`am1)),(∀x∈`qi,`aUC)->∀acc:`qh,
  ∃cl:`qh,(`Em `qi acc (λ(x:`am1) (cs:`qh)=>if (x.2==`kc)=`d then do let a ← cellOf env x.1;`bD (`R7 ((x.1,a)::cs)) else `bD (`R7 cs)):Sem (`qh))=`bD cl /\
   (∀y c,`am2->`aUD∨`aUE)/\(∀x∈`qi,`am3)/\(∀y c,`aUE->∃c',`NE y=`c c'):=by
 intro z;induction z with
 | nil=>intro _ acc;exact#[acc,rfl,λ_ _ h=>`u h,(λ_ h=>nomatch h),λ_ c h=>#[c,h]]
 | cons zp r ih=>
  let#[n,k]:=zp
  intro h acc
  skip;cases hk:(`ad9) with
  | true=>
   have hk':k=`kc:=`a7 hk
   let#[c,hc]:=h `Dm A8 hk';let#[cl,e,h1,h2,h3]:=ih (`Ha) ((n,c)::acc);done;refine#[cl,?_,`aUF,`aUG,`aUF]
   ·rw[`afY]
    simp only[hk,`qd,cellOf,hc,pure_bind];exact e
   ·rcases h1 y d hy with z|z
    ·exact `hd
    ·rw[`gP] at z
     cases q:(y==n) with
     | true=>
      rw[q] at z;cases z;have:y=n:=`SW
      subst this;exact `n hc
     | false=>
      rw[q] at z;exact `u z
   ·apply `y4
    ·exact h3 n c (`en `gP)
    ·exact `aUH
   ·by_cases q:y=n
    ·subst q
     exact h3 y c (`en `gP)
    ·refine h3 y d ?_
     have:(y==n)=`q:=`SW
     rw[`gP,`w];exact hy
  | false=>
   let#[cl,e,h1,h2,h3]:=ih (`Ha) acc;done;refine#[cl,?_,h1,`aUG,h3]
   ·rw[`afY]
    simp only[hk,`qj,`mw,pure_bind];exact e
   ·apply `y4
    ·have:k=`kc:=hf
     rw[`w] at hk;exact `K hk `E
    ·exact `aUH
def j90{env:Env}(h:∀x∈`ht,`aUC):
  ∃cl:`qh,`PZ `ef env=`bD cl/\(∀y c,`am2->`aUD)/\∀x∈`ht,`am3:=by
 let#[cl,e,h1,h2,_]:=ke0 `ht h [];refine#[cl,?_,λy c hy=>(h1 y c hy).elim id `g4,h2];apply `aM `PZ;rw[← bind_pure (`Em _ _ _)] at e
 first
  | exact e
  | (refine `am4 ?_ e;rfl)
theorem nm0{env:Env}:∀(names:`ao (`am1)) (x:Str),
  (`Mb `am5).lookup x =
   (names.lookup x).map λk=>`aF'
 | [],_=>rfl
 | `Dm::r,x=>by
  have ih:=@nm0 env r x;have l1:`lp x ((`Dm::r).map `am5) =
    `lp x ((`D `aUI (n,`Dl) `Dm)::`r1 `am5):=rfl
  rw[l1,`gP (as:=r)]
  by_cases hc:`aUI
  ·rw[`am6,`gP]
   cases hx:x==n with
   | true=>
    have e:x=n:=`aUJ
    subst e;show `c `Dl=`aUK;rw[`am6]
   | false=>exact ih
  ·rw[`y5,`gP]
   cases hx:x==n with
   | true=>
    have e:x=n:=`aUJ
    subst e;show `f_=`aUK;rw[`y5]
   | false=>exact ih
section
variable{w:`T}{A:`aq}{R:`nw}{s:`v}
def T50{elt target iter:`G}{ifs:`d3}{scope:`ev}{pos:Pos}{it acc:`A}{env:Env}(I:`TZ)
  (turn:∀n s,I n s->`aP `dZ A (`ad1 it) (λr s₁=>match r with
   | `g=>R `aUL `gF
   | `aX=>`aP `dZ A (`aKb `RN it v) (λ_ s₁'=>`aP `dZ A (`ie `RN env v) (λ_ s₂=>
     `aP `dZ A (`aUM (`Oy c env (`cs c env))) (λok s₃=>
      if ok=`d then `aP `dZ A (`cs elt env) (λx s₄=>
       `aP `dZ A (`f1 (`cW `aT8) [acc,x]) (λ_ s₅=>∃m,m<n/\I m s₅) `qk s₄) `qk s₃
      else ∃m,m<n/\I m s₃) `qk s₂) `qk s₁') `qk `gF) `qk s)
  (n:Nat) (h:I n s):
  `F9 (.compLoop `aUN 0 it acc env) s:=by
 refine codeAny_loop rfl I (λn s hI=>?_) n h;show `aP _ A ((compTurn `aUN 0 it acc env).onRaise (λx=>do noteFrame x env;theTreesLotGoes x)) _ _ s;refine wpAny_noted ?_;rw[compTurn_list];refine A1 (C70 (`y6 (turn n s hI) λr s₁ h₁=>?_));cases r with
 | none=>exact A5 h₁
 | some v=>
  refine `y6 h₁ λ_ s₁' J=>?_;refine `y6 J λ_ s₂ h₂=>`y6 h₂ λok s₃ h₃=>?_;cases ok with
  | false=>exact A5 #[rfl,h₃]
  | true=>
   exact A1 (`y6 h₃ λx s₄ h₄=>`y6 h₄ λ_ s₅ h₅=>A5 (A5 #[rfl,h₅]))
omit z
def PF(X:Cx)(ifs:`d3)(t:TT):Prop:=
 ∀(pins:`aN) (s:`v) (σ:St) (H:Hp) (Q:`Gy),`B->`rT ->
  `dt (`aUM (`Oy c `N (`cs c `N))) `akJ
def zi1:PF X [] λ_ H Q=>Q `d H:=(`tM (wpAny_tests_nil #[H,I,h]))
def Bx0{c:`G}{t:TT}(h:PT X c t):PF X [c] t:=(λpins s σ H Q I q=>wpAny_tests_one (`di h Q q))
def Wk(σ σ':St):Prop:=`akB/\∀(j:Nat) (v:V),`am7->σ'[j]?=`v_
def Nl0(n:Nat)(caps:`j)(wi:TI)(g:TG)(tt:TT)(te:TE):TE:=fun σ H Q=>wi σ H λJ H1=>∀D,H1 D=`g ->
 ∃W:`am8,(`aUO H1)/\∀i m ys H2,`am9 ->
  `aUP∨(J.go i H2/\∀x H3,`aUQ->g x `hv H3 fun σ4 H4=>`aUR/\tt σ4 H4 λb H5=>
   `aUS)
section
variable{wi:TI}{g:TG}{tt:TT}
def wp1(X:Cx)(pins:`aN)(H:Hp)(C:`f):Prop:=
 H C=`g/\C≠`gu/\`tu<=C/\(`OE C)/\∀p∈`Ox,p.1≠C
def Xi0{pins:`aN}{σ:St}{H2:Hp}{s2:`v}{it:`f}{fp:`aw}{tn:`alb}{J:It}{cl:`qh}{Q:VK}{RR:`A->`f->`nw}{E:`aK}
  (hc:`dV) (hsc:`rk) (ok:`y7)
  (hcl1:∀y c,`am2->`aOo) (hcl2:∀x∈`ht,`am3)
  (hg:∀s H ex,`aGb) (ht:∀s H ex,`aGc) (he:∀s H ex,`aGd)
  (I2:`aQL) (T:`aP6) (st2:`aP7) (f2:∀b∈fp,`Md H2)
  (q:∀D,H2 D=`g->∃W:`am8,(`aUO H2)/\∀i m ys H2,`am9 ->
   `aUP∨(J.go i H2/\∀x H3,`aUQ->g x `hv H3 fun σ4 H4=>`aUR/\tt σ4 H4 λb H5=>
    `aUS))
  (hend:∀(D C:`f) (H':Hp) (s':`v) (m:`cd),`p6->wp1 X `z H' C->s'.heap.Ns C m->Q `tz H'->RR `tz C `aUL s'):
  `aP `eD X.A (`am') (λacc s₃=>`aP `eD X.A (newFunctionEnv `ef `akf cl [] `aEm `g `a8 (`c `N)) (λcenv s₄=>
   `mH `eD X.A (.compStart `oO 0 `w6 acc { cenv with scope:=`aA_ }) (RR acc cenv.locals) s₄) E s₃) E s2:=by
 refine P7 (`aUT ok.nocell (by intro y hy;simp at hy) (λh₁ Z Y=>?_) `Eg);dsimp only at Z Y ⊢;obtain⟨D,hD⟩:∃D,D=`t0:=`al;have I3:`aW (upd H2 `t0 `q3) `aUU:=I2.lnew (its:=[]) (t':=`xd) `ah `s2;have c6:H2 `t0=`g:=I2.fresh;let#[W,#[m0,w0],b4]:=q `t0 c6;generalize hs3:(`aUU:`v)=s3 at *;have a8:`aeh `Dc=s3.heap:=`T_
 have i9:`xd=s3.toks:=`T_
 rw[a8] at Z Y ⊢;generalize hH3:upd H2 `t0 (HO.lst [])=H3 at *;rw[← hD] at b4 hH3 c6 ⊢;have old:∀b o,`aUV->`T0:=`hZ (`T1 b o `SL `Hb)
 have b5:∀b o,s2.heap.get? b=`aF->`aUV:=`hZ (`bk a8 `vi)
 have d4:∀b∈fp,b<`tZ:=λb hb=>by
  apply `aUW;exact B6 `aUX
 have f5:∀b∈fp,b≠D:=λb hb z=>by
  apply `aUW;rw[z,hD] at e;exact `aUY
 obtain⟨X',M⟩:∃X',X'=`aUZ:=`al;have h8:X'.Ok:=by
  subst M;refine#[I3.ok.mod,`Eg,I3.ok.glob,I3.ok.blt,`fA,λx y c h1 h2=>I3.ok.inj x y c (hcl1 x c h1) (hcl1 y c h2),`iE,λx c h _=>`K h (`en xd0),I3.ok.hd,I3.ok.frames,`mi,
   λb hb=>#[`aU_,`aU0],`hZ (I3.bs b o e),C3 I3.ok.bsz I3.sz,λb o e hb=>?_,λb hb hf=>?_,I3.stack,I3.stkFree]
  ·have a4:(`En=`ib)∨(`En=`jv):=hx
   have q2:=nm0 (env:=`N) `ht x;have q3:`aU1:=q2
   cases e:`rK x with
   | none=>
    rw[q3,e] at a4;rcases a4 with z|z<;>cases z
   | some k=>
    have hk:k=`kc:=by
     rw[q3,e] at a4;have nc:=ok.nocell (x,k) (N4 e);cases k<;>first
      | rfl
      | exact `K rfl nc
      | (rcases a4 with z|z<;>simp at z)
    subst hk;exact hcl2 `T2 (N4 e) rfl
  ·rcases `aU2 with z|z
   ·exact I3.ok.noex b o e z
   ·exact `p3 (B6 (I3.ok.bs b o e).1) z
  ·apply `aU3
   ·exact`am! z
   ·exact(`m_).2.2.1 z
 have I4:Inv X' [] `hv H3 `aU4:=by
  refine#[h8,?_,?_,?_,?_,`Ss,?_,`Ss,`lK,(`RB (I3.hok.kept old)),?_]
  ·subst M;rfl
  ·exact I3.bare
  ·subst M;exact `Gs old
  ·subst M
   refine#[_,Z,`aOJ];skip;have hi:n<=i:=by
    by_cases hi:i<n
    ·delta us0 at e2
     rw[`Ti,`tW,`I hi] at e2;cases e2
    ·lia
   obtain⟨k,rfl⟩:∃k,i=n+k:=#[i - n,`U];have hk:k<`xb:=by
    have:=(`c9 e1).1;have e5:(`aUZ).N.length=n+`xb:=ok.len;lia
   let#[c1,c2]:=ok.cap k (`kr hk);have d3:`ae9=`c4:=e1;delta us0 at e2;rw[`vp `az,`GZ,`T3,`cH] at e2;obtain⟨j,hj⟩:∃j,`dF[k]?=`Tz:=#[`dF[k],by simp[hk]];rw[hj] at e2 c1;have i0:X.N[j]?=`c4:=by rw[← d3,c1];rfl
   have a3:`ae!=`aX:=B4 e2;have e7:`am7:=by
    cases q:`wi with
    | none=>rw[q] at a3;cases a3
    | some o=>rw[q] at a3;rw[show o=`aX from a3]
   rw[d3] at c2;have O:`rK x=`jv:=`a7 c2
   have b3:=ok.free `T2 (N4 O) rfl;let#[m,hn,hl]:=I3.loc;let#[u,ru,l]:=hl j x v i0 e7 (by
    rcases b3 with z|z
    ·apply `nC `aU5
    ·apply `fs `aU5)
   done;refine#[u,ru,`u `am?]
   ·have q3:`aU1:=nm0 `ht x
    rw[O] at q3;show `En=_∨`En=_;rw[q3]
    by_cases hcc:(`Nd==`Nd&&`aF?&&`aGa)=`d
    ·left;simp only[`my,`I hcc]
    ·right;simp only[`my,`ap hcc]
   ·skip;let#[c',d1]:=hcl2 `T2 (N4 O) rfl
    rcases l with⟨f0,_⟩|⟨_,c,f6,b6⟩
    ·have b2:`uV=`i2:=f0
     rw[hsc] at b2;done;rcases b3 with z|z<;>(rw[b2] at z;cases z)
    ·have:=hcl1 x c' d1
     apply `ay f6;cases `w;let#[o,ho,hd]:=b6;done;exact#[_,d1,o,`aU6,hd]
  ·apply `aU7
   let#[v,o,ho,hd]:=I3.cell x c (hcl1 x c e');exact#[v,o,`aU6,hd]
  ·subst M;exact I3.hok.fresh `bq
  ·apply `aU7
   exact I3.freeC x c (hcl1 x c e')
  ·subst M;exact `aU8
  ·subst M
   show _=`am0;rw[Mz0,ok.len]
 have a7:X'.calm=`d:=`RB hc
 have a2:`aQH (m10 X' [] H' b):=λ{H'} hn b hb=>by
  subst M;refine#[hn b hb,`aU_,λhf=>?_,`n hb,`aU0,λp hp=>`aU8];apply `aU3
  ·exact`am! z
  ·exact(`m_).2.2.1 z
 have g3:∀b∈fp,H3 b=`g:=λb hb=>by rw[← hH3,zi0 (f5 b hb)];exact(`m_).1
 have c3:tn 0 h₁:=`alz st2 (old b o `aUX)
 have loop:∀s4:`v,s4=`aU4 ->
   `mH `eD X.A (.compLoop `oO 0 `w6 `tz X'.env) (RR `tz `tZ) s4:=by
  rintro s4 rfl;refine T50 (λk s'=>∃i ys H',Inv X' [] `hv H' s'/\`aQI/\`SX k ys) ?_ m0 #[0,[],H3,I4,c3,g3,w0];rintro k s5 ⟨i,ys,H5,I5,b7,d2,w5⟩;have eP:X'.prog=`dT:=`Hc
  have ew:X'.w=X.w:=`Hc
  have eK:X'.K=X.K:=`Hc
  have eA:X'.A=X.A:=`Hc
  rcases b4 i k ys H5 w5 with⟨stop,qe⟩|⟨go,step⟩
  ·have T':=T.done X' eP ew eK a7 i [] s5 `hv H5 `qk I5 (a2 d2) b7 stop
   rw[eA] at T';refine thn T' λr s6 hq50=>?_;let#[hr,I6]:=hq50
   subst hr;have f1:Un (`yt) fp H3 H5 s3.heap s6.heap:=`T4 I6.base
   have f9:s6.os=s3.os:=`T4 I6.os
   have e6:`mX H5 s6.heap:=`T4 I6.hok
   have IX:`aW H5 s6:=I3.call' f9 f1 e6 I6.bare λb hb=>#[`aU2,`am!,`aF!,(`m_).2.2.2.2.2]
   let#[m6,h3,_]:=I6.loc;have e9:s6.heap.Ns `tZ m6:=`RB h3
   refine hend D `tZ H5 s6 m6 IX #[`T4 I6.free,D0 I3.lt,I3.sz,`aP0,`aP1] e9 qe
   ·let#[v,qc]:=I3.cell x c e
    exact `p3 qc.lt `aU9
   ·exact `p3 (B6 (I3.pin p hp).1) `aU9
  ·have T':=T.item X' eP ew eK a7 i [] s5 `hv H5 `qk I5 (a2 d2) b7 go
   rw[eA] at T';refine thn T' λr s6 hq51=>?_;let#[u,hr,h6]:=hq51
   subst hr;refine thn h6 λ_ s7 hq52=>?_;skip;let#[x,H7,I7,r7,y7,b1,f7]:=hq52
   have f3:=I7.pinned (a2 f7) (`FW _ _ b1);have c9:=hg s3 H3 fp;have c5:=ht s3 H3 fp;have c4:=he s3 H3 fp;rw[← M] at c9 c5 c4;have g1:=c9 _ s7 `hv H7 x u _ f3 r7 (step x H7 y7);rw[eP,ew,eA] at g1;have a5:X'.xe=`KZ:=`Hc
   rw[a5] at g1;done;refine thn g1 λ_ s8 hq53=>?_;let#[σ8,H8,I8,a6,q8]:=hq53
   have t1:=c5 _ s8 σ8 H8 _ I8 q8;rw[eP,ew,eA,a5] at t1;refine thn t1 λb s9 hq54=>?_;let#[H9,I9,q9]:=hq54
   have back:∀{σa:St} {Ha:Hp} {sa:`v} {b0:`P} {ma:Nat},Inv X' ([]++es0 fp s7.heap) σa Ha sa->σa.length=`aUB->(∀(j:Nat) v,`hv[j]?=`v_->σa[j]?=`v_)->W `dn ma b0 Ha ->
     ∃i ys H',Inv X' [] `hv H' sa/\tn i sa.heap/\`SX ma ys:=λ{σa Ha sa b0 ma} Ia hl hw wa=>by
    refine#[i+1,b0,Ha,(Ia.weak hl.symm hw).unpinned,`alz b1 (`aU').1,`ju,wa];let#[o,e,d]:=`FW _ _ b1 b hb;exact(`aU').2.1
   cases b with
   | false=>
    rw[`p'];rw[`p'] at q9;let#[m',hm,w9]:=q9;exact#[m',hm,back I9 a6.1 a6.2 w9]
   | true=>
    rw[`a4];rw[`a4] at q9;have e1:=c4 _ s9 σ8 H9 _ I9 q9;rw[eP,ew,eA,a5] at e1;refine thn e1 λv f4 hq55=>?_;skip;let#[y,h4,g6,h0,e8,e4,m',hm,h5]:=hq55
    have a1:=jd0 (X:=X') _ f4 σ8 h4 `tz [y] `tz [v] (λ_ H'=>W `dn m' `xc H') g6 rfl (`aE h0 `ah) #[D,ys,y,rfl,rfl,e8,e4,h5];rw[eP,ew,eA,a5] at a1;done;refine thn a1 λ_ j2 hq56=>?_;let#[_,j1,h7,_,g4]:=hq56
    exact#[m',hm,back h7 a6.1 a6.2 g4]
 subst M;exact codeAny_compStart_list (loop _ (`T_)) (T.self X.A 0 _ _ _ c3 (loop _ (`T_)))
def Qi0(hc:`dV)(hsc:`rk)(ok:`y7)(hi:`alw)
  (hg:`aU!) (ht:`aU?) (he:`aVa)
  (hs:`f8):
  PE X `oO (Nl0 n `dF wi g tt te):=by
 apply `a';let#[cl,M,Y,O]:=j90 (env:=`N) (scope:=`ef) λx hx hf=>`SB x.1 (by
  rcases ok.free x hx hf with z|z
  ·apply `aVb
  ·apply `aVc)
 rw[eval_ListComp];refine tk0 (use:=`g) rfl hs M `Eg ok.loc (`SH `GM λa2 s2 h2=>?_);skip;apply `aVd;done;refine `aVe Q `g `f7;intro D C H' s' m IX as hn qe;refine#[m,hn,λh' sb=>#[`ag D,H',`aVf IX.turned s'.toks `ain,rfl,qe]]
def Pd0{py spos:Pos}(hN:`fp)(hiN:`aA9)(hy:`aAk)(hc:`dV)(hsc:`rk)(ok:`y7)(hi:`alw)
  (hg:`aU!) (ht:`aU?) (he:`aVa)
  (hsw:`T5)
  (hs:`f8)
  (hf:`lT):
  PS X `aDc (`iw (Nl0 n `dF wi g tt te σ H `aVg)):=by
 apply `iB;let#[cl,M,Y,O]:=j90 (env:=`N) (scope:=`ef) λx hx hf=>`SB x.1 (by
  rcases ok.free x hx hf with z|z
  ·apply `aVb
  ·apply `aVc)
 rw[exec_Assign_Name_used _ _ _ _ hsw];refine A1 (C70 (`lQ));show `aP _ X.A (do let _ ← comprehension `oO `ef `N _ (`am') `q (`cs `j? `N) `aVh) _ _ s;refine A1 (E7 (tk0 (use:=`aGf) (Q:=`aVi) rfl hs M `Eg ok.loc
  (`SH `GM λa6 s2 h2=>?_)) (λ_ s' hq=>A5 (A5 hq)) `akx)
 skip;apply `aVd;done;refine `aVe `aVg `aVh (`aVi);intro Da C H' s' m IX as hn qe;show `aP _ X.A (`ie `L! `N (`ag Da)) _ _ _;refine `aPQ (Wg0 IX hN hiN hy (v:=`ag Da) rfl (λa2 a4 hq57=>?_) hf);let#[a,sb,ha]:=hq57;have a5:C≠a:=by
  rcases ha with z|z
  ·rw[z];exact as.2.1
  ·exact C1 (`aGe y a z)
 refine#[m,`aO5 sb a5,λh' a3=>#[_,H',`aVf a4.turned a2.toks (`kB ((a3.2 b hb).trans e)),qe]]
omit z
omit L2
namespace DL
open V
inductive D where
 | non|bl (b:`aj)|int (i:Int)|str (x:Str)|tup (ds:`i)|lst (ds:`i)|dct (ks:Sum (`ana) (`ao (`ana))) (ds:`i)|fn (ks:`ana) (ds:`i)
 deriving Inhabited
variable{l fl:`aVj}{items ns ds:`Eo}{d0 b' n':DL.D}{q:`aVk}
def unl:`hF
 | `t [_,d]=>d
 | d=>d
def isL:`ey
 | `Hd=>`d
 | _=>`q
inductive Sl where
 | un|sh (d:D)|ow (d:D)
 | ex (c:Str) (n:`bw)
abbrev Ds:=`ao Sl
inductive Res where
 | nx (δ:Ds)|rt (d:D)|bk (δ:Ds)|ct (δ:Ds)|rf (d:D)
variable{g ge gb:`aVl}{gt:`aVm}{G:`aVn}{δ' δ1:`xe}{gi gA:`aVo}
abbrev GE:=`cA
abbrev GB:=`hG
variable{g0:DL.GE}
abbrev GA:=`gQ
variable{g1 g2:DL.GB}
abbrev GS:=`gR
def asB:D->`Bk
 | `e5=>`ih
 | _=>`g
def asI:D->`bw
 | `b9=>`G2
 | _=>`g
def gv(i:Nat):GE:=fun δ=>match `c6 with
 | `acY=>`aQ
 | _=>`g
def gc(d:D):GE:=λ_=>`aQ
def o2(ga gb:GE)(f:`bA):GE:=`T6 λx=>`anb λy=>f x y
def ob(g:GE):GB:=`hH asB
def ta0(g:GB):GB:=`y8 (!·)
def ws0(gt gu:GB):GB:=`Po (gu δ) `br
def wt0(gt gu:GB):GB:=`Po `eN (gu δ)
def js0(ga gb:GE):GE:=fun δ=>`aVp λt=>`D `anc `d4 `ql
def orG(ga gb:GE):GE:=fun δ=>`aVp λt=>`D `anc `f4 `d4
def Jq0(ga:GE):GE:=fun δ=>(`aGg).map λt=>.bl (!t)
def ifG(gt:GB)(ga gb:GE):GE:=`Po `dO `d4
def v5:GA:=λ_=>`qm
def z8(g:GE)(gA:GA):GA:=`hH λd=>(`dk).map λds=>`b1
def ye0(gA:GA):GE:=`y9 λds=>`D `py `T7 `g
def yu0(gA:GA):GE:=`y9 λds=>`D `py `qn `g
def oA(gA:GA)(f:`r):GE:=`y9 f
def uh0(f:`ey)(g:GE):GE:=`y8 λd=>.bl (f d)
def wc0(d:D):`eC:=match d with
 | `b9=>`lU (-i)
 | _=>`g
def unG(f:`Bb)(g:GE):GE:=`hH f
def v7(G1 G2:GS):GS:=fun δ=>match `o' with
 | `fV=>`He
 | r=>r
def u6:GS:=`aVq
def R7(g:GE):GS:=`y8 .rt
def gN(i:Nat):`aR:=λd δ=>`c `T8
def z00(f:`aR)(g:GE):GS:=`hH λd=>(`v7).map .nx
def ifD(gt:GB)(Ga Gb:GS):GS:=`aVr
def w90(f:`aR)(G:GS):`i->`gR
 | [],δ=>`xf
 | `b1,δ=>match `aVs G with
  | `fV=>`aVt
  | `ahs=>`aVt
  | `aht=>`fV
  | r=>r
def vc0(gi:GA)(f:`aR)(G:GS):GS:=`and `ane
def Vl0:`Hf
 | `eH=>`or
 | _=>`g
def Gj0:`Hf
 | `c5=>`or
 | _=>`g
def signs(x:Str):`i:=`aVu `aVv
def Rw0:`Hf
 | `cG=>`c (`y' x)
 | _=>`g
open A
def vs0(g:GE):GA:=`hH Vl0
def tupI(g:GE):GA:=`hH Gj0
def fi0(g:GE):GA:=`hH Rw0
def u00(lo hi:Int):`i:=(`bc `w8).map λk=>`h (lo+(k:Nat))
def Op0(ds:`i):`q7:=match ds with
 | [`gw]=>`bL `alu (u00 0 j)
 | _=>`g
def Ps0(ds:`i):`q7:=match ds with
 | `aQx=>`bL ((`k7<=i/\i<`e_)/\`alu) (u00 i j)
 | _=>`g
def t70(gA:GA):GA:=`y9 Op0
def dp0(gA:GA):GA:=`y9 Ps0
def noT:GB:=λ_=>`eN
def Vn0:`T9->Sl
 | `acY=>`kp
 | _=>.un
def po0(n:Nat)(caps:`j)(δ:Ds):Ds:=`aVw++`aVx
def wl0(f:`aR)(gt:GB)(ge:GE)(δ:Ds):`anf
 | []=>`qm
 | `b1=>match `v7 with
  | `g=>`g
  | `wv=>match `NG with
   | `g=>`g
   | `br=>`aVy
   | `eN=>match `Ep with
    | `g=>`g
    | `g5=>(`aVy).map `aB2
def yh0(n:Nat)(caps:`j)(gi:GA)(f:`aR)(gt:GB)(ge:GE):GE:=
 `and (`D `T' (`aVz `m) `g)
def xa0(N:`e)(ds:`i):Ds:=ds.map .sh++`cr (`yU - `b2) .un
def isInt:`ey
 | `cZ=>`d|`cL=>`d|_=>`q
def isStr:`ey
 | `co=>`d|_=>`q
def isBool:`ey
 | `cL=>`d|_=>`q
def isTup:`ey
 | `Hd=>`d|_=>`q
def ii(f:Int->Int->`eC):`bA
 | `b9,`gw=>f i j
 | _,_=>`g
def u90:`bA:=`Hg `aFC
def yx0:`bA:=ii λi j=>`hu `S1 (`aeP)
def xb0:`bA:=ii λi j=>`hu (0<j) (`aeQ)
def ltD:`bA:=`Hg (`ig (i<j))
def leD:`bA:=`Hg `aC7
def gtD:`bA:=`Hg (`ig (j<i))
def geD:`bA:=`Hg `aC8
open B
def eqS(x y:D):`Bk:=match x with
 | `y=>(match y with|`y=>`eN|`cZ=>`br|`cL=>`br|`co=>`br|_=>`g)
 | `b9=>(match y with|`y=>`br|`gw=>`ang|`co=>`br|_=>`g)
 | .bl i=>(match y with|`y=>`br|.bl j=>`ang|`co=>`br|_=>`g)
 | `p i=>(match y with|`y=>`br|`cZ=>`br|`cL=>`br|`p j=>`ang|_=>`g)
 | _=>`g
def eqD(x y:D):`eC:=`aVA .bl
def neD(x y:D):`eC:=`aVA λb=>.bl (!b)
def xl1:`ey
 | `y=>`d|_=>`q
open A
def g40(x y:D):`eC:=match y with
 | `y=>`t1 (xl1 x)
 | _=>`g
def ixN(n:Nat)(i:Int):`Ty:=`aTg
def atI{α:Type}(xs:`aV)(i:Int):`R!:=`aTh
def ixD:`bA
 | `dx,`b9=>`OJ
 | `fI,`b9=>`OJ
 | `on,`b9=>`D `xa ((`aTq).map `aVv) `g
 | _,_=>`g
def sIx(n d:Nat):`aSC
 | `g=>d
 | `aX=>`Tl
def cutD(xs:`i)(lo hi:`bw):`i:=(`p2 (`anh)).take (`aVB - `anh)
abbrev GO:=`t2
def uv0:GO:=λ_=>`cN
def someO(g:GE):GO:=`hH λd=>(asI d).map `c
def xh0:`r
 | `Pg=>`hu `xa (`ae5)
 | [`dx]=>`c (`h `aB)
 | [`fI]=>`c (`h `aB)
 | _=>`g
def bools:`i->`aT (`Ez)
 | []=>`qm
 | `e5::ds=>`aVC λr=>b::r
 | _=>`g
def Ok0:`r
 | `qo=>`aVC λbs=>`afw
 | _=>`g
def l30:`i->`aVD
 | []=>`qm
 | `ts::ds=>(`T!).map λr=>b::r
 | _=>`g
def dl0(d:D)(ds:`i):`eC:=match d,ds with
 | `p sep,[`dx]=>(l30 xs).bind λys=>`hu `aVE `aVF
 | _,_=>`g
def ot0(g:GE)(gA:GA):GE:=`aVG dl0
open B
def wb0:`r
 | `qo=>`T7
 | [`c5]=>`T7
 | _=>`g
def r00{f:`aR}{gt:GB}{ge:GE}{δ:Ds}(p:`ey)(h:`hF):∀{items:`i},(∀d∈`bJ,∃δ',`ani/\`NG=`c (p d)/\(p d=`d->`aVH)) ->
  `aVI=`c ((items.filter p).map h):=by
 intro z;induction z with
 | nil=>intro _;exact rfl
 | cons d ds iq=>
  intro H
  let#[δ',e1,e2,e3]:=H d A8;have ih:=iq λd hd=>H d (A7 _ hd)
  delta wl0;rw[e1];dsimp only;rw[e2];cases hp:p d with
  | false=>
   dsimp only;rw[List.filter_cons_of_neg (`anj)];exact ih
  | true=>
   dsimp only;rw[e3 hp,ih,List.filter_cons_of_pos hp];rfl
def u10{f:`aR}{gt:GB}{ge:GE}{δ:Ds}(h:`hF)(H:∀d∈`bJ,∃δ',`ani/\`ank/\`aVH):`aVI=`c (items.map h):=by
 have:=r00 (f:=f) (gt:=gt) (ge:=ge) (δ:=δ) (`al') h (items:=`bJ) λd hd=>by
  let#[δ',a,b,c]:=H d hd;exact#[δ',a,b,λ_=>c]
 apply `ay (List.filter_eq_self.mpr `az);exact `w
theorem Xj0(h:α->`aj):`nD (`aVJ=`anl)
 | []=>rfl
 | `iF=>by
  show (`aVJ).map (λr=>h a::r)=_;rw[Xj0 h l];rfl
theorem strs_map(h:`Hh):`nD (`aVK=`anl)
 | []=>rfl
 | `iF=>by
  show (`aVK).map (λr=>h a::r)=_;rw[`Qt h l];rfl
def u60{f:`aR}{G:GS}(P:Nat->Ds->Prop):∀(items:`i) (i:Nat) (δ:Ds),(∀j d δ,`bJ[j]?=`aQ->P (i+j) δ->∃δ1 δ2,`T?/\`anm/\P (i+j+1) δ2)->P i δ ->
  ∃δ',`ane=`fV/\P (i+`jb) δ':=by
 intro z;induction z with
 | nil=>intro i δ _ h;exact#[δ,rfl,h]
 | cons d ds ih=>
  intro i δ H h
  skip;let#[δ1,δ2,e1,e2,h2]:=H 0 d δ rfl h;let#[δ',e3,h3]:=ih `dn δ2 (λj d δ hj hp=>by
   have q:i+`ji=i+1+j:=`U
   let#[a,b,c,d',e]:=H `ji d δ (`y!) (`k q hp);exact#[a,b,c,d',`QG q e]) h2
  have q:i+`ann=i+1+`b2:=`abO
  done;refine#[δ',?_,`k q h3];delta w90;rw[e1];simp only[`s,e2];exact e3
def Ak0{G1 G2:GS}{δ:Ds}(h:`ano):`Ua=`He:=`anp
def W5{G1 G2:GS}{δ:Ds}{d:D}(h:`o'=`x2):`Ua=`x2:=`anp
def yi0{g:GE}{δ:Ds}{d:D}(h:`iG):R7 g δ=`x2:=by delta R7;rw[h];rfl
def yr0{g:GE}{δ:Ds}{d:D}(h:`iG):z00 `ac_ g δ=`ac `T8:=by delta z00;rw[h];rfl
def wr0{g:GB}{Ga Gb:GS}{δ:Ds}(h:`anq):`aVL=Ga δ:=`aVM
def yd0{g:GB}{Ga Gb:GS}{δ:Ds}(h:`aVN):`aVL=Gb δ:=`aVM
def w00{gi:GA}{f:`aR}{gt:GB}{ge:GE}{δ:Ds}{out:`i}(h1:`aVO)(h2:`T')(h3:`afb=`c out):`aVP=`c (`m out):=by
 delta yh0;rw[h1];show (`D `T' (`aVz `vH) `g)=_;rw[`I h2,h3];rfl
def v40{gi:GA}{f:`aR}{G:GS}{δ:Ds}{r:`KF}(h1:`aVO)(h2:`ane=r):vc0 gi f G δ=r:=by
 delta vc0;rw[h1];exact h2
def cons_of{g:GE}{gA:GA}{δ:Ds}{d:D}(h1:`iG)(h2:`y?):z8 g gA δ=`c `m7:=by delta z8;rw[h1,h2];rfl
def d9{gA:GA}{δ:Ds}{f:`r}(h:`y?):oA gA f δ=f ds:=by delta oA;rw[h];rfl
def j4{ga gb:GE}{δ:Ds}{x y:D}{f:`bA}(h1:`dO=`c4)(h2:`d4=`g5):`aVQ=f x y:=by delta o2;rw[h1,h2];rfl
def Zr0{g:GE}{gA:GA}{δ:Ds}{x:D}(h1:`aA=`c4)(h2:`y?):ot0 g gA δ=dl0 x ds:=by delta ot0;rw[h1,h2];rfl
def sm0{f:`aR}{G:GS}{d:D}{δ δ2:Ds}(h1:`T?)(h2:`anm):`aVR:=by
 apply `Ub
 rw[h1];simp only[`s,h2]
def q50{xs:`aV}{i:Int}(h0:0<=i)(h1:`y0)(d:α):`OJ=`c (`Uc `m9 d):=by
 delta atI ixN;rw[`I h0,`amp];show xs[`m9]?=_;have:`m9<`aB:=`ch
 simp[`cU,`w]
omit DL
variable{l fl:`aVj}{items ns ds:`Eo}{g ge gb:`aVl}{gt:`aVm}{G:`aVn}{δ' δ1:`xe}{gi gA:`aVo}{d0 b' n':DL.D}{q:`aVk}{g0:DL.GE}{g1 g2:DL.GB}
open X
abbrev BS:=`f->Prop
abbrev St:=L2.St
variable{B' B₀:DL.BS}
structure NB(o:`yo):Prop where
 ne:o≠`g
 nf:∀ob u,o=`aj1->∃xs,u=`dx
 nt:∀xs,o≠`i?
instance{o:`yo}:`fr (NB o) (o=`g->`cx):=#[λh e=>h.ne e]
def NB.of{o:`yo}{u:HO}(h:o=`bS)(n:∀ob u',u≠`aCT)(t:∀xs,u≠`fI):NB o:=by
 subst h;exact#[`aVS,λob u' z=>`K (B4 z) (n ob u'),λxs z=>t xs (B4 z)]
def NB.keep{a:`f}(q:`Hi)(h:`ol):NB (H' a):=by
 cases e:H a with
 | none=>exact `K e h.ne
 | some o=>rw[q o e,← e];exact h
def NB.same{a:`f}(q:`bI)(h:`ol):NB (H' a):=(h.keep λo e=>q a o e)
def SqT'(K:`C)(H:Hp)(B:BS)(a:`f)(xs:`P):Prop:=`xg/\`akW
def SqL'(K:`C)(H:Hp)(B:BS)(a:`f)(xs:`P):Prop:=(`aVT)∨`cx
section
variable{B:BS}{a:`f}
def SqT'.to(h:`Pq):`lM:=(`n (`n h.2))
def SqL'.at(h:`Es):`aVT:=(`rR id `fM)
def SqL'.to(h:`Es):`sQ:=(`n h.at.2)
def Gr(H H':Hp)(B B':BS):Prop:=∀b o,`Ey->`D5->¬B' b/\`aEK
def SqT'.mono(g:`eT)(h:`Pq):SqT' K H' B' a xs:=(`aVU)
def SqL'.mono(g:`eT)(h:`Es):SqL' K H' B' a xs:=by
 obtain⟨n,h|⟨o,h⟩⟩:=h.at
 ·exact `n #[(`Ud).1,`n (`Ud).2]
 ·exact `n #[(`Ud).1,`u #[o,(`Ud).2]]
def Gr.same(s:`bI):`aVV:=(λb o n h=>#[n,s b o h])
def Gr.less(h:`EJ):Gr H H B B':=(λb o n e=>#[λz=>n (h b z),e])
omit z
abbrev KS:=Sum (`e0) (`aVW)
def dOb:KS->`P->HO
 | `Cp,xs=>`Pr
 | `Hj,xs=>`anr
def dLn:KS->Nat
 | `Cp=>`dY
 | `Hj=>`dY
def Ve0(fd:`f0)(x y:Str)(c cd:`f):Prop:=
 ∃p1 p2 p3,fd.body=.expr `OF/\fd.scope.isCoroutine=`q/\fd.scope.isGenerator=`q/\fd.scope.kind=`sF/\`aVX y=`i2/\`aVX x=`jv /\
  (∀z∈fd.scope.names,`aVY)/\`aHG=`OU/\fd.code=`ag cd/\`aHF=`hP/\`az!/\`aAg/\`aDD /\
  ∀u:`A,`sM fd `aeo=`bD [(y,u)]
def rk(n:Nat):`e0:=`ans `aVZ
def TelO(K:`C)(H:Hp)(B:BS)(p:`f)(kvs:`lE):Prop:=(¬B p/\`aja)∨∃xs,SqL' K H B p xs/\kvs=(rk `aB).zip xs
def TelO.mono{B:BS}{p:`f}(g:`eT)(h:`aV_):TelO K H' B' p kvs:=by
 rcases h with h|⟨xs,h,e⟩
 ·exact `n (`aVU)
 ·exact `u #[xs,h.mono g,e]
def FnAtH(K:`C)(H:Hp)(B:BS)(f:`f)(kvs:`lE):Prop:=
 ∃(oF oC oK:Obj) (fd:`f0) (c cd p:`f) (x y:Str),(¬B f/\H f=`aV0)/\(`aV1)/\(¬B c/\`aV2)/\`ant /\
  (¬B cd/\H cd=`aV3)/\(`aV4)/\`aV_
def FnAtH.mono{B:BS}{f:`f}(g:`eT)(h:`sq K H B f kvs):`sq K H' B' f kvs:=by
 skip;let#[oF,oC,oK,fd,c,cd,p,x,y,#[b1,h1],a,#[b2,h2],e,#[b3,h3],q,h4]:=h;done;exact#[oF,oC,oK,fd,c,cd,p,x,y,g _ _ b1 h1,a,g _ _ b2 h2,e,g _ _ b3 h3,q,h4.mono g]
mutual
def Rp(K:`C)(H:Hp)(B:BS):`aV5
 | `y,v=>`tb
 | `e5,v=>v=`e5
 | `b9,v=>v=`b9
 | `cG,v=>`TY
 | `c5,v=>`aV6
 | `eH,v=>`aV7
 | `lV,v=>`aV8
 | `qp,v=>`aV9
def Rps(K:`C)(H:Hp)(B:BS):`aV'
 | [],xs=>`yZ
 | `b1,xs=>`aV!
end
mutual
theorem Rp.mono{B:BS}(g:`eT):`Hk `aV?
 | `y,_,h=>`Ue
 | `cL,_,h=>`Ue
 | `cZ,_,h=>`Ue
 | `co,_,h=>`Ue
 | `c5,_,h=>by
  apply `CH;apply `Uf;exact`aWa
 | `eH,_,h=>by
  apply `CH;apply `Uf;exact`aWa
 | `lV,_,h=>by
  apply `CH;skip;let#[a,xs,e,n,q,l,r]:=h;done;exact#[a,xs,e,(g _ _ n q).1,(g _ _ n q).2,l,`afg]
 | `qp,_,h=>by
  apply `CH;let#[a,xs,e,q,l,r]:=h;exact#[a,xs,e,`aff,l,`afg]
theorem Rps.mono{B:BS}(g:`eT):`ln `anu
 | [],_,h=>by delta Rps at h ⊢;exact h
 | `b1,_,h=>by
  delta Rps at h ⊢;apply `Hl;exact#[x,r,e,`acX g h1,`acu g h2]
end
section
variable{B:BS}
def wh0:`iU `y=(`tb):=`Ug
def xz0{b:`aj}:`iU `v1=(v=`e5):=`Ug
def ys0{i:Int}:`iU `ho=(v=`b9):=`Ug
def w40:`iU `mE=(`TY):=`Ug
def wo0:`iU `oP=`aV6:=`Uh
def w80:`iU `u6=`aV7:=`Uh
def h00{ks:KS}:`iU (`lV)=`aV8:=`Uh
def Vr0{ks:`e0}:`iU (`qp)=`aV9:=`Uh
def pi0{ks:`e0}:`iU (`t3)=`pp `xg (`aWb/\`afe):=(h00)
def dr0{ks:`aVW}:`iU (`dy (`Hj) ds)=`pp `xg (H a=`c (`anr)/\`afe):=(h00)
def ze0:`q0 []=(`yZ):=by delta Rps;rfl
def O8{d:D}:`q0 `m7=`aV!:=by conv=>lhs;delta Rps
def Rps.length:`ln (`bi->`aB=`b2):=by
 intro z;induction z with
 | nil=>intro _ h;apply `jW;subst h;rfl
 | cons d ds ih=>
  intro _ h
  rw[O8] at h;let#[x,r,rfl,_,h2]:=h;simp[`za]
def Rps.get:∀{ds:`i} {xs:`P} {i:Nat} {d:D},`bi->`Ui=`aQ->∃x,`pj/\`Et:=by
 intro z;induction z with
 | nil=>intro _ _ _ _ e;simp at e
 | cons d ds ih=>
  intro _
  intro z2;cases z2 with
  | zero=>
   intro d' h e
   rw[O8] at h;let#[x,r,rfl,h1,_]:=h;simp at e;subst e;exact`Uj
  | succ i=>
   intro d' h e
   skip;rw[O8] at h;let#[x,r,rfl,_,h2]:=h;let#[y,e1,e2]:=ih (i:=i) h2 (`Uk);done;exact#[y,`zb,e2]
def Rps.snoc:∀{ds:`i} {xs:`P} {d:D} {x:V},`bi->`Et->`nE (ds++[d]) (`anv):=by
 intro z;induction z with
 | nil=>
  intro _ _ _ h r
  apply `jW;subst h;rw[`c',`c',O8];exact`Ul _ r
 | cons d ds ih=>
  intro _ _ _ h r
  rw[O8] at h;apply `Um;rw[`jh,`jh,O8];exact`aWc
def Rps.append:∀{ds es:`i} {xs ys:`P},`bi->`aWd->Rps K H B `aGG `NC:=by
 intro z;induction z with
 | nil=>intro _ _ _ h r;apply `jW;subst h;exact r
 | cons d ds ih=>
  intro _ _ _ h r
  rw[O8] at h;apply `Um;rw[`jh,`jh,O8];exact`aWc
def Rps.drop:`aWe (`nE (ds.drop n) (`p2 n)):=by
 intro ds xs n;induction n generalizing ds xs with
 | zero=>exact id
 | succ n ih=>
  intro h;cases ds with
  | nil=>apply `jW;subst h;simpa [ze0]
  | cons d ds=>rw[O8] at h;apply `Um;exact `za
def Rps.take:`aWe (`nE (ds.take n) (xs.take n)):=by
 intro ds xs n;induction n generalizing ds xs with
 | zero=>intro h;simp[ze0]
 | succ n ih=>
  intro h;cases ds with
  | nil=>apply `jW;subst h;simp[ze0]
  | cons d ds=>rw[O8] at h;apply `Um;rw[`aWf,`aWf,O8];exact#[y,_,rfl,h1,`za]
def Rps.same(s:`bI)(h:`bi):`Ds H' xs:=(`acu `xh h)
def Rp.same{d:D}(s:`bI)(h:`dM):`abf:=(`acX `xh h)
omit z
def RpO(K:`C)(H:Hp)(B:BS)(d:D)(a:`f):Prop:=match d with
 | `eH=>∃xs,H a=`My/\`bi
 | `lV=>∃xs,`aGn
 | _=>`cx
def RpO.same{B:BS}{d:D}{a:`f}(s:`bI)(h:`jX):RpO K H' B d a:=by
 apply `Un
 ·apply `qq;exact#[xs,`anw,`Uo]
 ·apply `anx;exact#[xs,`anw,l,`Uo]
def RpO.rp{B:BS}{d:D}{a:`f}(l:`EJ)(n:¬B' a)(h:`jX):Rp K H B' d `ci:=by
 apply `Un
 ·apply `qq
  rw[w80];exact#[a,xs,rfl,`n #[n,`qb],`aWg]
 ·let#[xs,e,q,r]:=h
  rw[h00];exact#[a,xs,rfl,n,e,q,`aWg]
def RpO.live{B:BS}{d:D}{a:`f}(h:`jX):`ol:=by
 apply `Un
 ·apply `qq;apply `aWh
 ·let#[xs,e,q,r]:=h;refine .of e (λ_ _ z=>?_) λ_ z=>?_<;>(delta dOb at z;split at z<;>cases z)
def RpX(K:`C)(H:Hp)(B:BS)(ks vs:`i)(a:`f):Prop:=∃(ts:`j)(xs:`P),ks=[]/\H a=`c (.dX (ts.zip xs))/\ts.length=`aB/\`q0 vs
def s30:`i->`Ty
 | [`cG,`b9]=>`D (x = "@") `aF_ `g
 | _=>`g
mutual
def RpN(K:`C)(H:Hp)(B:BS)(as:`aw):`aV5
 | `y,v=>`tb
 | `e5,v=>v=`e5
 | `b9,v=>v=`b9
 | `cG,v=>`TY
 | `c5,v=>`aWi
 | d,v=>`dM
def RpNs(K:`C)(H:Hp)(B:BS)(as:`aw):`aV'
 | [],xs=>`yZ
 | `b1,xs=>`aWj
end
open A
mutual
theorem RpN.mono{B:BS}{as:`aw}(g:`eT)(l:`aWk):`Hk (`lW->RpN K H' B' as' d v)
 | `y,_,h=>`Up
 | `cL,_,h=>`Up
 | `cZ,_,h=>`Up
 | `co,_,h=>`Up
 | `c5,_,h=>by
  apply `abR;skip;rcases h with⟨k,a,e,q,r⟩|⟨n,a,xs,e,q,r⟩
  ·done;exact `n #[k,a,e,l k a q,r]
  ·done;exact `u #[n,a,xs,e,`aff,`any g l r]
 | `eH,_,h=>`anz
 | `lV,_,h=>`anz
 | `qp,_,h=>`anz
theorem RpNs.mono{B:BS}{as:`aw}(g:`eT)(l:`aWk):`ln (`iq->`aaC K H' B' as' ds xs)
 | [],_,h=>by delta RpNs at h ⊢;exact h
 | `b1,_,h=>by
  delta RpNs at h ⊢;apply `Hl;exact#[x,r,e,RpN.mono g l h1,`any g l h2]
end
theorem lh0{F G:`lJ}(h:`aj_):`aWl
 | _,_,`ah=>`ah
 | _,_,`tJ=>`aE (h _ _ r) (lh0 h t)
def NodeOk(K:`C)(H:Hp)(B:BS)(as:`aw)(n:D)(so:`dW):Prop:=match n with
 | `eH=>∃xs,`anA/\`iq
 | `t3=>∃xs,so=`Pr/\`wk/\`iq
 | `aWm=>`aWn
 | _=>`cx
def NodeOk.mono{B:BS}{as:`aw}(g:`eT){n:D}(h:`Uq):`k0 K H' B' as n so:=by
 delta NodeOk at h ⊢;split at h
 ·apply `qq;exact#[xs,e,`anB]
 ·apply `anx;exact#[xs,e,l,`anB]
 ·skip;let#[C,dx,ns,xs,e,f,l,c,q,r]:=h;done;exact#[C,dx,ns,xs,e,f,l,c,q,`anB]
 ·exact `rR
structure RpW(K:`C)(H:Hp)(B:BS)(ns:`i)(a:`f)(as:`aw)(sos:`Hm):Prop where
 hd:`aWo
 nd:`t4
 at':`aHY
 own:∀b∈as,b=a∨(`Ey/\`Nj)
 len:`Ur
 all:`cu (`k0 K H B as) ns sos
 ins:`aWp
def RpD(K:`C)(H:Hp)(B:BS)(ns:`i)(a:`f):Prop:=∃as sos,`f'
def RpD.mono{B:BS}{a:`f}(s:`Hi)(g:`eT)(h:`afk):RpD K H' B' ns a:=by
 let#[as,sos,h]:=h;exact#[as,sos,h.hd,`d6,s _ `zc,`aiF λz=>g b _ z.1 z.2,`d7,`anC `x_,h.ins]
def RpD.live{B:BS}{a:`f}(h:`afk):`ol:=by
 let#[as,sos,h]:=h;exact .of `zc `aWq λ_ z=>nomatch z
def RpG(K:`C)(H:Hp)(B:BS)(d:D)(a:`f):Prop:=match d with
 | `t es=>`aWr
 | d=>`jX
def RpO.toG{B:BS}{d:D}{a:`f}(h:`jX):`nF:=by
 cases d with
 | tup es=>apply `anD
 | _=>exact h
def RpG.toO{B:BS}{d:D}{a:`f}(n:`Nm)(h:`nF):`jX:=by
 cases d with
 | tup es=>cases n
 | _=>exact h
def RpG.same{B:BS}{d:D}{a:`f}(s:`bI)(h:`nF):RpG K H' B d a:=by
 cases d with
 | tup es=>apply `anE;exact`aWs
 | _=>exact(RpO.same s `Us).toG
def RpG.live{B:BS}{d:D}{a:`f}(h:`nF):`ol:=by
 cases d with
 | tup es=>apply `anE;exact `t5
 | _=>exact RpO.live `Us
def RpO.plain{B:BS}{d:D}{a:`f}(h:`jX):`anF:=by
 intro o ys z;cases d with
 | lst ds=>apply `qq;rw[e] at z;cases z
 | dct ks ds=>
  apply `qq;rw[e] at z;delta dOb at z;split at z<;>cases z
 | _=>apply `anD
def RpG.plain{B:BS}{d:D}{a:`f}(h:`nF):`anF:=by
 skip;cases d with
 | tup es=>let#[x,ns,e,as,sos,r]:=h;done;intro o xs z;rw[r.at'] at z;cases z
 | _=>done;exact RpO.plain `Us
def RpL(K:`C)(H:Hp)(B:BS)(d:D)(a:`f):Prop:=match d with
 | `t es=>(∃d',es=[`iS,d']/\`KQ d')∨(∃ks vs,es=[`m ks,`wl]/\RpX K H B ks vs a)∨`aWr
 | d=>`jX
def RpO.toL{B:BS}{d:D}{a:`f}(h:`jX):`nf:=by
 cases d with
 | tup es=>apply `anD
 | _=>exact h
def RpL.toO{B:BS}{d:D}{a:`f}(n:`Nm)(h:`nf):`jX:=by
 cases d with
 | tup es=>cases n
 | _=>exact h
def RpG.toL{B:BS}{d:D}{a:`f}(h:`nF):`nf:=by
 cases d with
 | tup es=>apply `fs h
 | _=>exact h
def RpL.same{B:BS}{d:D}{a:`f}(s:`bI)(h:`nf):`aWt:=by
 skip;cases d with
 | tup es=>
  apply `anG
  ·done;exact `n #[d',q,`Uo]
  ·done;apply `nC #[ks,vs,q,ts,xs,q1,`anw,q2,`Uo]
  ·done;apply `fs `aWs
 | _=>done;exact(RpO.same s `Hn).toL
def RpL.live{B:BS}{d:D}{a:`f}(h:`nf):`ol:=by
 skip;cases d with
 | tup es=>
  apply `anG
  ·done;exact `t5
  ·done;apply `aWh
  ·done;exact `t5
 | _=>done;exact RpO.live `Hn
def RpL.plain{B:BS}{d:D}{a:`f}(h:`nf):`anF:=by
 skip;cases d with
 | tup es=>
  rcases h with⟨d',q,r⟩|⟨ks,vs,q,ts,xs,q1,e,q2,r⟩|⟨x,ns,_,as,sos,r⟩
  ·done;exact r.plain
  ·done;intro o ys z;rw[e] at z;cases z
  ·done;intro o xs z;rw[r.at'] at z;cases z
 | _=>done;exact RpO.plain `Hn
def vc1(a C:`f)(od:`cY):`Dj:=λh=>∃oe,`jd=`c oe/\oe.cls=`Bi/\(∀dx,od=`GR->oe.dict=`GR)/\∃vs,oe.data=`Er
def u61(H:Hp)(B:BS)(od:`cY):`bw->Prop
 | `g=>True
 | `ND=>∃dx,od=`GR/\¬B dx/\H dx=`c (.xd [("at",`gz)])
def XcR(K:`C)(H:Hp)(B:BS)(c:Str)(n:`bw)(a:`f):Prop:=∃C od,`xg/\H a=`c (.ext (vc1 a C od))/\`pq/\u61 H B od n
def XcR.mono{B:BS}{c:Str}{n:`bw}{a:`f}(g:`eT)(h:`aWu):XcR K H' B' c n a:=by
 let#[C,od,h1,h2,h3,h4]:=h;refine#[C,od,(`aWv).1,(`aWv).2,h3,?_];cases n with
 | none=>trivial
 | some n=>let#[dx,e,q1,q2]:=h4;exact#[dx,e,(`aWw).1,(`aWw).2]
def SlR(K:`C)(H:Hp)(B:BS)(o:`ep):Sl->Prop
 | .un=>True
 | `kp=>`aWx
 | `BH=>∃a,o=`n?/\`aWy
 | .ex c n=>∃a,o=`n?/\`aWu
def Pd.get{F:`lJ}:∀{l:`aV} {m:`sa} {i:Nat} {b:β},`sH->`anH->∃a,`Ho/\`DY:=by
 intro l m i b p;induction p generalizing i with
 | nil=>intro e;cases e
 | cons r t ih=>
  cases i with
  | zero=>intro e;cases e;exact`Sd
  | succ i=>exact ih
def Pd.imp{F G:`lJ}(h:`aj_):`aWl:=by
 intro l m p;induction p with
 | nil=>exact `ah
 | cons r t ih=>exact `aE (h _ _ r) ih
def Pd.set{F:`lJ}{a:α}{b:β}(r:`DY):∀{l:`aV} {m:`sa} (i:Nat),`sH->`cu F (`anI) `aWz:=by
 intro l m i p;induction p generalizing i with
 | nil=>exact `ah
 | cons q t ih=>
  cases i with
  | zero=>exact `tJ
  | succ i=>exact `aE q (ih i)
def Pd.len{F:`lJ}:`afh (`sH->`aC=`acA):=by
 intro l m p;induction p with
 | nil=>rfl
 | cons _ _ ih=>exact congrArg (·+1) ih
def Pd.app{F:`lJ}:∀{l l':`aV} {m m':`sa},`sH->`cu F l' m'->`cu F (l++l') (m++m'):=by
 intro l l' m m' p q;induction p with
 | nil=>exact q
 | cons r t ih=>exact `Gl
structure Env(K:`C)(H:Hp)(B:BS)(σ:St)(δ:Ds):Prop where
 all:`aWA
 bad:`vD
 own:∀(i j:Nat) (a:`f) (ds es:D),`c6=`Ew->`sV=`aWB->`m8->`wi=`c (`n?)->i=j
section
variable{B:BS}{σ σ':St}{δ:Ds}
def SlR.same{o:`ep}{s:Sl}(q:`bI)(h:`aWC):SlR K H' B o s:=by
 cases s with
 | un=>trivial
 | sh d=>apply `gS;exact#[v,e,`MB q]
 | ow d=>let#[a,e,b,r]:=h;exact#[a,e,b,`MB q]
 | ex c n=>let#[a,e,r]:=h;exact#[a,e,`ei (`BU q)]
def Env.same(q:`bI)(e:`bB):`q1 H' δ:=(
 #[`FY (λ_ _ h=>`Ut q) `k8,(λa b=>(`m1 a b).same q),`xk])
def Env.free(e:`bB){p:`f}(h:`lj):¬B p:=(λz=>`m1 p z h)
def Env.get(e:`bB){d:D}(h:`anJ):∃v,`Sp/\`dM:=by
 let#[o,h1,v,rfl,r]:=`anK;exact#[v,h1,r]
def Env.set(e:`bB)(i:Nat){d:D}(r:`dM):Env K H B `Ee `T8:=by
 refine#[`EI `aWD i `k8,`m1,`ai7];have hj:j≠i:=by
  rintro rfl
  by_cases hl:j<`o5
  ·rw[`Hp] at h1;cases h1
  ·rw[`Uu] at h1;cases h1
 have hk:k≠i:=by
  rintro rfl
  by_cases hl:k<`o5
  ·rw[`Hp] at h2;cases h2
  ·rw[`Uu] at h2;cases h2
 rw[`akF] at h1 h3;rw[`kk (C1 hk)] at h2 h4;apply `Uv
omit z
def yw0{p:`f}{o:HO}(h:`lj)(hz:`aWE:=by intro _ _ z;cases z):`cP H `aWF:=(#[λb u e=>`ja (wp0 e h) e,λb ob xs e=>by
 by_cases z:b=p
 ·subst z
  rw[yb0] at e;exact `K (B4 e) (hz ob xs)
 ·rw[zi0 z] at e;exact e])
def tD(K:`C)(B:BS)(δ:Ds)(g:`cA):TE:=`ir (∃d,`bB/\`iG/\`Hq)
structure PD(X:Cx)(e:`G)(g:`cA):Prop where
 mk::go:`aWG
instance{X:Cx}{e:`G}{g:`cA}:`fr `b7 `aWG:=#[PD.go]
def tDT(K:`C)(B:BS)(δ:Ds)(g:`hG):TT:=`ir (∃b,`bB/\`aA=`ih/\∀H',`bI->Q b H')
structure PTD(X:Cx)(e:`G)(g:`hG):Prop where
 mk::go:`aWH
instance{X:Cx}{e:`G}{g:`hG}:`fr (PTD X e g) `aWH:=#[PTD.go]
structure PWD(X:Cx)(e:`G)(g:`hG):Prop where
 mk::go:`aWI
instance{X:Cx}{e:`G}{g:`hG}:`fr (PWD X e g) `aWI:=#[PWD.go]
def tDA(K:`C)(B:BS)(δ:Ds)(g:`gQ):TA:=`ir (∃ds,`bB/\`aA=`or/\∀vs H',`bI->`Ds H' vs->Q vs H')
structure PDA(X:Cx)(es:`d3)(g:`gQ):Prop where
 mk::go:`aWJ
instance{X:Cx}{es:`d3}{g:`gQ}:`fr (PDA X es g) `aWJ:=#[PDA.go]
def Us0{d:D}{b:`aj}(h:asB d=`ih):d=`e5:=by
 apply `Uw asB
 subst h;rfl
def Op2(K:`C)(r:R2)(f:`bA):Prop:=∀(H:Hp) (B:BS) (x y:V) (dx dy d:D) (Q:VK),`Ev->`anL->`aWK->f dx dy=`aQ->(`Hq)->`RM
def FnR(K:`C)(r:`i0)(f:`r):Prop:=∀(H:Hp) (B:BS) (xs:`P) (ds:`i) (d:D) (Q:VK),`Ev->`bi->`NP->(`Hq)->`SY
section
variable{a c:`G}{ga:`cA}{gu:`hG}{rest:`d3}
def _root_.L2.PE.imp{t t':TE}(h:PE X e t)(q:`Ux):PE X e t':=(`aWL)
def _root_.L2.PT.imp{t t':TT}(h:PT X e t)(q:`Ux):PT X e t':=(`aWL)
def _root_.L2.PW.imp{t t':TT}(h:PW X e t)(q:`Ux):PW X e t':=(λw pins s σ H Q I z=>h w `z s σ H Q I `afn)
def _root_.L2.PA.imp{t t':TA}(h:`yN)(q:`Ux):PA X es t':=(λp pins s σ H Q I z=>h p `z s σ H Q I `afn)
def xd1{δ:Ds}{d:D}(h:gv i δ=`aQ):`anJ:=by
 delta gv at h;split at h
 ·cases h;assumption
 ·cases h
def d7(i:Nat)(hN:`ez)(hv:`iH)(hd:`a9)
  (hcd:`hB):PD X `nc (gv i):=(.mk λB δ=>`aWM fun σ H Q hq58=>by
 apply `bo hq58
 let#[v,e,r]:=en.get (xd1 h);exact#[v,e,k v H `q6 r])
def W8{i:Int}:`Uy PD `ho `anM:=(`ft yn1.imp fun σ H Q hq59=>`zd hq59 `Hr)
def yk0{i:`aj}:PD X (`aaF (`gA i) j pos) (gc (.bl i)):=(`ft wg1.imp fun σ H Q hq60=>`zd hq60 `EC)
def zt0:`Uy PD `a8 `rB:=(`ft zx1.imp fun σ H Q hq61=>`zd hq61 (`ha `st))
def Q4:`Uy PD `mE `aM5:=(`ft zk1.imp fun σ H Q hq62=>`zd hq62 `Uz)
def m8(hm:∃t,`rj=`aWN)(hg:`f!)(hd:`a9):PD X `nc `aij:=(.mk λB δ=>by
 let#[t,hm]:=hm;exact(`aiC `pQ `G!).imp fun σ H Q hq63=>`zd hq63 `Uz)
def v6{i:Int}(hm:∃t,`rj=`c `wW)(hg:`f!)(hd:`a9):PD X `nc `anM:=(.mk λB δ=>by
 let#[t,hm]:=hm;exact(`aiC `b9 `G!).imp fun σ H Q hq64=>`zd hq64 `Hr)
def Zh0{r:R2}{f:`bA}(hf:Op2 K r f){B:BS}{δ:Ds}{σ:St}{Q:VK}(h:`ze tD `Hs):tOp r (`Ht ga) (`Ht gb) σ H Q:=by
 skip;apply `qr;delta o2 at h;cases e1:`dO with
 | none=>rw[e1] at h;cases h
 | some x=>
  cases e2:`d4 with
  | none=>apply `ce;cases h
  | some y=>
   apply `ce;done;apply `t6;exact hf H2 B v1 v2 x y d Q `UA `NT r2 h λv H' s r=>k v H' (`Ll s) r
def dx0{op:`yx}{r:R2}{f:`bA}(ho:`aQM)(hf:`Hu)(ha:`c0)(hb:`dP):PD X `aQN `Hs:=(`ft (Gf0 ho `bK `fl).imp `anN)
def v8{op:`jN}{r:R2}{f:`bA}(ho:`yD)(hf:`Hu)(ha:`c0)(hb:`dP)(hm:`anO):PD X `tP `Hs:=(
 `ft (Cm0 ho `bK `fl hm).imp `anN)
def yx1{r:R2}{f:`bA}(ho:`ams)(hf:`Hu)(ha:`c0)(hb:`dP)(hs:`UB):PD X `G4 `Hs:=(
 `ft (Og0 ho `bK `fl hs).imp `anN)
def z7{op:`jN}{r:R2}{f:`bA}(ho:`yD)(hf:`Hu)(ha:`c0)(hb:`dP)(hm:`anO):PTD X `tP (ob `Hs):=(
 .mk λB δ=>(Qb0 ho `bK `fl hm).imp fun σ H Q hq65=>by
  apply `qs hq65
  delta ob at h;cases e:`aVQ with
  | none=>rw[e] at h;cases h
  | some d=>
   rw[e] at h;cases Us0 h;exact Zh0 hf `aWO)
def Q7(h:`b7)(he:`akN):PTD X e (ob g):=(
 .mk λB δ=>(K80 `dq he).imp fun σ H Q hq66=>by
  apply `qs hq66
  delta ob at h;cases e:`aA with
  | none=>rw[e] at h;cases h
  | some d=>
   rw[e] at h;cases Us0 h;exact`aWO)
def P0(h:`Hv):PTD X `GE (ta0 gt):=(
 .mk λB δ=>(Md0 `dq).imp fun σ H Q hq67=>by
  apply `qs hq67
  delta ta0 at h;cases e:`hw with
  | none=>rw[e] at h;cases h
  | some b=>
   rw[e] at h;cases h;exact#[b,en,e,λH' s=>`Pv])
def T7(h:`Hv):PWD X `akP gt:=(`ft Qr0 `dq)
def Q8(h:`Hv):PWD X `akQ gt:=(`ft Lf0 `dq)
def M9(ha:`Hv)(hb:PWD X `GA gu):PWD X `GB (ws0 gt gu):=(
 .mk λB δ=>(Lc0 `bK `fl).imp fun σ H Q hq68=>by
  apply `qs hq68
  delta ws0 at h;cases e:`hw with
  | none=>rw[e] at h;cases h
  | some b=>
   rw[e] at h;refine`aWP;cases b with
   | true=>apply `aWQ
   | false=>
    simp at h;subst h;rw[`p'];exact `Pv)
def zb0(ha:`Hv)(hb:PWD X `GC gu):PWD X `GD (wt0 gt gu):=(
 .mk λB δ=>(Fc0 `bK `fl).imp fun σ H Q hq69=>by
  apply `qs hq69
  delta wt0 at h;cases e:`hw with
  | none=>rw[e] at h;cases h
  | some b=>
   rw[e] at h;refine`aWP;cases b with
   | false=>apply `aWQ
   | true=>
    simp at h;subst h;rw[`a4];exact `Pv)
def PWD.pt(h:PWD X e gt):`aWR:=(.mk λB δ=>(`_!).pt)
def y40{op}(h:PD X a g):PD X `aPr g:=(`ft z61 `dq)
def zq0(ha:`c0)(hb:PD X `GA gb):PD X `GB (js0 ga gb):=(
 .mk λB δ=>(Bp0 `bK `fl).imp fun σ H Q hq70=>by
  apply `bo hq70
  delta js0 ob at h;cases e:`dO with
  | none=>rw[e] at h;cases h
  | some x=>
   rw[e] at h;apply `anP;cases x with
   | bl c=>
    rw[xz0] at r;refine`aWS;cases c with
    | true=>apply `UC
    | false=>
     simp[asB] at h;rw[`p'];exact `anQ
   | _=>simp[asB] at h)
def yo0(ha:`c0)(hb:PD X `GC gb):PD X `GD (orG ga gb):=(
 .mk λB δ=>(wi1 `bK `fl).imp fun σ H Q hq71=>by
  apply `bo hq71
  delta orG ob at h;cases e:`dO with
  | none=>rw[e] at h;cases h
  | some x=>
   rw[e] at h;apply `anP;cases x with
   | bl c=>
    rw[xz0] at r;refine`aWS;cases c with
    | false=>apply `UC
    | true=>
     simp[asB] at h;rw[`a4];exact `anQ
   | _=>simp[asB] at h)
def y50(ha:`c0):PD X `GE (Jq0 ga):=(
 .mk λB δ=>(yb1 `bK).imp fun σ H Q hq72=>by
  apply `bo hq72
  delta Jq0 ob at h;cases e:`dO with
  | none=>rw[e] at h;cases h
  | some x=>
   rw[e] at h;apply `anP;cases x with
   | bl c=>
    rw[xz0] at r;simp[asB] at h;exact#[c,r,`anQ]
   | _=>simp[asB] at h)
def ym0(hc:`Hw)(ha:`c0)(hb:`dP):PD X `aPs (ifG gt ga gb):=(
 .mk λB δ=>(If0 `UD `bK `fl).imp fun σ H Q hq73=>by
  apply `bo hq73
  delta ifG at h;cases e:`hw with
  | none=>rw[e] at h;cases h
  | some t=>
   rw[e] at h;refine#[t,en,e,`aGu];cases t with
   | true=>apply `UC
   | false=>apply `UC)
def d8:PDA X [] v5:=(`ft t00.imp fun σ H Q hq74=>by let#[ds,en,h,k]:=hq74;cases h;exact k [] H `q6 (`jg))
def o4(ha:`b7)(hr:`Hx)(hs:`d9):PDA X `gl (z8 g gA):=(
 .mk λB δ=>(vv0 `bK (hr B δ) hs).imp fun σ H Q hq75=>by
  skip;let#[ds,en,h,k]:=hq75
  delta z8 at h;cases e1:`aA with
  | none=>rw[e1] at h;cases h
  | some d=>
   cases e2:`dk with
   | none=>apply `ce;cases h
   | some es'=>
    apply `ce;cases h;done;refine`Hy d #[es',`hc,e2,λvs H2 s2 r2=>k _ H2 `kR ?_];rw[O8];exact#[v,vs,rfl,`oH,r2])
def z20{x1}(h:`Hx):PD X (`lB es x1 pos) (ye0 gA):=(
 .mk λB δ=>(M90 `dq).imp fun σ H Q hq76=>by
  apply `bo hq76
  delta ye0 at h;cases e1:`dk with
  | none=>rw[e1] at h;cases h
  | some ds=>
   rw[e1] at h
   by_cases hl:`py
   ·apply `anR
    cases h;apply `aWT;rw[wo0];exact#[p,vs,rfl,#[(`hc).free hp,yb0],`aWU]
   ·apply `anS
    cases h)
def zh0(h:`Hx):PD X `al2 (yu0 gA):=(
 .mk λB δ=>`aWV fun σ H Q hq77=>by
  apply `bo hq77
  delta yu0 at h;cases e1:`dk with
  | none=>rw[e1] at h;cases h
  | some ds=>
   rw[e1] at h
   by_cases hl:`py
   ·apply `anR
    cases h;apply `aWT;rw[w80];exact#[p,vs,rfl,`n #[(`hc).free hp,`anT],`aWU]
   ·apply `anS
    cases h)
def Ur0{f:`r}(hf:FnR K r f){B:BS}{δ:Ds}{σ:St}{Q:VK}(h:`ze tD `LO):tCB r (tDA K B δ gA) σ H Q:=by
 apply `qr;apply `zf;cases e1:`dk with
 | none=>rw[e1] at h;cases h
 | some ds=>
  rw[e1] at h;exact#[ds,en,e1,`O2 (hf H1 B vs ds d Q `UE r1 h `anU)]
def u9{id:`da}{p:Pos}{f:`r}(hc:`aSv)(hf:`anV)(hm:`tN)(hv:`sO=`ae_)(ha:`jY)(hg:`f!)
  (hn:`tO) (hdb:`a9) (he:`d9) (hpl:`f9):
  `Hz:=(`aWW gs0)
def p8{T:`da}{p:Pos}{f:`r}(hc:`aSz)(hf:`anV)(hm:`tN)(hv:`sO=`amb)(ha:`jY)(hg:`f!)
  (hn:`tO) (hdb:`a9) (he:`d9) (hpl:`f9):
  `Hz:=(`aWW mo0)
def spD(K:`C)(f:`r):Sp:=`aWX `Hq
def Ca0{k:Nat}{ps:`e}{p:Pos}{f:`r}(F:`anW fd (spD X.K f))(hr:`nA)(hm:`rj=`OO)(hk:`K' X.K `vV=`d)(hb:`aWY)
  (ha:`jY) (hg:`f!) (hdb:`a9) (he:`d9) (hpl:`f9):
  `Hz:=(.mk λB δ=>(i20 (E:=E0) F hr hg hm hk hb `ah lj0 `bK hdb he hpl).imp fun σ H Q h=>by
 apply `qr;apply `zf;cases e1:`dk with
 | none=>rw[e1] at h;cases h
 | some ds=>
  rw[e1] at h;apply `UF;show spD X.K f `anX H1 Q E0;rw[`du];exact#[B,ds,d,`UE,r1,h,`anU])
omit z
omit DL
variable{B' B₀:DL.BS}
open X
structure EnvS(K:`C)(H₀:Hp)(B₀:BS)(H:Hp)(σ:St)(δ:Ds):Prop where
 same:`UG
 ex:∃B:BS,(`jZ)/\(`j_)/\`bB
 fr:`aWZ
 b0:`anY
def vr1(K:`C)(H₀:Hp)(B₀:BS)(D:Ends):Res->Prop
 | `aaS=>`aW_
 | .rt d=>∀v H,`UG->Rp K H `bh d v->D.rt v H
 | .bk δ=>∀σ H,`dr->D.bk σ H
 | .ct δ=>∀σ H,`dr->D.ct σ H
 | .rf d=>∀p H,`anZ->`UG->RpL K H (λa=>`n6∨a=p) d p->D.rt `i_ H
def tDS(K:`C)(H₀:Hp)(B₀:BS)(δ:Ds)(G:`gR):TS:=`iw (`aW0 vr1)
structure PSD(X:Cx)(st:`a0)(G:`gR):Prop where
 mk::go:`aW1
instance{X:Cx}{st:`a0}{G:`gR}:`fr `an_ `aW1:=#[PSD.go]
structure PSsD(X:Cx)(st:`d8)(G:`gR):Prop where
 mk::go:`aW2
instance{X:Cx}{st:`d8}{G:`gR}:`fr (`mN X st G) `aW2:=#[PSsD.go]
section
variable{σ:St}{δ:Ds}
def EnvS.grow(e:`dr)(s:`bI):`iT H' σ δ:=(#[e.same.trans s,let #[B,b1,b2,en]:=e.ex;#[B,b1,b2,`gk s],e.fr,e.b0])
omit z
structure Wr(idx:`j)(σ σ':St)(δ δ':Ds):Prop where
 len:`akB
 oth:∀j,j∉idx->σ'[j]?=`wi/\`ac!=`sV
 own:∀j∈idx,∀ds,`ac!≠`Ew
def tDG(K:`C)(idx:`j)(f:`aR)(B:BS)(d:D)(δ:Ds):TG:=`GF (∃δ',`dM/\`bB/\`ani/\∀σ',`aW3->Env K H B σ' δ'->Q σ' H)
structure PGD(X:Cx)(tg:`G)(idx:`j)(f:`aR):Prop where
 mk::go:`aW4
instance{X:Cx}{tg:`G}{idx:`j}{f:`aR}:`fr `HA `aW4:=#[PGD.go]
def _root_.L2.PG.imp{t t':TG}(h:PG X tg t)(q:∀v σ H Q,t' v σ H Q->`aPM):PG X tg t':=(λpins s σ H v u Q I r z=>h `z s σ H v u Q I r (q v σ H Q z))
def Vx0{σ:St}{δ:Ds}{d:D}:Wr [i] σ `Ee δ `T8:=by
 refine#[`a_,`qt,λj hj ds h=>?_]
 ·have:j≠i:=`y!
  rw[`aW5,`aW5];exact`iz
 ·have:j=i:=`y!
  subst this
  by_cases hl:j<`o5
  ·rw[`Hp] at h;cases h
  ·rw[`Uu] at h;cases h
def z9(i:Nat){pos:Pos}(hN:`fp)(hi:`ez)(hx:`HB)
  (hf:`lL):PGD X `nc [i] `ac_:=(.mk λB d δ=>(`afF).imp λv σ H Q hq78=>by
 let#[δ',r,en,e,k]:=hq78
 cases e;exact k _ Vx0 (en.set i r))
section
variable{st:`a0}{G1 G2 Ga Gb:`gR}{c:`G}{as bs body:`d8}
def Z7:`mN X [] u6:=(.mk λH₀ B₀ δ pins s σ H D I hq79=>by
 apply `zg hq79
 cases e;apply `aW6)
def j5(h1:PSD X st G1)(h2:`mN X `bG G2):`mN X (st::`bG) (v7 G1 G2):=(.mk λH₀ B₀ δ pins s σ H D I hq80=>by
 skip;apply `zg hq80
 delta v7 at e;cases e1:`o' with
 | none=>rw[e1] at e;cases e
 | some r1=>
  rw[e1] at e;cases r1 with
  | nx δ'=>done;exact `aW7 `aJ4 h2
  | rt d=>cases e;done;apply `UH
  | bk δ'=>cases e;done;apply `UH
  | ct δ'=>cases e;done;apply `UH
  | rf d=>cases e;done;apply `UH)
def R8(h:`b7):`HC R7 g:=(.mk λH₀ B₀ δ pins s σ H D I hq81=>by
 skip;apply `bC hq81
 delta R7 at e1;apply `bl;cases e2:`aA with
 | none=>apply `as;cases e1
 | some d=>
  apply `as;cases e1;done;exact `HD `dq #[d,env,e2,`F7 (k v H' (`aiy s') (`ei (`pe b1)))])
def EnvS.wr{B:BS}{σ σ':St}{δ:Ds}(e:`dr)(b1:`jZ)(b2:`j_)(s:`bI)(w:`aW3)(en:Env K H' B σ' δ'):`aW8:=by
 refine#[e.same.trans s,#[B,b1,b2,en],`aKQ,e.b0]
 by_cases hi:i∈idx
 ·exact `K h1 (w.own i hi ds)
 ·rw[(`aW9).2] at h1
  rw[(`aW9).1] at h2;exact `aW'
def W9{f:`aR}(h:`b7)(hg:`HA)(hs:`ak6)(hw:`ak7)
  (h1:`ak8):PSD X `ak9 (z00 f g):=(.mk λH₀ B₀ δ pins s σ H D I hq82=>by
 skip;apply `bC hq82
 delta z00 at e1;apply `bl;cases e2:`aA with
 | none=>apply `as;cases e1
 | some d=>
  apply `as;apply `fu;cases e3:`v7 with
  | none=>apply `f?;cases e1
  | some δ'=>
   apply `f?;cases e1;done;exact `aW! (hg B d δ) (`F7 #[δ',r,`an0,e3,`aW? H' en.wr s']))
def z50(hc:`Hw)(ha:`mN X as Ga)(hb:`mN X bs Gb):`an1 PSD ifD:=(.mk λH₀ B₀ δ pins s σ H D I hq83=>by
 skip;apply `bC hq83
 delta ifD at e1;apply `bl;cases e2:`hw with
 | none=>apply `as;cases e1
 | some t=>
  apply `as;done;refine Nf0 `UD (`kE ha) (`kE hb) `z s σ H D I `aXa;cases t with
  | true=>apply `UI
  | false=>apply `UI)
structure ItD(K:`C)(B:BS)(J:It)(items:`i)(H₁:Hp):Prop where
 go:∀i H,`an2->`HE->`ald
 yld:∀i H x H',`an2->`alg->`HE->`bI/\∃d,`bJ[i]?=`aQ/\∀B':BS,Gr H₁ H' B B'->(∀a,B' a->`ol)->Rp K H' B' d x
 stop:∀i H,`an2->`jb<=i->`alh
def tDI(K:`C)(B:BS)(δ:Ds)(g:`gQ):TI:=fun σ H R=>∃items,`bB/\`aA=`Pp/\∀J H',`bI->ItD K B J `bJ H'->R J H'
structure PID(X:Cx)(tg e:`G)(g:`gQ):Prop where
 mk::go:`aXb
instance{X:Cx}{tg e:`G}{g:`gQ}:`fr (PID X tg e g) `aXb:=#[PID.go]
def _root_.L2.PI.imp{t t':TI}(h:PI X tg e t)(q:∀σ H R,t' σ H R->t σ H R):PI X tg e t':=(λpins s σ H R I z=>`di h R (q σ H R z))
def V4(h:`b7):`an3 vs0:=(.mk λB δ=>`zh (Ql0 `dq) fun σ H R hq84=>by
 apply `zi hq84
 delta vs0 at e1;cases e2:`aA with
 | none=>apply `as;cases e1
 | some d=>
  apply `as;cases d<;>simp[Vl0] at e1
  subst e1;apply `an4;rw[w80] at r;apply `an5;apply `aXc
  ·have:`y0:=`NM
   apply `an6
  ·let#[e3,y]:=y
   apply `an7;have:=`an8;apply `ay e4;cases `w;subst e3;apply `an9
  ·exact`an')
def O9(h:`b7):`an3 `kg:=(.mk λB δ=>`zh (zd1 `dq) fun σ H R hq85=>by
 apply `zi hq85
 delta tupI at e1;cases e2:`aA with
 | none=>apply `as;cases e1
 | some d=>
  apply `as;cases d<;>simp[Gj0] at e1
  subst e1;apply `an4;rw[wo0] at r;apply `an5;apply `aXc
  ·have:`y0:=`NM
   apply `an6
  ·let#[e3,y]:=y
   apply `an7;have:=`an8;apply `ay e4;cases `w;subst e3;apply `an9
  ·exact`an')
def X70(x:Str):(`o (`y' x))=`G?:=`en `y'
def K3(h:`b7):`an3 fi0:=(.mk λB δ=>`zh (yc1 `dq) fun σ H R hq86=>by
 apply `zi hq86
 delta fi0 at e1;cases e2:`aA with
 | none=>apply `as;cases e1
 | some d=>
  apply `as;cases d<;>simp[Rw0] at e1
  subst e1;apply `an4;rw[w40] at r;refine#[_,r,`aKP]
  ·rw[X70] at hi;exact hi
  ·let#[e3,c,hc,rfl]:=y
   subst e3;refine#[`LK,`oN,?_,λB' gB _=>`abA];delta signs;rw[`cH,`F1,hc];rfl
  ·rw[X70] at hi;exact hi)
def be0(lo hi:Int):(`o (u00 lo hi))=`w8:=`en u00
def Qz0{B:BS}(lo hi:Int):ItD K B (Itr lo `w8) (u00 lo hi) H:=by
 refine`aeq
 ·rw[be0] at hi;exact hi
 ·let#[e3,rfl]:=y
  rw[be0] at hi;subst e3;exact#[`LK,`alj,by simp[u00,hi],λB' gB _=>`B2]
 ·rw[be0] at hi;exact hi
open T in
def c7{a:`G}{p:Pos}(hm:`ST)(ha:`aXd)(hg:`aXe)(hs:`SU):PID X tg `aQz (t70 gA):=(
 .mk λB δ=>`zh (J20 hg hm `bK hs) fun σ H R hq87=>by
 apply `zi hq87
 delta t70 at e1;cases e2:`dk with
 | none=>apply `as;cases e1
 | some ds=>
  apply `as;apply `fu;delta Op0 at e1;split at e1
  ·split at e1
   ·rename_i j hj
    cases e1;apply `an!;rw[O8] at r;apply `zj;rw[ze0] at r2;subst r2;rw[ys0] at r1;subst r1;refine#[j,rfl,hj.1,hj.2,k _ H' s' ?_];have:=Qz0 (K:=X.K) (B:=B) (H:=H') 0 j;apply `ay Int.sub_zero;exact `w
   ·cases e1
  ·cases e1)
open T in
def Z3{a:`G}{p:Pos}(hm:`ST)(ha:PDA X `mO gA)(hg:`aXe)(hs:`aQC)(hs2:`aQD):
  PID X tg `aQE (dp0 gA):=(.mk λB δ=>`zh (My0 hg hm `bK hs hs2) fun σ H R hq88=>by
 apply `zi hq88
 delta dp0 at e1;cases e2:`dk with
 | none=>apply `as;cases e1
 | some ds=>
  apply `as;apply `fu;delta Ps0 at e1;split at e1
  ·split at e1
   ·rename_i i j hj
    cases e1;apply `an!;rw[O8] at r;apply `zj;rw[O8] at r2;let#[y,t',rfl,r2,r3]:=r2;rw[ze0] at r3;subst r3;rw[ys0] at r1 r2;subst r1 r2;exact#[i,j,rfl,#[hj.1.1,hj.1.2,hj.2.1,hj.2.2],k _ H' s' (Qz0 i j)]
   ·cases e1
  ·cases e1)
def EnvS.lower{H₁:Hp}{σ:St}{δ:Ds}(e:`uO K H₁ `bh H σ δ)(s:`cP `bg H₁)(b0:`anY):`dr:=by
 let#[B,b1,b2,en]:=e.ex;exact#[`aKq e.same,#[B,b1,λa z=>(b2 a z).imp id λq=>s.free q,en],λi ds a h1 h2=>s.free (`aW'),b0]
open Classical in
def p7{f:`aR}(hp:`GH)(hc:`dV)(hi:`j0)(hg:`HA)(hb:`aXf)
  (hs:`f8):PSD X `alx (vc0 gi f G):=(.mk λH₀ B₀ δ pins s σ H D I hq89=>by
 apply `bC hq89
 delta vc0 at e1;apply `bl;cases e2:`Eq with
 | none=>apply `as;cases e1
 | some items=>
  apply `as;apply `fu;apply `aXg
  have a8:`aXh `aXi:=`aXj `aXk
  apply `aXl;apply `aXm
  apply `aXn
  apply `aXo
  apply `aXp
  have a3:`aXq:=#[λb o h=>by
   by_cases z:`B'
   ·rw[`aXr] at h;cases h
   ·rw[O] at h
    have h':(`Ex)=`aF:=h;rw[`qu] at h';exact h',λb o xs h=>by
   by_cases z:`B'
   ·apply `aXs
    apply `aXt;cases h0
   ·rw[O]
    show (`Ex)=_;rw[`qu];exact h]
  have hS:`aXu:=#[λb o h=>by
   have h1:=`aXv
   by_cases z:B b
   ·rcases b2 b z with q|q
    ·rw[a4 b q];exact h1
    ·rw[h] at q;cases q
   ·rw[Y b z];exact h1,`aXw]
  have Z:=`nh;have start:`aXx:=by
   apply `aXy
   ·by_cases q:`n6
    ·exact `jn
    ·exact `aXz
   ·have hn:=`aXA
    have nb:¬`n6:=λz=>`jw a z hn
    apply `aXB;rw[h2] at e3;cases e3;cases e4;exact `aXC
   ·rw[a4 a z]
    exact `aXD
  obtain⟨W,hW⟩:∃W:`aQF,∀i m σ H,`aQG↔`aXE w90:=`aXF;refine#[W,#[_,`HF #[rfl,`bP,δ,`kO,e1]],?_];intro i m σi Hi w0;let#[hm,b4,δi,M,ei]:=`aXG;clear w0;subst hm;apply `aXH
  by_cases hlt:`HE
  ·refine `aXI w90 #[`UJ,`ch,`HF #[rfl,hlt,δn,en',e']]
   apply `aXJ;apply `aXK;have a6:`aXL:=rd B' (λb o n h=>by
    have h':Hh b=`aF:=`ai5
    apply `aXM;rcases c2 b z with q|q
    ·exact `aXN
    ·rw[h'] at q;cases q) env0.bad
   have a5:=`aXO
   replace M:=M.grow sm
   have a2:`aXP:=by
    rw[`an?];congr 1;rw[`aoa] at hd;exact B4 hd
   rw[a2] at ei;delta w90 at ei;cases e3:f d δi with
   | none=>rw[e3] at ei;cases ei
   | some δ2=>
    rw[e3] at ei;simp only[`s] at ei;apply `aXQ;apply `aXR;cases e4:G δ2 with
    | none=>rw[e4] at ei;cases ei
    | some rb=>
     rw[e4] at ei;apply `aXS;cases rb with
     | nx δn=>apply `aob
     | ct δn=>apply `aob
     | bk δn=>
      cases ei;exact `tt (k σ' H' (en'.lower hS `jw))
     | rt d'=>
      cases ei;exact `RO (k v H' (`aoc s') r')
     | rf d'=>
      cases ei;exact `RP (k p H' (hS.free hp) (`aoc s') r')
  ·have e:i=`jb:=`ch
   subst e;apply `aXT;rw[`UK] at ei;cases ei;exact `aXU)
structure PFD(X:Cx)(ifs:`d3)(g:`hG):Prop where
 mk::go:`aXV
instance{X:Cx}{ifs:`d3}{g:`hG}:`fr (PFD X ifs g) `aXV:=#[PFD.go]
def Q5:PFD X [] noT:=(.mk λB δ pins s σ H Q I hq90=>by
 let#[b,en,e,k]:=hq90
 cases e;exact `di zi1 Q (k H `q6))
def K4(h:`Hw):PFD X [c] gt:=(`ft Bx0 `dq)
def Jv0{σ:St}(h:j<n):`hv[j]?=`cN:=by
 delta us0;rw[`h' `fX,`tW,`bM]
def mg0{B:BS}:∀n:Nat,`cu `Pu (`cr n (`g:`ep)) (`aXW):=by
 intro z;induction z with
 | zero=>exact `ah
 | succ n ih=>exact `aE `sl (ih)
theorem Sv0{B:BS}{σ:St}{δ:Ds}(en:`bB):∀caps:`j,`cu `Pu (`aUA) (`aVx)
 | []=>`ah
 | j::`dF=>by
  refine `aE ?_ (Sv0 en `dF);show SlR K H B `ae! (Vn0 `sV);cases h:`sV with
  | none=>trivial
  | some sl=>
   cases sl with
   | un=>trivial
   | ow ds=>trivial
   | ex c n=>trivial
   | sh d=>
    let#[v,e,r]:=en.get h;rw[e];exact`aWD
def J70{o:`T9}{ds:D}(h:Vn0 o=`aa8):`cx:=by
 cases o with
 | none=>cases h
 | some s=>cases s<;>cases h
def bj0{δ:Ds}{ds:D}(h:`r?[i]?=`Ew):`cx:=by
 delta po0 at h
 by_cases hi:i<n
 ·rw[`Ti,`tW,`I hi] at h
  cases h
 ·rw[`al?,`cH] at h
  cases q:`dF[i - (`o `aXW)]? with
  | none=>rw[q] at h;cases h
  | some j=>
   rw[q] at h;exact J70 (B4 h)
def Env.comp{B:BS}{σ:St}{δ:Ds}(en:`bB)(n:Nat)(caps:`j):Env K H B `hv `r? :=(
 #[`vo (mg0 n) (Sv0 en `dF),en.bad,`aXX])
def SlR.gr{B:BS}{o:`ep}{s:Sl}(g:`eT)(no:∀ds,s≠`aa8)(h:`aWC):SlR K H' B' o s:=by
 cases s with
 | un=>trivial
 | sh d=>apply `gS;apply `HG
 | ow ds=>exact `K rfl (no ds)
 | ex c n=>let#[a,e,r]:=h;exact#[a,e,`x_]
def Pd.impG{B:BS}(g:`eT):∀{σ:St} {δ:Ds},(∀(i:Nat) (ds:D),`c6≠`Ew)->`aWA->`cu (SlR K H' B') σ δ:=by
 intro σ δ no p
 induction p with
 | nil=>exact `ah
 | cons r t ih=>exact `aE (r.gr g λds z=>no 0 ds (`UL z)) (ih λi ds z=>no `dn ds (`aod))
def tDF(K:`C)(B:BS)(δ:Ds)(g:`cA):TE:=`ir (∃d,`bB/\`iG/\`aXY)
structure PDF(X:Cx)(e:`G)(g:`cA):Prop where
 mk::go:`aXZ
instance{X:Cx}{e:`G}{g:`cA}:`fr `zk `aXZ:=#[PDF.go]
def tD.toF{B:BS}{δ:Ds}{σ:St}{Q:VK}(h:`ze tD g):`ze tDF g:=by
 let#[d,en,e,k]:=h;exact#[d,en,e,λp H' hp s r=>k _ H' s (r.rp `aLQ (en.free hp))]
def PDF.pd(h:`zk):`b7:=(`ft (`_!).imp fun σ H Q z=>z.toF)
def eb0{K:`C}{B:BS}{δ:Ds}{σ:St}{H:Hp}{Q:VK}{caps:`j}{gi:`gQ}{f:`aR}{gt:`hG}{ge:`cA}(hidx:∀j∈idx,j<n)
  (h:`ze tDF `NO):
  Nl0 n `dF (tDI K B δ gi) (`aBs K) (`Dr tDT K gt) (`Dr tD K ge) σ H Q:=by
 apply `qr;delta yh0 at h;cases e1:`Eq with
 | none=>rw[e1] at h;cases h
 | some items=>
  rw[e1] at h;apply `dQ
  by_cases hsz:`T'
  ·rw[`I hsz] at h
   cases e2:`afb with
   | none=>rw[e2] at h;cases h
   | some a3=>
    rw[e2] at h;cases h;refine#[`bJ,en,e1,λJ H1 s1 it=>λL hL=>?_];skip;have Y:=`hc;have b0:¬B L:=Y.free hL;obtain⟨Bp,M⟩:∃Bp:BS,Bp=λa=>B a∨a=L:=`al
    have a7:Bp L:=`k M `Mx
    have b1:∀a,B a->Bp a:=λa z=>`k M `hd
    have a2:∀a,Bp a->B a∨a=L:=λa z=>by rw[M] at z;exact z
    have gr:∀{H2:Hp},`TW->Gr H1 H2 B Bp:=λ{H2} s2 b o nb hb=>#[(λz=>by
     rcases a2 b z with q|q
     ·exact nb q
     ·subst q;rw[hL] at hb;cases hb),s2 b o hb]
    obtain⟨W,hW⟩:∃W:`am8,∀i m ys H2,`am9↔m=`jb - i/\`aGy/\H2 L=`ae?/\`TW/\`bx<=i/\∃pre rest,a3=pre++`bG/\Rps K H2 Bp pre ys/\`wj `r? (`Cz i)=`c `bG:=`aXF;done;refine#[W,#[_,`HF #[rfl,`bP,yb0,yw0 hL,`fA,[],a3,rfl,`jg,e2]],?_];intro i m ys H2 w0;skip;let#[hm,b2,hD,s2,hyl,pre,rest,ho,rp,ec]:=`aXG;clear w0;subst hm;have O:Env K H2 Bp `hv `r?:=by
     refine#[Pd.impG (gr s2) (λi ds z=>bj0 z) (Y.comp n `dF).all,`ll,`aXX];rcases a2 a z with q|q
     ·exact(Y.same s2).bad a q
     ·subst q;rw[hD];exact .of rfl `aWq λ_ z=>nomatch z
    by_cases hlt:`HE
    ·done;refine `u #[it.go i H2 `UM hlt,λx H3 y=>?_]
     let#[sm,dx,a1,rx]:=it.yld i H2 x H3 `UM y hlt;have a4:Rp K H3 Bp dx x:=rx Bp (gr (`HH sm)) O.bad
     replace O:=O.same sm
     replace s2:=`HH sm
     replace hD:=sm _ _ hD
     replace rp:=rp.same sm
     have Z:`Cz i=dx::`Pz:=by
      rw[`an?];congr 1;rw[`aoa] at a1;exact B4 a1
     rw[Z] at ec;delta wl0 at ec;cases e3:f dx `r? with
     | none=>rw[e3] at ec;cases ec
     | some δ'=>
      rw[e3] at ec;dsimp only at ec;refine#[Bp,dx,`aAs,δ',a4,O,e3,fun σ4 w en4=>#[#[w.len,λj v z=>?_],?_]]
      ·by_cases hj:j∈idx
       ·rw[Jv0 (hidx j hj)] at z;cases z
       ·rw[(w.oth j hj).1];exact z
      ·cases e4:`NG with
       | none=>rw[e4] at ec;cases ec
       | some t=>
        rw[e4] at ec;refine#[Bp,δ',t,en4,e4,λH5 s5=>?_];cases t with
        | false=>
         rw[`p'];exact#[`UJ,`U,`HF #[rfl,hlt,s5 _ _ hD,`HH s5,`U,pre,`bG,ho,rp.same s5,ec]]
        | true=>
         rw[`a4];dsimp only at ec;cases e5:`Ep with
         | none=>rw[e5] at ec;cases ec
         | some yd=>
          rw[e5] at ec;dsimp only at ec;cases e6:`wj `r? (`Pz) with
          | none=>rw[e6] at ec;cases ec
          | some rest'=>
           rw[e6] at ec;cases ec;refine#[Bp,δ',yd,en4.same s5,e5,λv H6 s6 r6=>?_];have a6:H6 L=`ae?:=s6 _ _ (s5 _ _ hD);have g6:Gr H6 (upd H6 L (`m (ys++[v]))) Bp Bp:=λb o nb hb=>#[nb,by
            rw[zi0 (λz=>nb (`k z a7))];exact hb]
           refine#[a6,`U,`UJ,`U,`HF #[rfl,hlt,yb0,#[`aX_,λb ob zs hb=>?_],`aap,pre++[yd],rest',`id ho,?_,e6]]
           ·have a8:b≠L:=λz=>by rw[z,hL] at hb;cases hb
            rw[zi0 a8];exact s6 _ _ (s5 _ _ (s2 _ _ hb))
           ·by_cases z:b=L
            ·rw[z,yb0] at hb;cases hb
            ·rw[zi0 z] at hb
             exact s2.nf _ _ _ (s5.nf _ _ _ (s6.nf _ _ _ hb))
           ·exact(`zl ((rp.same s5).same s6) r6).mono g6
    ·have e:i=`jb:=`U
     subst e;done;refine `n #[it.stop _ H2 `UM `bq,?_];rw[`UK] at ec;have a5:([]:`i)=`bG:=B4 ec;subst a5;rw[`du] at ho;subst ho;refine k L H2 (`sI hL) `kR #[ys,hD,?_];rw[M] at rp;exact rp
  ·rw[`ap hsz] at h;cases h
def S60{sc scope:`ev}{elt iter:`G}{ifs:`d3}{N':`e}{n:Nat}{caps:`j}{gi:`gQ}{idx:`j}{f:`aR}{ge:`cA}
  (hc:`dV) (hsc:`rk) (ok:`y7) (hidx:∀j∈idx,j<n) (hi:`j0)
  (hg:`t7) (ht:`zm) (he:`t8)
  (hs:`f8):
  `aoe:=(.mk λB δ=>
 (Qi0 hc hsc ok `ait (g:=`Pw) (tt:=`aof) (te:=`aog)
  `aoh
  `aX0
  `aoi hs).imp fun σ H Q h=>eb0 hidx h)
def Ea0{sc scope:`ev}{elt iter:`G}{ifs:`d3}{N':`e}{n:Nat}{caps:`j}{gi:`gQ}{idx:`j}{f:`aR}{ge:`cA}
  (hc:`dV) (hsc:`rk) (ok:`y7) (hidx:∀j∈idx,j<n) (hi:`j0)
  (hg:`t7) (ht:`zm) (he:`t8)
  (hs:`f8):
  `aoj:=((`aok S60 ok).pd)
def Rn0(i:Nat){y:Str}{py spos:Pos}{sc scope:`ev}{elt iter:`G}{ifs:`d3}{N':`e}{n:Nat}{caps:`j}{gi:`gQ}{idx:`j}{f:`aR}{ge:`cA}
  (hN:`fp) (hc:`dV) (hsc:`rk) (ok:`y7) (hidx:∀j∈idx,j<n) (hi:`j0)
  (hg:`t7) (ht:`zm) (he:`t8)
  (hiN:`HI) (hy:`nG)
  (hsw:`T5)
  (hs:`f8)
  (hf:`lT):
  `aol:=(.mk λH₀ B₀ δ pins s σ H D I hq91=>by
 skip;apply `bC hq91
 delta z00 at e1;apply `bl;cases e2:`aVP with
 | none=>apply `as;cases e1
 | some d=>
  apply `as;cases e1;done;refine Pd0 (i:=i) hN hiN hy hc hsc ok `ait (g:=`Pw) (tt:=`aof) (te:=`aog)
   `aoh
   `aX0
   `aoi hsw hs hf `z s σ H D I (eb0 hidx (tD.toF #[d,env,e2,`RO (k _ H' (en.wr b1 b2 s' Vx0 ((`an0).set i r')))])))
omit z
def ri0{B:BS}{N:`e}:∀{ds:`i} {vs:`P},`afo->`cu `Pu (`aSj) (ds.map `Fg):=by
 intro z;induction z with
 | nil=>intro _ h;apply `jW;subst h;exact `ah
 | cons d ds ih=>
  intro _ h
  rw[O8] at h;apply `zn;exact `aE `Uj (`za)
def tc0{N:`e}{es:D}(h:`BG[i]?=`aWB):`cx:=by
 delta xa0 at h
 by_cases hi:i<`b2
 ·rw[`Ti,`cH] at h
  cases q:`Ui with
  | none=>rw[q] at h;cases h
  | some d=>rw[q] at h;cases h
 ·rw[`al?,`tW] at h
  apply `aom
section
variable{P:`av}{w:`T}
def okD{st:`a0}{N ps:`e}{k:Nat}{f:`r}{G:`gR}(F:`aon)(S:`qg)
  (body:`UN)
  (hf:`aoo):
  `aX1:=by
 apply `HJ
 ·skip;apply `UO;done;rw[`a2];exact`HK
 ·skip;apply `UP;done;apply `UQ
  skip;have en:`HL:=by
   apply `HM;apply `HN;rw[`a2];apply `HO
  apply `aop
  ·done;apply `aoq
  ·done;apply `aor
  ·done;apply `aos
def spN(K:`C)(f:`r):Sp:=`aWX `aXY
def okN{st:`a0}{N ps:`e}{k:Nat}{f:`r}{G:`gR}(F:`aon)(S:`qg)
  (body:`UN)
  (hf:`aX2):
  `aX3:=by
 apply `HJ
 ·skip;apply `UO;done;rw[`a2];exact`HK
 ·skip;apply `UP;done;apply `UQ
  have en:`HL:=by
   apply `HM;apply `HN;rw[`a2];apply `HO
  apply `aX4
omit z
omit DL
open Y
def R00:∀{bs:`Ez} {us:`am} {i:Nat} {v:`A},`b_ (`afv) us->`aX5->v=`gA (`aGB):=by
 intro z;induction z with
 | nil=>
  intro _ _ _ r e
  rw[`hE] at r;cases r;simp at e
 | cons b bs ih=>
  intro _
  intro z2;cases z2 with
  | zero=>
   intro v r e
   rw[`J] at r;cases r with
   | cons r1 r2=>simp at e;subst e;exact r1
  | succ i=>
   intro v r e
   rw[`J] at r;cases r with
   | cons r1 r2=>simpa using ih (i:=i) r2 (`Uk)
def all_range(bs:`Ez):(`bc bs.length).all (`aX6)=bs.all id:=by
 rw[`ny,`gT,`gT];constructor
 ·intro h b hb
  let#[i,hi,rfl]:=`zo hb;have:=h i (`kr hi)
  simpa [u8,hi] using `w
 ·intro h i hi
  have J:=`vn hi;have:=h bs[i] (D6 J)
  simpa [u8,J] using `w
def V9(hc:`dV):`er X `aX7 (`aX8 X.K):=by
 apply `aX9;skip;let#[p,bs,rfl,hq,q]:=h;let#[u,rfl,ru]:=rs.one;cases ru;let#[its,rv,pl,hz]:=`sj;done;refine call_all_walk (x8 `hC ?_);have hp:p≠`L:=by
  let#[o,n,e,_]:=pl;exact B9 `mL
 refine#[_,_,_,_,_,_,`aX6,rfl,`aX' (A:=`aHz) `lN `L p hp `bj,#[`w7,pl.isList.push _],?_,?_]
 ·intro i v s' Q' E' hP hQ
  have e:=R00 rv (i:=i) (v:=v) (`a7 hP);subst e;exact P5 hQ
 ·intro h' tk hk
  have e1:`hp=bs.length:=by
   have:=`p9;simp at this;simp[`w]
  rw[e1,all_range];refine#[`afw,H,`GG (t':=tk) `HP,rfl,q];refine hk b o ?_ `Hb;intro z;have z':b=`L:=`aod
  subst z';exact `aUY
def bl0:`aX! `aX?:=by
 intro z;induction z with
 | nil=>intro _ r;rw[`hE] at r;cases r;exact `ah
 | cons y ys ih=>
  intro _ r
  rw[`J] at r;cases r with
  | cons r1 r2=>
   let#[t,e]:=r1;subst e;exact `aE y t (ih r2)
def Ek0:MtR X "str.join" (λx xs H Q=>∃(sep:Str) (p:`f) (ys:`e),x=`p sep/\`v5/\SqL X.K H p `yk/\`aVE/\Q `aVF H):=by
 apply `aYa;skip;let#[sep,p,ys,rfl,rfl,hq,hz,q]:=h;apply `cz;let#[u,rfl,ru]:=rs.one;cases ru;let#[its,rv,pl,_]:=`sj;done;exact join_list `hC `aYb hz `aYc
def part_of{o:`bw}(p:`CG u o):∃l:`aT (Int×Tok),u=partValue l/\`k1=o:=by
 cases p with
 | none=>exact#[`g,rfl,rfl]
 | int i t=>exact#[`c (i,t),rfl,rfl]
def Br0:SlR X (`Tq (∃z,x=`on/\`xa/\Q `aYd H)):=by
 apply `Ts;skip;let#[z,rfl,hz,q]:=h;apply `cz;let#[l,rfl,rfl]:=part_of pl;let#[u,rfl,rfl]:=part_of pu;done;refine#[`jT,_,F.slot_str_getitem.lookup,g7 _ _ _,wpAny_getItem_str_slice (l:=l) (u:=u) (st:=`g) ?_ rfl (post_val_or_str #[C3 (Txt.slice_le z _ _) hz,`aYc])];let#[o,h1,h2,h3]:=hs;exact#[o,h1,h2,h3]
omit L2
open X
def tyD:D->`da
 | `y=> "NoneType"|`cL=> `zp|`cZ=> `jU|`co=> `jT|`Hd=> `dg|`eo=> `eV|`t9=> `ij|`zq=> `B0
def okT(T:`da)(f:`ey):Prop:=∀(K:`C) (d:D),W.kitOne K (`cR (tyD d)) `NB=`c (f d)
def J6:okT `jU isInt:=(`UR)
def G5:okT `jT `x!:=(`UR)
def U4:okT `zp isBool:=(`UR)
def X8:okT `dg `Ls:=(`UR)
section
def Jm0{T:`da}{f:`ey}(hT:okT T f):`er X (`cW `zr) (`tx (∃B d x,xs=[x,.ty T]/\`HQ/\`GO (f d))):=by
 apply `aX9;skip;let#[B,d,x,rfl,r,q]:=h;let#[u,c,rfl,ru,rc]:=rs.two;obtain rfl:c=`m2 T:=rc;have fin:∀tk,`po (`gA (f d)) ((`BI tk)):=λtk=>#[`cL,H,I.tok tk,rfl,q]
 have e:=hT X.K d;cases d with
 | non=>rw[wh0] at r;subst r;cases (`x9 (u=`xp));done;exact `pU W.kitx_none `pP
 | bl y=>rw[xz0] at r;subst r;cases (`x9 (u=`CM y));done;exact `pU W.kitx_bool `pP
 | int i=>rw[ys0] at r;subst r;let#[t,rfl]:=(`x9 `RA);done;exact `pU W.kitx_int `pP
 | str y=>rw[w40] at r;subst r;let#[t,rfl]:=(`x9 (∃t,u=`w0 y t));done;exact `pU W.kitx_str `pP
 | tup ds=>
  rw[wo0] at r;apply `aot;apply `US;let#[its,_,p,_]:=`mK `j1;let#[o,h1,h2,_]:=p;done;exact `pU W.kitx_tuple `aYe
 | lst ds=>
  rw[w80] at r;apply `aot;apply `US;let#[its,_,p,_]:=`hW `j1;let#[o,n,h1,h2,_]:=p;done;exact `pU W.kitx_list `aYe
 | dct ks ds=>
  rw[h00] at r;let#[a,xs,rfl,_,hq,_]:=r;apply `US;cases ks with
  | inl ks=>
   let#[_,_,vs,_,p]:=(`aou (`Pr) `aYf);let#[o,es,ep,h1,h2,_]:=p;done;apply `aYg
  | inr ks=>
   let#[_,_,vs,_,o,es,ep,h1,h2,_]:=(`aou (`anr) `aYf);done;apply `aYg
 | fn ks ds=>
  rw[Vr0] at r;apply `aot;apply `US;let#[oF,_,_,_,_,_,_,_,_,#[_,h1],#[h2,_],_]:=hq;done;exact `pU KfT.kit #[oF,(`bT a _ h1).1,h2]
def t8{T:`da}{f:`ey}{Tn:Str}{p p2 pos:Pos}(hT:okT T f)(hb:`gr Tn=`amb)(hm:`ct `zr=`g)(hmT:`ct Tn=`g)(h:`b7)(hg:`hf `zr)(hgT:`hf Tn)
  (hn:`af2 Tn) (hd:`ES Tn)
  (he:`oL [e,`NQ] (`n3::`aov)) (he2:`Bf `aov (`lg (`NQ)))
  (hpl:`q5 (`C3 `aov)):
  PD X (`pS `zr [e,`NQ]) (uh0 f g):=(
 .mk λB δ=>(gs0 (Jm0 hT) hg hm PyProof.Rows.boot_isinstance (vv0 `dq (vv0 (Dg0 (v:=.ty T) hgT hmT hb rfl hn hd) t00 he2) he) `E `E he hpl).imp fun σ H Q hq92=>by
  apply `bo hq92
  delta uh0 at h;cases e1:`aA with
  | none=>rw[e1] at h;cases h
  | some x=>
   rw[e1] at h;cases h;exact`Hy x #[B,x,v,rfl,r1,k _ H1 s1 `LG])
open T in
def Me0{C:`alB}[∀i j,`aow (C i j)]{g:`SZ}{g':`aYh}(hg:`aYi):Op2 K (rI C g) (ii λi j=>`D (C i j) `aYj `g):=by
 apply `hI;apply `aYk
 rename_i i j;split at h
 ·cases h
  rw[ys0] at rx ry;subst rx ry;exact#[i,j,rfl,rfl,`q8,`aYl]
 ·cases h
open T in
def eo0{g:`SZ}{g':`aYh}(hg:`aYi):`HR g (ii λi j=>`aYj):=by
 apply `hI;apply `aYk
 rename_i i j;rw[ys0] at rx ry;subst rx ry;exact#[i,j,rfl,rfl,`aYl]
instance decDiv(i j:Int):`aow (I30 i j):=inferInstanceAs (`aow (`S1))
variable{a:`G}{ga:`cA}
def zo0(ha:`c0)(hb:`dP):`lX (`w9 .Sub) u90:=(dx0 Aa0 (eo0 (g':=`aQV) `aox) ha hb)
def Q6(ha:`c0)(hb:`dP):`lX (`w9 .FloorDiv) yx0:=(dx0 Cy0 (Me0 (C:=I30) (g':=`aQX) `aox) ha hb)
def z60(ha:`c0)(hb:`dP):`lX (`w9 .Mod) xb0:=(dx0 Aj0 (Me0 (C:=`aQY) (g':=`aQZ) `aox) ha hb)
omit z
omit DL
open Y
def Fp0(K:`C):R2:=`c? (∃l b xs zs,`ae6/\`yY/\SqL K H l xs/\`aYm/\`aYn/\`t_ `UT)
def Ru0:`y_ `GN Fp0:=by
 apply `ew;skip;apply `aYo;cases rx;cases ry;let#[its,r,p1,z1]:=`hW hH;apply `aYp;apply `aYq;let#[#[a3,Z,data2,a2],Y,O,n2,M]:=`aoy;simp only at hc hd O M;subst hc hd O M;have e:`bj++`E0=(`hr (its++J)):=`a_
 have a1:`aYr:=by
  rw[`cm,`cm,← `a2,← `o!];exact hz
 done;refine y4 `lR `aYs noFill_list_add seq_list_add PySem.F.slot_list_add PySem.F.entry_list_add (PySem.F.args_list_add_2 _ _) (list_addW l b `bj `E0 n n2 dd Z sl a2 a1) #[ho,Y,?_];rw[e];exact`aYt (`Pj r2) (`aTf)
omit L2
open X
section
variable{a:`G}{p:Pos}{ga:`cA}
def W60{B:BS}(hb:`vD){p:`f}(h:`lj):¬B p:=(λz=>hb p z h)
def lv0{B:BS}{p:`f}(hb:`vD)(h:`lj)(r:`bi):Rp K (upd H p `kJ) B `u6 `i_:=by
 rw[w80];exact#[p,xs,rfl,`n #[W60 hb h,`anT],`aYu]
def dj0{B:BS}{p:`f}(hb:`vD)(h:`lj)(r:`bi):Rp K (upd H p `q') B `oP `i_:=by
 rw[wo0];exact#[p,xs,rfl,#[W60 hb h,yb0],`aYu]
def g8:`HR `alG ltD:=(`UU `alG)
def o6:`HR `alH leD:=(`UU `alH)
def zm0:`HR `alI gtD:=(`UU `alI)
def y70:`HR `alJ geD:=(`UU `alJ)
def Kt0{B:BS}{x y:V}{dx dy:D}{b:`aj}(rx:`anL)(ry:`aWK)(h:`aoz=`ih):`alD/\`GP=b:=by
 cases dx<;>cases dy<;>simp only[eqS] at h<;>try cases h
 all_goals
  simp only[wh0,xz0,ys0,w40] at rx ry;subst rx ry;refine`R6;simp
def j6:Op2 K rEq eqD:=by
 apply `hI;delta eqD at h;cases e:`aoz with
 | none=>rw[e] at h;cases h
 | some b=>
  rw[e] at h;cases h;let#[h1,h2]:=Kt0 rx ry e;exact`aYv
def zs0:Op2 K rNe neD:=by
 apply `hI;delta neD at h;cases e:`aoz with
 | none=>rw[e] at h;cases h
 | some b=>
  rw[e] at h;cases h;let#[h1,h2]:=Kt0 rx ry e;exact`aYv
def G6:Op2 K `aQ0 g40:=by
 apply `hI;have hy:dy=`y:=by cases dy<;>first|rfl|cases h
 subst hy;cases h;rw[wh0] at ry;refine#[ry,`UV];rw[xz0];cases dx<;>simp only[wh0,xz0,ys0,w40,wo0,w80,h00,Vr0] at rx
 all_goals first
  | (subst rx;rfl)
  | (let#[a,xs,rfl,_]:=rx;rfl)
def J00(xs:`aV)(i:Int):`aGD=DL.atI xs i:=(rfl)
def jw0(n d:Nat)(o:`bw):`kP n d o=sIx n d o:=`Qa o
def Q60{B:BS}{i:Int}{d:D}(r:`bi)(h:`aYw):∃v,`aYx/\`dM:=by
 rw[J00];delta DL.atI at h ⊢;rw[`a2];cases e:DL.ixN `b2 i with
 | none=>rw[e] at h;cases h
 | some j=>
  rw[e] at h;exact `nB h
def zv1:Op2 K (rIx K) ixD:=by
 apply `hI;cases dx<;>cases dy<;>simp only[ixD] at h<;>try cases h
 ·split at h
  ·rename_i hz
   rw[w40] at rx;rw[ys0] at ry;subst rx ry;let#[c,hc,rfl]:=`HS;apply `fs #[_,_,c,rfl,rfl,hz,hc,`Uz]
  ·cases h
 ·skip;rw[wo0] at rx
  rw[ys0] at ry;subst ry;apply `HT rx;let#[v,hv,rv]:=Q60 r h;done;exact `u (`aYy)
 ·skip;rw[w80] at rx
  rw[ys0] at ry;subst ry;apply `HT rx;let#[v,hv,rv]:=Q60 r h;done;exact `aYy
def M7(ha:`c0)(hb:`dP)(hs:`UB):`lX `G4 ixD:=(yx1 yd1 zv1 ha hb hs)
structure PDO(X:Cx)(e:`yX)(g:`t2):Prop where
 mk::go:`aYz
instance{X:Cx}{e:`yX}{g:`t2}:`fr (PDO X e g) `aYz:=#[PDO.go]
def U3:PDO X `g uv0:=(.mk λB δ pins s σ H Q I hq93=>by
 let#[o,en,h,k]:=hq93
 cases h;exact `di Df0 Q (k H `q6))
def V3(h:`b7):PDO X (`g3) (`oh g):=(.mk λB δ pins s σ H Q I hq94=>by
 let#[o,en,hq,k]:=hq94
 delta someO at hq;cases e1:`aA with
 | none=>rw[e1] at hq;cases hq
 | some d=>
  rw[e1] at hq;cases d<;>simp[asI] at hq
  subst hq;exact Dv0 `dq `z s σ H Q I #[_,en,e1,`F7 #[_,`aYA,k H' s']])
def Qx0{B:BS}(r:`bi)(lo hi:`bw):`nE (cutD ds lo hi) `G3:=by
 delta cutD fv0;rw[`a2,jw0,jw0];exact(r.drop _).take _
def rg0{B:BS}{d:D}(h:`q0 [d]):∃v,xs=[v]/\`dM:=by
 rw[O8] at h;apply `zn;rw[ze0] at h2;subst h2;exact`Uj
def yp1:FnR K (`tx ((`aTM)∨∃p ys,`v5/\`aYB/\Q (`ae4) H)) xh0:=by
 apply `zs;delta xh0 at h;split at h
 ·split at h
  ·cases h
   apply `lY;rw[w40] at r1;subst r1;exact `n #[_,rfl,`q8,`Hr]
  ·cases h
 ·skip;cases h
  apply `lY;apply `nH;apply `t';done;exact `u #[a,ys,rfl,`aoA,`aYC]
 ·skip;cases h
  apply `lY;rw[wo0] at r1;apply `t';done;exact `u #[a,ys,rfl,`aoB,`aYC]
 ·cases h
def zc0(hm:`UW)(ha:`UX)(hg:`UY)(he:`d')(hpl:`ga):
  PD X `aYD (oA gA xh0):=(u9 (Tb0.or e40) yp1 hm A9 ha hg `E `E he hpl)
def Xa0{B:BS}:∀{ds:`i} {xs:`P} {bs:`Ez},`bi->bools ds=`c bs->xs=`afv:=by
 intro z;induction z with
 | nil=>
  intro _ _ r h
  cases h;rw[ze0] at r;exact r
 | cons d ds ih=>
  intro _ bs r h
  rw[O8] at r;apply `zj;cases d<;>simp only[bools] at h<;>try cases h
  let#[t',e,rfl]:=`HS;rw[xz0] at r1;rw[r1,ih r2 e];rfl
def y30:FnR K (`aX8 K) Ok0:=by
 apply `zs;delta Ok0 at h;split at h
 ·skip;let#[bs,e,rfl]:=`HS
  apply `lY;apply `nH;apply `t';have:=Xa0 rr e;subst this;done;exact#[a,bs,rfl,`fg,`EC]
 ·cases h
def bb0{B:BS}:∀{ds:`i} {xs:`P} {bs:`e},`bi->`T!=`c bs->xs=bs.map `o_:=by
 intro z;induction z with
 | nil=>
  intro _ _ r h
  cases h;rw[ze0] at r;exact r
 | cons d ds ih=>
  intro _ bs r h
  rw[O8] at r;apply `zj;cases d<;>simp only[l30] at h<;>try cases h
  let#[t',e,rfl]:=`HS;rw[w40] at r1;rw[r1,ih r2 e];rfl
def G3{apos cpos:Pos}(ho:`aoC)(ha:`UX)(hbase:`wu "join")
  (hfew:`H ((`nI
  &&`aoD)=`d) Aa)
  (hline:`gO) (hs:`d') (hplain:`qv):
  PD X (`HU o "join" [e]) (ot0 g gA):=(.mk λB δ=>
 (`aYE F.slot_str_join F.type_str_join Ek0).imp fun σ H Q hq95=>by
  skip;apply `bo hq95
  delta ot0 at h;cases e1:`aA with
  | none=>rw[e1] at h;cases h
  | some x=>
   cases e2:`dk with
   | none=>apply `ce;cases h
   | some ds=>
    apply `ce;apply `dQ;delta dl0 at h;split at h
    ·cases e3:l30 _ with
     | none=>rw[e3] at h;cases h
     | some ys=>
      rw[e3] at h;apply `dQ;split at h
      ·cases h
       done;refine`aYF;rw[w40] at r1;subst r1;refine`aYG;skip;let#[w,rfl,r3]:=rg0 r2;rw[w80] at r3;let#[a,zs,rfl,q,rr]:=r3;have:=bb0 rr e3;subst this;done;exact#[_,a,ys,rfl,rfl,`fg,`q8,k _ H2 `kR `ME]
      ·cases h
    ·cases h)
def z90:FnR K (`TN ((`aGE/\`aLJ)∨(`aGF/\Q `i_ H))) wb0:=by
 apply `zs;delta wb0 at h;split at h
 ·skip;cases h
  apply `lY;apply `nH;apply `t';done;exact#[a,ys,rfl,`n #[`fg,`aGW dj0]]
 ·skip;cases h
  apply `lY;have J:=r1;rw[wo0] at r1;apply `t';done;exact#[a,ys,rfl,`u #[`fg,k _ H `q6 J]]
 ·cases h
omit z
section
variable{a:`G}{p:Pos}{ga:`cA}
def zn0(h:`c0):PD X (`abe .USub a pos) (unG wc0 ga):=(.mk λB δ=>(wv1 z81 `dq).imp fun σ H Q hq96=>by
 apply `bo hq96
 delta unG at h;cases e1:`dO with
 | none=>rw[e1] at h;cases h
 | some x=>
  rw[e1] at h;cases x<;>simp[wc0] at h
  subst h;exact#[_,en,e1,`Dq #[_,`aYA,`aYH]])
def V8:PD X `aoE `BZ:=(.mk λB δ pins s σ H Q I hq97=>by
 apply `bo hq97
 cases h;apply `UZ;apply `U_;refine `aYI #[`gW,_,`oM (a:=`L) (o:=`aaN) (t':=`b?) `aer `bq
  #[`bP,`aoF,[],`ah,`aYJ `aY],rfl,k _ _ (yw0 hf) ?_]
 rw[pi0];exact#[_,[],rfl,en.free hf,yb0,rfl,`jg])
def FnD(P:`av)(w:`T)(K:`C)(mg:`cd)(base:`aa)(x:Str)(k:Nat)(ps:`e)(f:`r):Prop:=
 `aYK `aYL
def z40{k m:Nat}{ps:`e}{f:`r}(C:`aYM)(hr:`qw)(hk:k<=m)(ha:`jY)(hg:`f!)(hdb:`a9)
  (he:`d9) (hpl:`f9):`Hz:=by
 apply `aoG;exact Ca0 F `Db hm kp hb ha hg hdb he hpl
def d80{sc scope:`ev}{elt iter tg:`G}{ifs:`d3}{N N':`e}{n:Nat}{caps:`j}{gi:`gQ}{idx:`j}{f:`aR}{gt:`hG}{ge:`cA}
  (ok:`HV) (hidx:∀j∈idx,j<n) (hi:`j0)
  (hg:`t7) (ht:`zm) (he:`t8)
  (hc:`fv) (hsc:`t!) (hN:`t?) (hs:`f8):
  `aoj:=(`aok Ea0 `U0)
def Ut0(i:Nat){y:Str}{py spos:Pos}{sc scope:`ev}{elt iter tg:`G}{ifs:`d3}{N N':`e}{n:Nat}{caps:`j}{gi:`gQ}{idx:`j}{f:`aR}{gt:`hG}{ge:`cA}
  (hnd:`Gx) (ok:`HV) (hidx:∀j∈idx,j<n) (hi:`j0)
  (hg:`t7) (ht:`zm) (he:`t8)
  (hc:`fv) (hsc:`t!) (hN:`t?)
  (hiN:`HI) (hy:`nG)
  (hsw:`T5)
  (hs:`f8)
  (hf:`lT):
  `aol:=(Rn0 i (hN▸hnd) hc hsc `U0 hidx hi hg ht he hiN hy hsw hs hf)
omit z
open V
def fz:D->Sl
 | `t [`eo,`eo]=>.un
 | `t (`co::_)=>.un
 | `t [`cZ,`Hd]=>.un
 | d=>.sh (unl d)
open B
def nt0:Sl->Sl
 | `BH=>fz d
 | s=>s
def frz(δ:Ds):Ds:=δ.map nt0
def flat:`ey
 | `y=>`d|`cL=>`d|`cZ=>`d|`co=>`d|_=>`q
def tn0(g:GE):GE:=fun δ=>`aoH (`U1 `HW)
def jo0(g:GB):GB:=`aYN
def qu0(g:GE):GE:=`aYN
def frzAt(i:Nat)(δ:Ds):Ds:=match `c6 with
 | `c s=>`gy i `aoI
 | `g=>δ
def Hu0(i:Nat)(G:GS):GS:=fun δ=>G (frzAt i δ)
def wu0(i:Nat)(g:GE):GS:=`y8 λd=>.nx `sZ
abbrev GX:=Ds->`aT (D×Ds)
def xk0(g:GE):GX:=`y8 λd=>(d,δ)
variable{gx:DL.GX}
def v10(gx:GX)(ft:`aR):GS:=`HX `aoJ ((ft r.1 r.2).map .nx)
def R9(gx:GX):GS:=`HX `aoK (.nx r.2)
def owL(i:Nat)(δ:Ds):`q7:=match `c6 with
 | `aYO=>`or
 | _=>`g
def v20(i:Nat)(g:GE):GX:=fun δ=>`aoL λds=>`ka λd=>`hu (`b2<`R) (`y,`aYP)
def v60(i:Nat)(g:GE):GX:=fun δ=>`aoL λds=>`ka λd=>match d with
 | `mC=>`hu (`b2+`fh<=`R) (`y,`aYQ)
 | _=>`g
def pv0(i:Nat):GX:=fun δ=>`aoL λds=>(`aYR).map λd=>(d,`aYS)
abbrev Q3:=`acW
def uk0:D->`aT Q3
 | `b9=>`c (`yl)
 | `cG=>`c (`p1)
 | _=>`g
variable{ks:`aYT}
def d00:`i->`aYU
 | []=>`qm
 | `b1=>`U2 λk=>`Fi `U3 k
def mq0:D->`aYU
 | `c5=>`U3
 | _=>`g
def yz0{κ:Type}[`nJ]:`nK->`i->κ->`eC
 | `qx,`b1,q=>`D (k=q) `aQ `U4
 | _,_,_=>`g
open A
def xo0{κ:Type}[`nJ](ks:`nK)(k:κ):`aj:=ks.any λq=>`an (q=k)
def xt0{κ:Type}[`nJ](ks:`nK)(k:κ):`nK:=`D `agN ks `agT
def xy0{κ:Type}[`nJ](ks:`nK)(ds:`i)(q:κ)(v:D):`i:=`D `aoM (`aYV (`aDq)) (ds++[v])
def Y10(i:Nat)(δ:Ds):`aT (`zt):=match `c6 with
 | `HY `t3=>`c (ks,ds)
 | _=>`g
def putAt(i:Nat)(g:GE):`aR:=λv δ=>`aYW λr=>`ka λd=>`U2 λk=>
 `bL (`aYX<`R) (`gy i (`sn (xt0 r.1 k) (xy0 r.1 r.2 k v)))
def xg0:`bA
 | `lV,d=>match ks with
  | `Cp=>`U2 `aoN
  | `Hj=>(mq0 d).bind `aoN
 | _,_=>`g
def xu0(neg:`aj):`bA
 | d,`lV=>match ks with
  | `Cp=>`aYY `aYZ
  | `Hj=>(mq0 d).map `aYZ
 | _,_=>`g
def xw0(gt:GB)(G:GS):Nat->`gR
 | 0,_=>`g
 | n+1,δ=>match `hw with
  | `br=>`xf
  | `eN=>match G δ with
   | `fV=>`aY_
   | `ahs=>`aY_
   | `aht=>`fV
   | r=>r
  | `g=>`g
def ux0(i j:Nat):`aR
 | `U5,δ=>`c (`aY0)
 | _,_=>`g
open B
mutual
def deq:D->`ey
 | `y,y=>`amz
 | .bl a,y=>`amA
 | `y2,y=>`amB
 | `lo,y=>`amC
 | `fI,y=>(match y with|`L?=>`aoO|_=>`q)
 | `dx,y=>(match y with|`B5=>`aoO|_=>`q)
 | _,_=>`q
def un0:`i->`U6
 | [],[]=>`d
 | `tV,y::ys=>`aoP&&`aoO
 | _,_=>`q
end
mutual
def lean:D->`aoQ
 | `t9,_=>`q
 | `zq,_=>`q
 | `fI,n+1=>`Qq
 | `dx,n+1=>`Qq
 | `Hd,0=>`q
 | `eo,0=>`q
 | _,_=>`d
def leans:`i->`aoQ
 | [],_=>`d
 | `tV,n=>`cI x n&&`Qq
end
def jt0(x y:D):`eC:=`bL `aY1 (.bl (`aoP))
def rp0(x y:D):`eC:=`bL `aY1 (.bl (!`aoP))
def eqF:D->`ey
 | `y,y=>`amz
 | .bl a,y=>`amA
 | `y2,y=>`amB
 | `lo,y=>`amC
 | _,_=>`q
def vi0(neg:`aj):`bA
 | x,`B5=>`aY2
 | x,`L?=>`aY2
 | _,_=>`g
def se0:`r
 | `qo=>`qn
 | [`c5]=>`qn
 | _=>`g
def b80(acc:`e)(y:Str):`aj:=acc.any λz=>`an (z=y)
def jv0(acc:`e)(y:Str):`e:=`D `aY3 acc (acc++[y])
def t40(ys:`e):`e:=`aId jv0 []
def lt0:`r
 | `qo=>(`T!).bind λys=>`bL `aY4 (`h `pt)
 | _=>`g
def mkF(n:Nat)(N:`e)(G:GS)(ds:`i):`eC:=if `zu then (match `sb with
 | `x2=>`aQ
 | `o1=>`aY5
 | `c (.nx _)=>`c `y
 | _=>`g) else `g
def xj0{N:`e}{G:GS}{d:D}(h:`aY6):`zu/\`aDe:=by
 delta mkF at h;split at h
 ·rename_i hl
  refine`aY7;split at h
  ·rename_i e;cases h;exact `qb
  ·rename_i e
   split at h
   ·cases h
   ·rename_i hn
    cases h;apply `fs `aY8
  ·rename_i e;cases h;apply `nC #[rfl,_,e]
  ·cases h
 ·cases h
def mkN(n:Nat)(N:`e)(G:GS)(ds:`i):`eC:=if `zu then (match `sb with
 | `o1=>`aY5
 | _=>`g) else `g
open A
def t20{N:`e}{G:GS}{d:D}(h:`aY9):`zu/\`aft:=by
 delta mkN at h;split at h
 ·rename_i hl
  refine`aY7;split at h
  ·rename_i e
   split at h
   ·cases h
   ·rename_i hn
    cases h;exact`aY8
  ·cases h
 ·cases h
def w50{N:`e}{G:GS}{d:D}(hl:`zu)(h:`sb=`o1)(hn:`H (`Nm) Aa):`aY9:=by
 delta mkN;rw[`wx,h];simp only[];rw[hn];rfl
def w60(g:GE):GS:=`y8 .rf
def ps0(i:Nat):GS:=fun δ=>match `c6 with
 | `sD=>`o1
 | _=>`g
def xn0{G1 G2:GS}{δ:Ds}{d:D}(h:`o'=`o1):`Ua=`o1:=`anp
def v50{g:GE}{δ:Ds}{d:D}(h:`iG):w60 g δ=`o1:=by delta w60;rw[h];rfl
def z70{N:`e}{G:GS}{d:D}(hl:`zu)(h:`sb=`x2):`aY6:=by
 delta mkF;rw[`wx,h]
def p6{G1 G2:GS}{δ:Ds}{r:`KF}(h:`ano)(k:`He=r):`Ua=r:=((Ak0 h).trans k)
def yf0:`bA
 | `b9,`gw=>`c (`Pa)
 | `cG,`pQ=>`bL (`sv+y.length<=`R) (`p (x++y))
 | `dx,`B5=>`aY'
 | `fI,`L?=>`hu `afz (`amn)
 | _,_=>`g
def u11(x:Str)(n:Int):Str:=`aoR
def xm0:`bA
 | `b9,`gw=>`hu `aQS (`adg)
 | `cG,`gz=>`bL (`aoS/\n<`e_/\`aY!<=`R) (`p (u11 x n))
 | `fI,`fE=>`hu (`U7 2 `aY?) (`aoT)
 | _,_=>`g
def slA(d:D)(lo hi:`bw):`eC:=match d with
 | `on=>`hu `xa `aYd
 | `dx=>`dN `aoU
 | `fI=>`vG `aoU
 | _=>`g
def sk0(g:GE)(gl gh:GO):GE:=`hH λd=>`aZa λl=>`aZb λh=>slA d l h
omit DL
variable{ks:`aYT}{gx:DL.GX}
namespace Dep
open V
section
variable{w:`T}{K:Type}[`uZ K]{knd:`aZc}{A:`aq}{s:`v}{d a:`f}{xs:`aZd}{k:K}{v:`A}{Q:`p4}
def At(knd:`aZc)(h:`aa)(d:`f)(xs:`aZd):Prop:=
 ∃o es ep,`mk d=`aF/\`ajX/\`ajY/\`ajZ=`OH (`Sg knd)/\(∀x∈xs,`EF h x.1 x.2.1)/\`aNX
def At.old{h:`aa}(x:At knd h d xs):h.DictOfH knd d xs:=by skip;let#[o,es,ep,a,b,c,e,f,g,_]:=x;done;exact#[o,es,ep,a,b,c,e,f,g]
def put(hu:knd.room A)(hkey:`aZe)(hm:`aZf)
  (hQ:`aZg) (hsz:`se):
  `dH `aZh:=by
 skip;let#[o,es,ep,ho,hc,hd,he,J,hn,hp]:=hm;done;delta dictSet
 apply `G1
 apply `jQ knd.pyHash hu hkey;delta dictSetHashed
 apply `G1
 refine A1 (wpAny_dictFind_heap (s:=`aoV) hu hkey ho hd he J hn ?_ ?_)
 ·intro O
  have M:=atKey_none_of_get O;have Y:k∉`aFe:=not_mem_keys_of_get O;refine A1 (S4 (wpAny_updateDictKeys (hz:=by have e:=size_of_entries he;lia) (s:=`aoV) ho hd (hQ _ ?_ `ac1)));rw[storedH_new M];refine#[_,_,ep+1,i3 _ ho (`aZi (`aZj)),hc.mapDictKeys _,`aZj,by simp[he,`Sg],`iE,?_,`anj]
  ·rcases `c7 hx with hx|hx
   ·exact `aoW (J x hx)
   ·rw[`eb hx];exact `aoW hkey
  ·rw[`au,`aoX]
   exact#[hn,`a_,λx hx y hy e=>Y (by rw[`J,`hE,`EM] at hy;have e2:x=k:=`alS hy;rw[← e2];exact hx)]
 ·intro j p hj
  have Z:=atKey_of_get hn hj;refine `yy S4 (wpAny_updateDict (s:=`aoV) ho hd (wpAny_point (hQ _ ?_ `ac1)));rw[storedH_old Z];refine#[_,_,ep,i3 _ ho (`aZi (`aZk)),hc.mapDict _,`aZk,?_,`iE,?_,`anj]
  ·have:=modify_map_putAt (`Sg knd) (λe:`NW=>{ e with val:=v }) k v (`qy) hn hj
   rw[← he] at this;let#[l]:=es
   apply `tm
  ·apply `aoY
   delta putAt;split<;>exact `aoW (J y hy)
  ·rw[keys_map_putAt];exact hn
def set(hu:knd.room `fD)(hkey:`aZe)(hm:`aZf)
  (hQ:`aZg) (hsz:`se):
  `dH (`O' (`xs) `ci v):=by
 have ty:=hm.old.typeIs;delta setItem
 apply `G1
 apply `jQ D70 ty `E;refine A1 (j3 (name:=`EO `aZl) ty `aZm (L7 `aZm ty entry_dict_setitem ?_ (args_dict_setitem _ _ _)));show `w? (Builtin.Dict.notOrdered `aZl #[[`xs,`cQ,v],[]]);apply `gN z0 ty;show `w? `aZh;exact A1 (put hu hkey hm (λh' M J=>A5 #[`a8,rfl,A5 (hQ h' M J)]) hsz)
omit z
omit Dep
open Y
section
variable[`nJ]
def u30(kvs:`hA)(k:κ):`ep:=`jz (kvs.find? `abV)
def putK(kvs:`hA)(k:κ)(v:V):`hA:=
 if `U8=`d then `age (λkv=>`ai6 v) else kvs++[(k,v)]
def kj0{p:`KG}{r:`hA}{k:κ}(e:`Cg):`aZn=`w2:=`aZo
def k90{p:`KG}{r:`hA}{k:κ}(e:¬`Cg):`aZn=u30 r k:=`aZo
theorem T00(k:κ):∀kvs:`hA,`U8=(`mP).isSome
 | []=>rfl
 | p::r=>by
  rw[`lS]
  apply `HZ
  ·simp only[kj0 e,`H_,Bool.true_or,Option.isSome_some]
  ·rw[k90 e,`ym,`aZp];exact T00 k r
def qa0(kvs:`hA)(k:κ)(v:V):`aBR<=`rq+1:=by
 delta putK;split
 ·rw[`x];lia
 ·rw[`S,`ae,`rp];lia
def RelO.isSome_eq{o:`ep}{u:`iR}(r:RelO o u):`H0=u.isSome:=by
 cases o with
 | none=>cases u with
  | none=>rfl
  | some _=>apply `yI
 | some _=>cases u with
  | none=>apply `yI
  | some _=>rfl
def RelO.getD{o:`ep}{u:`iR}{d:V}{d':`A}(r:RelO o u)(rd:`dw d d'):`dw (o.getD d) (u.getD d'):=by
 cases o with
 | none=>cases u with
  | none=>exact rd
  | some _=>apply `yI
 | some _=>cases u with
  | none=>apply `yI
  | some _=>exact r
def KV.val{kvs:`hA}{vs:`yn}(r:`pf)(k:κ):RelO `U9 (`aZq):=by
 delta KV at r
 induction r with
 | nil=>exact `pP
 | @cons p q ps qs h t ih=>
  let#[h1,h2]:=h
  apply `HZ
  ·have e':q.1=k:=`aiv
   have b:`aZr=`c q.2:=`aZs
   rw[kj0 e,b];exact h2
  ·have e':¬q.1=k:=`U'
   have b:`aZr=`PG qs k:=`aZs
   rw[k90 e,b];exact ih
def KV.any{kvs:`hA}{vs:`yn}(r:`pf)(k:κ):`U8=`aZt:=by
 delta KV at r
 induction r with
 | nil=>rfl
 | cons h t ih=>rw[`lS,`lS,ih,h.1]
def KV.repl{kvs:`hA}{vs:`yn}(r:`pf)(k:κ){y:V}(ry:`eR):
  KV `aZu (`mG λkv=>`ai6 u):=by
 delta KV at r ⊢
 induction r with
 | nil=>exact `ah
 | @cons p q ps qs h t ih=>
  rw[`J,`J];refine `aZv;let#[h1,h2]:=h
  apply `HZ
  ·rw[`cf,`aZw];exact#[h1,ry]
  ·rw[`bW,`ap (`U')];exact`aZx
def KV.put{kvs:`hA}{vs:`yn}(r:`pf)(k:κ){y:V}(ry:`eR):KV (`Nf y) (stored vs k u):=by
 delta putK stored;rw[r.any k]
 by_cases e:(`aZt)=`d
 ·rw[`cf,`cf];exact `aZy
 ·rw[`bW,`bW];exact `aZz r #[rfl,ry]
def KV.length{kvs:`hA}{vs:`yn}(r:`pf):`rq=`c8:=(x4 r)
omit z
def jn0{P:`av}{w:`T}{k:Key}(r:`aoZ):(wi0 P w).is k u=`d:=by
 cases k with
 | inl i=>apply `aRv;subst e;exact R40 P w i t
 | inr x=>apply `aRw;subst e;exact R90 P w x t
def Xl0{P:`av}{w:`T}:∀{ks:`e0} {us:`am},`b_ (`afB) us->ItemsAre `Mf ks us:=by
 intro z;induction z with
 | nil=>intro _ r;rw[`hE] at r;cases r;exact `ah
 | cons k ks ih=>
  intro _ r
  rw[`J] at r;cases r with
  | cons h t=>exact `aE (jn0 h) (ih t)
abbrev KT(H:Hp):`lI->`tK->Prop:=`cu λp q=>`aNW
def KT.val{kvs:`lI}{xs:`tK}(r:`zv)(k:`e0):RelO `U9 (`aZA):=by
 induction r with
 | nil=>exact `pP
 | @cons p q ps qs h t ih=>
  let#[h1,_,h2]:=h
  apply `HZ
  ·have e':q.1=k:=`aiv
   have b:`aZB=`c q.2:=`aZC
   rw[kj0 e,b];exact h2
  ·have e':¬q.1=k:=`U'
   have b:`aZB=`OP qs k:=`aZC
   rw[k90 e,b];exact ih
def KT.repl{kvs:`lI}{xs:`tK}(r:`zv)(k:`e0){y:V}(ry:`eR):
  KT H `aZu (`OH (`tr k u)):=by
 induction r with
 | nil=>exact `ah
 | @cons p q ps qs h t ih=>
  rw[`J,`J];refine `aZv;let#[h1,h2,h3]:=h;delta putAt
  apply `HZ
  ·rw[`cf,`aZw];exact#[h1,h2,ry]
  ·rw[`bW,`ap (`U')];exact`aZD
def KT.put{kvs:`lI}{xs:`tK}(r:`zv)(k:`e0){b:`f}{y:V}(hb:`H1)(ry:`eR):
  KT H (`Nf y) (storedH xs k b u):=by
 have e:`U8=`aZE:=by
  rw[T00,(r.val k).isSome_eq,`ao_]
 delta putK storedH;rw[e]
 by_cases q:`aZE=`d
 ·rw[`GV,`GV];exact `aZy
 ·rw[`yK,`yK];exact `aZz r #[rfl,hb,ry]
def KT.keeps{kvs:`lI}{xs:`tK}(r:`zv)(ht:∀b ys,H b=`af4->`hY=`af4):KT H' kvs xs:=(
 `aFg r λ_ _ z=>`aFh)
section
variable{P:`av}{w:`T}{h:`aa}{a:`f}
def Fd0{u:HO}(ok:`fo)(e:Rd H a u):`aN?:=(e.ok ok)
def gv0(ok:`fo)(e:`ao0):`ajW:=(
 `aZF `Cr)
def mb0(ok:`fo)(e:`zw):`ajW:=(gv0 ok (`qb))
def ir0{ks:`e0}(ok:`fo)(e:H a=`c `aZG):`aZH h ks a:=by
 skip;let#[_,its,r,o,h1,h2,n,h3,_]:=(show `CE `aZG from ok a _ e);done;exact#[o,`bj,n,h1,h2,h3,`a7 (Xl0 r)]
def K20{kvs:`lI}(ok:`fo)(e:`U!):`wT/\`o7 /\
  ∃xs,`zv/\Dep.At (`PH) h a xs:=by
 skip;let#[z,y,xs,r,o,es,ep,h1,h2,h3,h4,h5,h6]:=(`aZF (.dT kvs));done;refine#[z,y,xs,r,o,es,ep,h1,h2,h3,h4,`iE,h5,h6];have all:∀{l:`lI} {m:`tK},KT H l m->∀x∈m,`aZH h x.1 x.2.1:=by
  intro l m q
  induction q with
  | nil=>intro x hx;exact nomatch hx
  | @cons p q ps qs hq t ih=>
   intro x hx;rcases `bF hx with e|hx
   ·subst e
    exact ir0 ok (`bk hq.1 hq.2.1)
   ·exact ih x hx
 exact all r x hx
def du0{kvs:`lI}(ok:`fo)(e:`U!):`wT/\`o7 /\
  ∃xs,`zv/\h.DictOfH (`PH) a xs:=by
 let#[z,y,xs,r,d]:=K20 ok e;exact#[z,y,xs,r,d.old]
omit z
def DGet(H:Hp)(a:`f)(y:V)(r:`ep):Prop:=
 (∃kvs k,`ao0/\y=kV k/\r=`mP)∨∃kvs k b,`U!/\`yY/\`H1/\r=`mP
def DPut(H:Hp)(a:`f)(y v:V)(H':Hp):Prop:=
 (∃kvs k,`zw/\y=kV k/\`zx/\H'=`ao1) ∨
 ∃kvs k b,H a=`amH/\`yY/\`H1/\`zx/\H'=upd H a (.dT (`adY))
def DGet.k{a:`f}{k:Key}(e:`zw):DGet H a `ac2 `U9:=(`n #[kvs,k,`qb,rfl,rfl])
def DGet.t{a b:`f}{kvs:`lI}{k:`e0}(e:H a=`amH)(eb:`H1):DGet H a `EH `U9:=(`u #[kvs,k,b,`qb,rfl,eb,rfl])
def DPut.k{a:`f}{k:Key}(e:`zw)(hl:`zx):DPut H a `ac2 v (`ao1):=(`n #[kvs,k,e,rfl,hl,rfl])
section
variable{σ:St}{s:`v}{a:`f}{y:V}{r:`A}{o:`ep}{A:`aq}
def Inv.big(I:`B):`BA<`L:=by
 have h:`hP<`L:=`aBK;exact F7 `E h
def Xy0(hu:`y3)(I:`B)(g:DGet H a y `rn)(ry:`eR)(h:`ao2 v):
  `jR (`pl `ci u):=by
 skip;apply `U?
 ·subst ey
  apply `Va;let#[w',hw,J]:=`alV `aZq `aZI;done;exact wpAny_getItem_of `zy `Vb hw (`aZJ)
 ·subst ey
  apply `zz;apply `Vc;let#[w',hw,J]:=`alV `aZA `aZI;let#[p,hp,M]:=`Cf hw;done;refine wpAny_getItem_heap `Vd `Ve dd hp ?_;rw[M];exact `aZJ
def u51(hu:`y3)(I:`B)(g:`Vf)(ry:`eR)(h:∀s',`NR->Q (`gA `H0) s'):
  `jR (`Bm .In u `ci):=by
 skip;apply `U?
 ·subst ey
  apply `Va;done;refine wpAny_in_of `zy hd `Vb ?_;rw[← `Vg,← l];exact `Vh
 ·subst ey
  apply `zz;apply `Vc;done;refine wpAny_in_heap `Vd `Ve hd dd ?_;have q:=`Vg;rw[`ao_] at q;rw[← q,← l];exact `Vh
def Cn0(hu:`y3)(I:`B)(g:`Vf)(ry:`eR)(h:∀s',`NR->Q (`gA (!`H0)) s'):
  `jR (`Bm `xo u `ci):=by
 skip;apply `U?
 ·subst ey
  apply `Va;done;refine wpAny_notIn_of `zy hd `Vb ?_;rw[← `Vg,← l];exact `Vh
 ·subst ey
  apply `zz;apply `Vc;done;refine wpAny_notIn_heap `Vd `Ve hd dd ?_;have q:=`Vg;rw[`ao_] at q;rw[← q,← l];exact `Vh
def dc0{t':Nat}{ob:HO}(I:`B)(mu:Mut (H a))(hs:`aOW)(he:`ao3)(new:`Gw (upd H a ob) a ob):
  `GU a ob `sg:=(
 `alW (x:=a) (e:=a) mu `gY (λb q hb z=>`yu b hb z) he new)
def U60{P:`av}{w:`T}{H':Hp}{vs:`Vi}(z:`wT)(hd:`o7)(rel:`pf)(dd:h'.DictOf `Mf a vs):
  `g7 P w H' h' a `Cr:=(#[z,hd,vs,rel,dd])
def Mt0{Q:`p4}(hu:`y3)(I:`B)(g:DPut H a y v H')(ry:`eR)(rv:`ao4)(h:∀s',`p6->`Sz):
  `jR (`O' `ci u r):=by
 skip;rcases g with⟨kvs,k,e,ey,l,eH⟩|⟨kvs,k,b,e,ey,eb,l,eH⟩
 ·subst ey eH
  apply `Vj;apply `ao5
  apply `Vk
  done;refine wpAny_setItem_pairs (hsz:=hz) `zy dd `aZK
  have he:`ao3:=`ao6
  exact `ao7
 ·subst ey eH
  apply `zz;let#[z,hd,xs,rel,dd]:=K20 `bT (`qb);have hz:`se:=`bk (Paired.length rel) z
  apply `Vk
  done;refine Dep.set `Vd `Ve dd (`aZK) hz;skip;let#[q,es,ep,hq,h2,h3,h4,_,h5]:=J;done;refine dc0 I `ac4 hs `aDi #[hl,hd,_,(rel.put k eb rv).keeps λc ys ec=>?_,q,es,ep,hq,h2,h3,h4,h5];rw[zi0 (bu0 ec e `g4)];exact ec
omit z
def Iq0(i:`G):Prop:=∀ov iv,`OW i `q ov iv=`ajI [ov,iv] (`pl ov iv)
def Yw0{prog:`av}{w:`T}{A:`aq}{E:`aK}{s:`v}{env:Env}{value slice:`G}{pos:Pos}{T id:`da}{Q:`aK}
  (hl:`aS2) (hs:Iq0 `sU)
  (h:`aRG (`cs `gD env) (`cs `sU env) (λi s₂=>s₂.TypeIs o T/\`aP `dZ A (`pl o i) Q E s₂)):
  `dH (`cs (`kC `gD `sU pos) env):=by
 refine k0 (E7 h (λo s₁ h₁=>E7 h₁ (λi s₂ h₂=>?_) `SD) `SD);let#[hT,h₂]:=h₂;delta subscriptTail;refine `lQ;rw[getitemInPython_of_ne hT.not_modules];apply `jQ G0 hT hl;have fin:`aP `dZ A (`OW `sU `q o i) (λr s₃=>`aP `dZ A (letTemporaryGo `gD o r>>=λ_=>`bD r) Q E s₃) E s₂:=by
  rw[hs o i];exact wpAny_operating (E7 h₂ (λr s₃ h₃=>A1 (wpAny_letTemporaryGo (A5 h₃))) `SD)
 first
  | exact `aZL
  | exact A1 (`aZL)
  | exact A1 fin
def ch0{σ:St}{s:`v}{a:`f}{y:V}{o:`ep}(I:`B)(g:`Vf):`aZM:= by
 skip;rcases g with⟨kvs,k,e,_,_⟩|⟨kvs,k,b,e,_,_,_⟩
 ·let#[_,_,vs,_,dd]:=`abW
  done;exact `xj
 ·let#[_,_,xs,_,dd]:=`abX
  done;exact `xj
def xn1(td ty:TE):TE:=`db td (`yB ty λy H2=>∃a v,`fa/\DGet H2 a y `rn/\Q v H2)
def u31(ty td:TE):TE:=`db ty λy H1=>`aZN `H0
def Em0(ty td:TE):TE:=`db ty λy H1=>`aZN (!`H0)
section
variable{i:`G}{td tv:TE}
def Fr0(hu:`j2)(ho:`H2)(hi:`ao8)(hs:Iq0 i):PE X `ak5 (xn1 td ty):=by
 apply `a';refine Yw0 `aZO hs (thn `EG λu s1 hq98=>?_);let#[x,H1,I1,rx,q1]:=hq98;refine thn `aPU λiv s2 hq99=>?_;skip;let#[y,H2,I2,ry,a,v,ex,g,q2]:=hq99;subst ex;apply `tU;done;exact#[ch0 I2 g,`aZP Xy0 v]
def zo1(hu:`j2)(hi:`ao8)(ho:`H2):PC X .In i o (u31 ty td):=by
 apply `a';refine thn `GM λiv s1 hq100=>?_;let#[y,H1,I1,ry,q1]:=hq100;refine thn `aZQ λu s2 hq101=>?_;skip;let#[x,H2,I2,rx,a,ov,ex,g,q2]:=hq101
 subst ex;apply `tU;done;exact `aZR u51 ov.isSome
def Wb0(hu:`j2)(hi:`ao8)(ho:`H2):PC X `xo i o (Em0 ty td):=by
 apply `a';refine thn `GM λiv s1 hq102=>?_;let#[y,H1,I1,ry,q1]:=hq102;refine thn `aZQ λu s2 hq103=>?_;skip;let#[x,H2,I2,rx,a,ov,ex,g,q2]:=hq103
 subst ex;apply `tU;done;exact `aZR Cn0 (!ov.isSome)
omit z
def b00{P:`av}{w:`T}(h:`aa)(hb:`BA<`hl):`g7 P w H (h.push `aCw) `hl `vl:=(
 #[`bP,`aoF,[],`ah,`aYJ h])
def y21:TE:=λ_ H Q=>`t_ `vl
def I60:PE X `aoE y21:=(λpins s σ H Q I h=>
 `aYI #[`gW,_,`aKT I.big,rfl,h _ `Mu])
structure M1(X:Cx)(o:`G)(m:Str)(apos:Pos)(e:`G)(cpos:Pos):Prop where
 base:`aZS
 few:(`nI
 &&`zA)=`d
 line:`aag
 trees:`aas=[`n3]
structure M2(X:Cx)(o:`G)(m:Str)(apos:Pos)(e f:`G)(cpos:Pos):Prop where
 base:`aZS
 few:(`aZT
 &&`aZU)=`d
 line:`aag
 trees:`aZV
def IsD(H:Hp)(a:`f):Prop:=(∃kvs,`ao0)∨∃kvs,`U!
def Lq0{σ:St}{s:`v}{a:`f}(I:`B)(d:IsD H a):
  `aZM/\(∀b,`oj=`rr->∃ob,`aHk/\`aTT)/\`o7:=by
 rcases d with⟨kvs,e⟩|⟨kvs,e⟩
 ·let#[_,hd,vs,_,dd]:=`abW
  refine`aZW;skip;cases q;apply `aZX;done;exact`aZY
 ·let#[_,hd,xs,_,dd]:=`abX
  refine`aZW;skip;cases q;apply `aZX;done;exact`aZY
section
variable{σ:St}{s:`v}{a:`f}{y d:V}{r:`A}{o:`ep}{A:`aq}
def zu1(hu:`y3)(I:`B)(g:`Vf)(ry:`eR)(h:`ao2 (o.getD `y)):
  `jR (`f1 (`cW "dict.get") [`cQ,u]):=by
 skip;apply `U?
 ·subst ey
  apply `Va;done;refine `ao9 E50 `xj xc0 (xe0 _ _) (meets_dict_get `H3 a `zy hd) #[_,`Vb,`aZZ];rw[l];exact(`CI).getD rfl
 ·subst ey
  apply `zz;apply `Vc;done;refine `ao9 E50 `xj xc0 (xe0 _ _) (meetsH_dict_get (`aBt `H3) a b hd) #[l7 hu,k,xs,`aBP,dd,`aZZ];rw[l];exact(`CI).getD rfl
omit z
def Am0(td ty:TE):TE:=`tS td (∃a,`fa/\IsD H1 a/\ty σ H1 λy H2=>∃o,`aGM/\Q (o.getD `y) H2)
section
variable{f:`G}{td tx:TE}
def H40(hu:`j2)(ho:`H2)(he:PE X e ty)(m:M1 X o "get" `mr e `oe):PE X `aZ_ (Am0 td ty):=by
 apply `a';refine `aZ0 E50 PySem.F.type_dict_get λu s1 hq104=>?_;skip;let#[x,H1,I1,rx,a,ex,d,q1]:=hq104;subst ex;apply `tU;apply `aZ1;done;refine`aZ2;rw[m.trees];refine `aZ3 λiv s2 hq105=>?_;skip;let#[y,H2,I2,ry,ov,g,q2]:=hq105;done;refine M0 ?_;exact `aZP zu1 _
omit z
omit L2
open X
section
variable{B:BS}{σ σ':St}{δ:Ds}
def Gr.fresh{p:`f}{o:HO}(h:`lj):Gr H `aWF B `ON:=(λb u n e=>by
 have hb:`PI:=wp0 e h;exact#[λz=>`xx n hb,`k (zi0 hb) e])
def Gr.own{a:`f}{o:HO}(h:B a):Gr H `lk B B:=(λb u n e=>#[n,`ja (λz=>n (`k z h)) e])
def RpO.mono{d:D}{a:`f}(s:`Hi)(g:`eT)(h:`jX):RpO K H' B' d a:=by
 apply `Un
 ·apply `qq;exact#[xs,s _ e,`x_]
 ·apply `anx;exact#[xs,s _ e,l,`x_]
def RpG.mono{d:D}{a:`f}(s:`Hi)(g:`eT)(h:`nF):RpG K H' B' d a:=by
 cases d with
 | tup es=>apply `anE;exact`aZ4
 | _=>exact(RpO.mono s g `Us).toG
def RpL.mono{d:D}{a:`f}(s:`Hi)(g:`eT)(h:`nf):RpL K H' B' d a:=by
 skip;cases d with
 | tup es=>
  apply `anG
  ·done;exact `n #[d',q,RpG.mono s g r]
  ·done;apply `nC #[ks,vs,q,ts,xs,q1,s _ e,q2,`x_]
  ·done;apply `fs `aZ4
 | _=>done;exact(RpO.mono s g `Hn).toL
def Pd.get'{F:`lJ}:∀{l:`aV} {m:`sa} {i:Nat} {a:α},`sH->`Ho->∃b,`anH/\`DY:=by
 intro l m i a p;induction p generalizing i with
 | nil=>intro e;cases e
 | cons r t ih=>
  cases i with
  | zero=>intro e;cases e;exact`Sd
  | succ i=>exact ih
def Pd.impI{F G:`lJ}:`afh ((∀(i:Nat) a b,`Ho->`anH->`aCQ)->`aGr):=by
 intro l m h p
 induction p with
 | nil=>exact `ah
 | cons r t ih=>exact `aE (h 0 _ _ rfl rfl r) (ih λi a b e1 e2=>h `dn a b (`zb) (`a7 e2))
def kf0:∀{l:`aV} {i:Nat} {a:α},`Ho->`anI=l:=by
 intro z;induction z with
 | nil=>intro _ _ h;simp at h
 | cons x l ih=>
  intro z1;cases z1 with
  | zero=>intro a h;simp at h;subst h;rfl
  | succ i=>intro a h;rw[List.set_cons_succ,`ao']
def Pd.setR{F:`lJ}{a:α}{b:β}(r:`DY){l:`aV}{m:`sa}(e:`Ho)(h:`sH):`cu F l `aWz:=by
 have:=`EI r i h
 apply `iD (kf0 e)
def get_set{l:`aV}{a b:α}(h:(`anI)[j]?=`ih):(i=j/\a=b/\j<`aC)∨(`F!/\l[j]?=`ih):=by
 by_cases e:i=j
 ·subst e
  by_cases hl:i<`aC
  ·rw[`Hp] at h
   exact `n #[rfl,B4 h,hl]
  ·rw[`Uu] at h;cases h
 ·rw[`kk e] at h
  exact `u #[e,h]
def Env.len(e:`bB):`wr=`o5:=(`CS `k8)
def Env.at(e:`bB){d:D}(h:`c6=`sD):∃a,`m8/\`aWy:=by
 let#[o,h1,a,rfl,hb,r]:=`anK;exact#[a,h1,hb,r]
def Env.mut(e:`bB){d:D}{a:`f}{o:HO}(hi:`H4)(hs:`m8)(r:RpL K `lk B d a):`aZ5:=by
 apply `aZ6;rw[hs] at h1;cases h1;apply `aZ7
 ·
  have h0:`ao! `lk B:=`FY (λo' s h=>by
   cases s with
   | un=>exact `ao?
   | ex c n=>apply `gS;exact `aZ8
   | sh d=>apply `gS;exact `aZ8
   | ow d=>
    apply `Vl
    by_cases z:b=a
    ·subst z;apply `apa
    ·exact `n #[b,e,M,`ei (λo h=>`k (zi0 z) h) `s_]) `k8
  apply `aZ9;apply `aZ';apply `aZ!
  ·exact h
  ·skip;apply `apb
   ·cases e3;done;exact`aix
   ·done;apply `aZ?
 ·by_cases z':b=a
  ·subst z';exact `t5
  ·rw[zi0 z'];exact `apc
 ·have q1:`a_a:=by
   skip;apply `Vm
   ·done;exact`Vn
   ·done;exact`Vo
  have q2:`a_b:=by
   skip;apply `a_c
   ·done;exact`Vn
   ·done;exact`Vo
  let#[d1,q1]:=q1;let#[d2,q2]:=q2;exact `a_d
def EnvS.mut(en:`dr)(s:`bI)(b1:`jZ)(b2:`j_){d:D}{a:`f}{o:HO}(hi:`H4)(hs:`m8)
  (env:`q1 (upd H' a o) `sZ):`iT (upd H' a o) σ `sZ:=by
 have h0:=`a_e;have J:i<`o5:=`SA;apply `a_f
 ·apply `a_g
  rw[`apd];exact s _ _ `a_h
 ·by_cases z:b=a
  ·apply `a_i
   rw[hs] at e1;cases e1;rw[z] at h;exact `a_j
  ·rw[zi0 z] at h
   exact `Px b ob xs (s.nf b ob xs h)
 ·skip;apply `Vm
  ·rw[hs] at h2;cases h2;done;exact h0
  ·done;exact `a_k
def EnvS.take(en:`dr)(b1:`jZ)(b2:`j_)(e:`bB)(i:Nat){d:D}{p:`f}(hp:`lj)(s:`bI)
  (r:`aGA):`a_l:=by
 apply `a_m
 have J:`anZ:=`ape;have live:`a_n:=λ{j d' b} h1 h2=>by
  apply `a_o;rw[h2] at q1;cases q1;apply `a_p
 apply `a_q
 ·apply `Vp
  ·exact b2 a z
  ·exact `u J
 ·refine `a_r r.toL
  cases sl with
  | un=>trivial
  | ex c n=>apply `gS;apply `HG
  | sh d=>apply `gS;apply `HG
  | ow d=>apply `Vl;apply `a_s
 ·apply `Vp
  ·exact`a_t
  ·exact `t5
 ·skip;apply `Vq
  ·apply `Vr
   ·done;rfl
   ·apply `a_u
    ·cases e3
     apply `H5;done;exact `a_v
    ·done;exact `Vs
  ·apply `Vr
   ·apply `a_w
    ·cases e4
     rw[`qz] at h3;done;exact `a_x
    ·done;exact `a_y
   ·rw[`qz] at h3
    apply `H5;done;apply `Uv
 ·skip;apply `Vq
  ·apply `a_z
   ·cases e3;done;exact J
   ·done;exact `Vs
  ·rw[`qz] at h2
   done;apply `apf
def Vj0{d e:D}(h:`apg=.ow e):`cx:=by
 delta DL.fz at h;apply `aom
def Yg0{s:Sl}{e:D}(h:nt0 s=.ow e):`cx:=by
 cases s with
 | ow d=>exact Vj0 h
 | un=>cases h
 | sh d=>cases h
 | ex c n=>cases h
def RpL.fz{B:BS}{d:D}{a:`f}(l:`EJ)(n:¬B' a)(h:`nf):SlR K H B' (`n?) (`apg):=by
 skip;cases d with
 | tup es=>
  rcases h with⟨d',rfl,r⟩|⟨ks,vs,rfl,_⟩|⟨x,ns,rfl,_⟩
  ·cases d' with
   | tup es=>done;trivial
   | _=>done;exact`qa (RpO.rp l n (RpG.toO rfl r))
  ·done;trivial
  ·done;trivial
 | _=>done;exact`qa (RpO.rp l n `Hn)
def Env.frz(e:`bB):`a_A `afD `a_B:=by
 refine#[`a_C,`adZ,`ll,?_,λa z=>`m1 a z.1,`a_D]
 ·by_cases q:`afD
  ·exact `u q
  ·exact `aph
 ·have:`cu (λo s=>SlR K H (`a_C) o `aoI) σ δ:=`RC (λi o s e1 e2 h=>by
   cases s with
   | un=>trivial
   | ex c n=>apply `gS;exact`Vt
   | sh d=>apply `gS;exact`Vt
   | ow d=>
    let#[a,rfl,hb,r]:=h;exact r.fz (`adZ) λz=>z.2 #[i,d,e2,e1]) `k8
  have mp:∀{l:St} {m:Ds} {F:`ep->Sl->Prop},`cu (λo s=>F o `aoI) l m->`cu F l (m.map nt0):=by
   intro l m F h
   induction h with
   | nil=>exact `ah
   | cons r t ih=>exact `Gl
  exact mp `w
 ·delta DL.frz at h1
  rw[`cH] at h1;cases q:`c6 with
  | none=>rw[q] at h1;cases h1
  | some s=>rw[q] at h1;exact`a_E
def EnvS.frz(en:`dr):`iT H σ `a_B:=by
 skip;apply `bl;let#[B',c1,c2,J]:=env.frz;done;refine#[`gk,`a_F,λi ds a h1 _=>?_,`jw]
 ·skip;rcases `a_G with q|⟨i,d,q1,q2⟩
  ·done;exact q
  ·done;apply `a_H
 ·delta DL.frz at h1
  rw[`cH] at h1;cases q:`c6 with
  | none=>rw[q] at h1;cases h1
  | some s=>rw[q] at h1;exact`a_E
def Env.frzAt(e:`bB)(i:Nat):`a_A (∃(d:D),`aCs) (DL.frzAt i δ):=by
 delta DL.frzAt;cases h:`c6 with
 | none=>apply `Vu
 | some s=>
  cases s with
  | un=>dsimp only [nt0];rw[kf0 h];apply `Vu
  | ex c n=>dsimp only [nt0];rw[kf0 h];apply `Vu
  | sh d=>dsimp only [nt0];rw[kf0 h];apply `Vu
  | ow d=>
   let#[a,h1,hb,r]:=e.at h;refine#[`a_I,`a_J,`aiw,?_,λb z=>`m1 b z.1,λj k b ds es O M h3 h4=>?_]
   ·by_cases q:b=a
    ·subst q;exact `u #[d,rfl,h1]
    ·exact `aph
   ·have h0:`ao! H (`a_I):=`FY (λo' s h=>by
     cases s with
     | un=>exact `ao?
     | ex c n=>apply `gS;exact `n `Vt
     | sh d=>apply `gS;exact `n `Vt
     | ow d=>
      let#[b,e,Y,r]:=h
      by_cases z:b=a
      ·subst z;apply `apa
      ·exact `n #[b,e,#[Y,z],`ei `api `aBS]) `k8
    have h2:=Pd.setR (i:=i) (b:=`apg) (`n (r.fz (`a_J) λz=>z.2 rfl)) h1 h0;refine `RC (λj o' s e1 e2 hh=>?_) h2;rcases hh with hh|⟨d',rfl,rfl⟩
    ·exact hh
    ·apply `apb
     ·exact(Vj0 e3).elim
     ·exact `K (`xk i j a d d' h e3 h1 e1) J
   ·rcases `h8 O with⟨_,q,_⟩|⟨_,q1⟩
    ·exact`a_K
    ·rcases `h8 M with⟨_,q,_⟩|⟨_,q2⟩
     ·exact`a_K
     ·exact `xk j k b ds es q1 q2 h3 h4
def EnvS.frzAt(en:`dr)(i:Nat):`iT H σ (DL.frzAt i δ):=by
 skip;apply `bl;let#[B',c1,c2,J]:=env.frzAt i;done;refine#[`gk,`a_F,`aiz,`jw]
 ·rcases `a_G with q|⟨d,q1,q2⟩
  ·exact q
  ·apply `a_H
 ·skip;delta DL.frzAt at h1
  cases q:`c6 with
  | none=>rw[q] at h1;done;apply `apf
  | some s=>
   rw[q] at h1;rcases `MG with⟨rfl,q',_⟩|⟨_,q1⟩
   ·done;exact(Yg0 q').elim
   ·done;exact `sX j ds a q1 h2
def lw0{d:D}(h:`HW)(r:`dM):`aGo:=by
 apply `Uw `cV
 ·rw[wh0] at r ⊢;exact r
 ·rw[xz0] at r ⊢;exact r
 ·rw[ys0] at r ⊢;exact r
 ·rw[w40] at r ⊢;exact r
omit z
section
variable{st:`a0}{g:GE}{gt:GB}{G:GS}
def zx0(h:`b7):PD X e (tn0 g):=(.mk λB δ pins s σ H Q I hq106=>by
 skip;let#[d,en,hq,k]:=hq106
 apply `Vv;delta tn0 at hq;cases e1:`wy with
 | none=>rw[e1] at hq;cases hq
 | some x=>
  rw[e1] at hq
  by_cases hf:`aGI
  ·apply `Vw `H6
   cases hq;done;exact `a_L (lw0 hf r)
  ·apply `Vw `Vx
   cases hq)
def J4(h:`aWR):PTD X e (jo0 gt):=(.mk λB δ pins s σ H Q I hq107=>by
 skip;let#[d,en,hq,k]:=hq107
 apply `Vv;done;exact `aGP #[d,J,hq,k])
def V5(i:Nat)(h:`an_):PSD X st (Hu0 i G):=(.mk λH₀ B₀ δ pins s σ H D I #[r,en,hq,k]=>h `bg `bh _ `z s σ H D I #[r,en.frzAt i,hq,k])
def T3(h:`b7):`HC R7 (qu0 g):=(.mk λH₀ B₀ δ pins s σ H D I #[r,en,hq,k]=>
 `a_M R8)
def N7{gA:GA}(h:`Hx):PDF X `al2 (yu0 gA):=(
 .mk λB δ=>`aWV fun σ H Q hq108=>by
  apply `bo hq108
  delta yu0 at h;cases e1:`dk with
  | none=>rw[e1] at h;cases h
  | some ds=>
   rw[e1] at h
   by_cases hl:`py
   ·apply `anR
    cases h;refine#[ds,en,e1,`O2 #[`aLM,λp hp=>k _ _ (`sI hp) `aLL #[vs,yb0,r1.mono (`D7 hp)]]]
   ·apply `anS
    cases h)
def W4:PDF X `aoE `BZ:=(.mk λB δ=>I60.imp fun σ H Q hq109=>by
 apply `bo hq109
 cases h;exact λp hp=>k p _ hp `js #[[],yb0,rfl,`jg])
def N6(i:Nat){px:Pos}(h:`zk)(hN:`fp)(hi:`ez)(hx:`HB)
  (hs:`aC2 `Vy) (hw:`H (`aC3 `Vy e `N=`sh) Aa)
  (h1:`acS `Vy [`ie `mQ `N])
  (hf:`lL):PSD X (`nj `Vy e pos) (wu0 i g):=(.mk λH₀ B₀ δ pins s σ H D I hq110=>by
 skip;apply `bC hq110
 delta wu0 at e1;apply `bl;cases e2:`aA with
 | none=>apply `as;cases e1
 | some d=>
  apply `as;cases e1;done;exact `aW! (`afF) λp H' hp s' r=>k _ H' (en.take b1 b2 env i hp s' r))
omit z
omit DL
open Y
open PySem.AutoSeq1 (wpAny_loadPart')
def Pu0(p:`f)(xs:`aO)(k:Nat)(q:`f)(ys:`aO)(m:Nat)(dq:`cY)(sq:`hz)(h0:¬(!xs.isEmpty&&`TR (`a_N))=`d)(h1:`B3<=`R)(h2:`a_N<=`R+1):
  Meets (Builtin.«list.extend» #[[`g0,`ag q],[]]) (λ_ R s=>`fO p=`apj `h_ `aHj/\`fO q=`c { cls:=`h_,dict:=dq,data:=`fi ys m,slots:=sq }/\`o4 `xp ((`hR s (`amO p (`s0 λz=>z++ys))))):=(
 `Vz λprog w A R s h=>by
  skip;apply `zB;let#[hl,hb,h]:=h;have f1:=`a_O;have f2:=AutoSeq1.sub_tuple_tuple;have f3:=AutoSeq1.sub_list_list;have f4:=AutoSeq1.sub_tuple_list;have f5:=AutoSeq1.sub_list_tuple;have J:(xs++ys).size<=`R+1:=`k `apk h2
  done;wp_walk using (l8 hl rfl (hz:=h1) (_hz':=J)),E60 hl,E60 hb
  exact`VA)
def Ih0(K:`C):`jS:=λx vs H Q=>∃l b xs zs,`ae6/\vs=[`rr]/\`Pi/\`aYm/\`aYn/\`Nc `y `UT
def Ze0:MtM X "list.extend" (Ih0 X.K):=by
 apply `TS;skip;apply `aYo;cases rx;apply `amP;cases ru;apply `amQ;apply `aYp;let#[#[a4,Z,data2,a2],a3,Y,n2,O]:=`aoy;simp only at Y O;subst Y O;have hl2:=`o!;have a1:`aYr:=`a_P
 have M:¬(!`afH&&`TR (`aGC))=`d:=by
  rw[Hd0 a1,`apl];exact C0
 done;refine L4 F.slot_list_extend `amR F.entry_list_extend (F.args_list_extend_2 _ _)
  (Pu0 l `bj n b `E0 n2 Z a2 M `TT `l) #[e,a3,?_]
 refine`aT' J r2;rw[`S];lia
def Bn0:`aPO:=λo i v H Q=>∃a H',o=`cQ/\DPut H a i v H'/\Q H'
def set_dict(hu:`j2):y51 X Bn0:=by
 intro pins s σ H o i v ov iv u Q I ro ri rv h;let#[a,H',rfl,g,q]:=h;cases ro;exact Mt0 hu I g ri rv λs3 I3=>#[H',I3,q]
omit L2
open X
section
variable{B:BS}{σ σ':St}{δ:Ds}
def Rps.dropLast(h:`bi):Rps K H B `aGH `acV:=by
 rw[`a_Q,`a_Q,h.length];exact h.take _
structure EnvV(K:`C)(H₀:Hp)(B₀:BS)(H:Hp)(σ:St)(δ:Ds)(d:D)(v:V):Prop where
 same:`UG
 ex:∃B:BS,(`jZ)/\(`j_)/\`bB/\`dM
 fr:`aWZ
 b0:`anY
def EnvV.s{d:D}(h:`VB):`dr:=(#[`Ut,let #[B,b1,b2,e,_]:=h.ex;#[B,b1,b2,e],h.fr,h.b0])
def EnvV.mk'{d:D}(h:`dr)(b1:`jZ)(b2:`j_)(e:`bB)(r:`dM):`VB:=(#[`Ut,#[B,b1,b2,e,r],h.fr,h.b0])
omit z
def tX(K:`C)(H₀:Hp)(B₀:BS)(δ:Ds)(gx:GX):TE:=`ir (∃r,`dr/\`k9=`fj/\∀v H',`abY H' r.2 r.1->`vC)
structure PX(X:Cx)(e:`G)(gx:GX):Prop where
 mk::go:`a_R
instance{X:Cx}{e:`G}{gx:GX}:`fr `zC `a_R:=#[PX.go]
def tTG(K:`C)(H₀:Hp)(B₀:BS)(ft:`aR)(d:D)(δ:Ds):TG:=`GF (∃δ',`VB/\ft d δ=`wv/\∀σ' H',`aW8->`aLF)
structure PTG(X:Cx)(tg:`G)(ft:`aR):Prop where
 mk::go:`a_S
instance{X:Cx}{tg:`G}{ft:`aR}:`fr `a_T `a_S:=#[PTG.go]
section
variable{st:`a0}{g:GE}{gt:GB}{G:GS}
def O6(h:`b7):PX X e (xk0 g):=(.mk λH₀ B₀ δ pins s σ H Q I hq111=>by
 skip;apply `bC hq111
 delta xk0 at e1;apply `bl;cases e2:`aA with
 | none=>apply `as;cases e1
 | some d=>
  apply `as;cases e1;done;exact `H7 h #[d,env,e2,`F7 (k v H' (`xB `ah5 (`an0) r))])
def Uo0{δ:Ds}(h:`sk=`or):`c6=`aYO:=by
 delta owL at h;split at h
 ·cases h;assumption
 ·cases h
def Qp0{δ:Ds}{r:`zt}(h:`PE=`fj):`c6=`HY `aHC:=by
 delta Y10 at h;split at h
 ·cases h;assumption
 ·cases h
def zk0(i:Nat)(h:`b7)(hN:`ez)(hv:`iH)(hd:`a9)(hcd:`hB)
  (hbase:`VC `P4)
  (hfew:`H ((`nI
  &&`zA)=`d) Aa)
  (hline:`gO) (hs:`d') (hplain:`qv):
  `VD `P4 [e] (v20 i g):=(.mk λH₀ B₀ δ pins s σ H Q I hq112=>by
 skip;apply `bC hq112
 delta v20 at e1;apply `bl;cases e2:`sk with
 | none=>apply `as;cases e1
 | some ds=>
  cases e3:`aA with
  | none=>apply `zD;cases e1
  | some d=>
   apply `zD;apply `fu;split at e1
   ·rename_i hz
    cases e1;have hi:=Uo0 e2;apply `apm;done;refine jj0 X1 E70 E80 jd0 `qA `a_U `jx hfew `jy hs `sY `z s σ H Q I
     #[_,J,`apn,d,env,e3,`abg #[a,xs,v,rfl,rfl,`apo,`k `app hz,?_]]
    have M:`s5 (upd H1 a `a_V) `aYP:=`a_W `zl r1;apply `a_X
   ·cases e1)
open T in
def zz0(i:Nat)(h:`b7)(hN:`ez)(hv:`iH)(hd:`a9)(hcd:`hB)
  (hbase:`VC `VE)
  (hfew:`H ((`nI
  &&`zA)=`d) Aa)
  (hline:`gO) (hs:`d') (hplain:`qv):
  `VD `VE [e] (v60 i g):=(.mk λH₀ B₀ δ pins s σ H Q I hq113=>by
 apply `bC hq113
 delta v60 at e1;apply `bl;cases e2:`sk with
 | none=>apply `as;cases e1
 | some ds=>
  cases e3:`aA with
  | none=>apply `zD;cases e1
  | some d=>
   apply `zD;apply `fu;cases d<;>try cases e1
   rename_i es;dsimp only at e1;split at e1
   ·rename_i hz
    cases e1;have hi:=Uo0 e2;apply `apm;refine jj0 X1 A01 A11 Ze0 `qA `a_U `jx hfew `jy hs `sY `z s σ H Q I
     #[_,J,`apn,_,env,e3,`PC]
    apply `nH;let#[b,zs,rfl,hq,rz]:=r1;refine#[a,b,xs,zs,rfl,rfl,`apo,`j1,`ii `app rz.length hz,?_];have M:`s5 (upd H1 a `UT) `aYQ:=`a_W Rps.append rz;apply `a_X
   ·cases e1)
def zy0(i:Nat)(hN:`ez)(hv:`iH)(hd:`a9)(hcd:`hB)
  (hbase:`VC "pop") (hline:`gO):
  `VD "pop" [] (pv0 i):=(.mk λH₀ B₀ δ pins s σ H Q I hq114=>by
 skip;apply `bC hq114
 delta pv0 at e1;apply `bl;cases e2:`sk with
 | none=>apply `as;cases e1
 | some ds=>
  apply `as;apply `fu;cases e3:`aYR with
  | none=>apply `f?;cases e1
  | some d=>
   apply `f?;cases e1;have hi:=Uo0 e2;apply `apm;rw[List.getLast?_eq_getElem?] at e3;let#[y,hy,ry]:=rx.get e3;done;refine Mk0 X1 A21 A31 L60 `qA `jx `jy `z s σ H Q I
    #[_,J,`apn,a,xs,y,rfl,rfl,hx,`k `app hy,?_]
   have M:`s5 (upd H a `amS) `aYS:=env.mut hi J #[_,yb0,rx.dropLast.mono `s_];exact k _ _ (`xB (`F8 `FX b1 b2 hi J M) M (ry.mono `s_)))
def y20{f:`aR}(h:`HA):PTG X tg f:=(.mk λH₀ B₀ d δ pins s σ H v u Q I r hq115=>by
 skip;let#[δ',en,e1,k]:=hq115
 apply `a_Y;done;exact h B d δ `z s σ H v u Q I r #[δ',rv,env,e1,`aW? H en.s.wr `FX])
def R4{ft:`aR}(h:`zC)(hg:`a_T)(hs:`ak6)(hw:`ak7)
  (h1:`ak8):PSD X `ak9 (v10 gx ft):=(.mk λH₀ B₀ δ pins s σ H D I hq116=>by
 skip;apply `bC hq116
 delta v10 at e1;cases e2:`k9 with
 | none=>apply `as;cases e1
 | some q=>
  apply `as;apply `fu;cases e3:ft q.1 q.2 with
  | none=>apply `f?;cases e1
  | some δ'=>
   apply `f?;cases e1;done;exact Tg0 (`kE h) (hg `bg `bh q.1 q.2) hs hw h1 `z s σ H D I (`xC λv H' J=>#[δ',J,e3,fun σ' H'' en''=>k σ' H'' en'']))
def Z8(h:`zC)(hs:`aPK):PSD X (.Expr e pos) (R9 gx):=(.mk λH₀ B₀ δ pins s σ H D I hq117=>by
 apply `bC hq117
 delta R9 at e1;cases e2:`k9 with
 | none=>apply `as;cases e1
 | some q=>
  apply `as;cases e1;exact Yk0 (`kE h) hs `z s σ H D I (`xC λv H' J=>k σ H' J.s))
def W0(n:Nat){c:`G}{body:`d8}(hp:`GH)(hc:`Hw)(hb:`aXf):PSD X `aPY (xw0 gt G n):=(.mk λH₀ B₀ δ pins s σ H D I hq118=>by
 apply `bC hq118
 have M:PT X c (`aof):=λpins s σ H Q I #[B,δ,h]=>`H7 hc h
 have O:PSs X `dm (`iw (∃δ,`aXi)):=λpins s σ H D I #[δ,h]=>`aXk
 refine Ht0 hp M O `z s σ H D I #[λm σ H=>∃δ',`Py `bg H δ'/\`a_Z,#[n,δ,en,e1],?_];rintro m σ1 H1 ⟨δ1,J,e2⟩;skip;cases m with
 | zero=>cases e2
 | succ m=>
  delta xw0 at e2;let#[B,b1,b2,env]:=J.ex;cases e3:gt δ1 with
  | none=>rw[e3] at e2;cases e2
  | some t=>
   rw[e3] at e2;done;refine#[B,δ1,t,env,e3,λH2 s2=>?_];cases t with
   | false=>
    rw[`p'];cases e2;exact k σ1 H2 (J.grow s2)
   | true=>
    rw[`a4];dsimp only at e2;refine#[fun σ' H'=>∃δ',`aiu `bg δ'/\`a_Z,fun σ' H' z=>#[m,f8 m,z],δ1,?_];cases e4:`NH with
    | none=>rw[e4] at e2;cases e2
    | some rb=>
     rw[e4] at e2;refine#[rb,J.grow s2,e4,?_];cases rb with
     | nx δn=>apply `a__
     | ct δn=>apply `a__
     | bk δn=>cases e2;exact `tt (k σ' H' en')
     | rt d'=>cases e2;exact `RO (k v H' s' r')
     | rf d'=>cases e2;exact `RP (k p H' hp s' r'))
open T in
def o7(i j:Nat){p2 p3:Pos}{kk}(hN:`fp)(hij:`F!)(hc:`fv)(hi:`ez)(hj:`ua)
  (hx:`HB) (hy:`nG)
  (hf:`lL) (hf2:`lT)
  (hs1:`H (`jz `apq=`a_0::`a_1) Aa) (hs2:`H (`a_1=`a_2::`a_3) Aa)
  (hn:`H ((`o `apq)=2) Aa) (hst:`ak3 `apq):
  PGD X (`lB `aDk kk pos) [i,j] (ux0 i j):=(.mk λB d δ=>(`a_4 Qw0).imp λv σ H Q hq119=>by
 let#[δ',r,en,e1,k]:=hq119
 delta ux0 at e1;split at e1
 ·rename_i da db
  cases e1;rw[wo0] at r;apply `a_5;rw[O8] at rs;apply `a_6;rw[O8] at rs;apply `a_7;rw[ze0] at rs;subst rs;refine#[p,_,rfl,`j1,rfl,va,[vb],rfl,vb,[],rfl,rfl,k _ ?_ (`a_8)];apply `a_9
  ·apply `a_'
   apply `a_!
   rw[`VF,`VG,`VF,`VG];exact`iz
  ·apply `a_?
   ·cases e3
   ·apply `a0a
    ·cases e4
    ·simp at hq
     rcases hq with z|z
     ·exact n2 `i!
     ·exact n1 `i!
 ·cases e1)
omit z
omit DL
namespace HT
open PyProof.Rows
section
variable{w:`T}{A:`aq}{s:`v}
def fh0{t sl:`f}{items:`aO}{hi:`bw}{Q:`aK}(ht:`aSO)(hs:`Tn)(pl:`To)(pu:`Tp)
  (hw:`aSP) (h:Q `pm s):`aSR:=by
 let#[os,O,Y,Z]:=id hs;have M:`aST:= #[os,O,Y];delta getItem
 apply `G1
 first|refine `G0|try fail
 refine `aSU;refine A1 (j3 (name:=`EO `aeZ) `ty g5
  `aSV)
 show `aSW;apply `gN `amh ht;apply `gN L0 M;rw[`qe];refine `aSX;have J:`ai4:=by
  rw[hw.1,hw.2];simp
 apply `aSY;rw[`I J];delta Builtin.Tuple.tupleIsExact;refine A1 (A1 (L0 `ty `rz));rw[`qe];exact A1 (S4 `aeY)
omit z
omit HT
open Y
def xk1(K:`C):`tY:=`Tq (`TF (`lM/\`aS!/\Q `ci H))
def Cw0:SlR X (xk1 X.K):=by
 apply `Ts;skip;apply `aS?;cases rx;apply `aTa;apply `aTb
 done;exact#[`dg,_,g5.lookup,`ty,HT.fh0 ht hs pl pu (`Tt) (`lH `cQ q)]
def Ll0(K:`C):R2:=`c? (∃a b ys,`fa/\`yY/\SqT K H a []/\`aTe/\Q `EH H)
def H00:`y_ `GN Ll0:=by
 apply `ew;skip;let#[a,b,ys,rfl,rfl,ha,hb,q]:=h;cases rx;cases ry;apply `amo;let#[Y,r2,p2,_]:=`mK hb;have e:its=[]:=r1.zero;subst e;apply `a0b;let#[#[a2,Z,data2,a1],O,M,n2,J]:=id p2;simp only at hc hd M J;subst hc hd M J;done;exact y4 `lR #[_,O,rfl] D10 D20 D30 D40 (D50 _ _)
  (tuple_addW0 a b _ Y.toArray n n2 dd Z sl a1 rfl) #[ho,O,(`lH `rr q)]
def bg0(x:Str)(n:Int):Str:=`aoR
def Fa0:R2:=`c? (∃z n,x=`on/\y=`gz/\`aoS/\n<`e_/\`apr<=`R/\Q (`p (`VH)) H)
def Bi0:OpR X `S2 Fa0:=by
 apply `ew;skip;let#[z,n,rfl,rfl,h1,h2,hz,q]:=h;apply `cz;apply `cM;have fin:∀O k,`po (`p (`VH) O) ((`BI k)):=λO k=>#[`co,H,I.tok k,#[O,rfl],q]
 have a1:`a0c:=`a5
 have Y:¬n<1->¬((`kq:Int) > `VI/n):=by
  intro hn;have Z:0<n:=`U
  have:(`kq:Int)*n<=`MI - 1:=by
   have e:n=(`jm:Int):=`U
   rw[e];have:(`ak `apr)<=`afG:=by exact_mod_cast (`U:`apr<=`afG)
   apply `ay `a0d;lia
  exact Int.not_lt.mpr ((Int.le_ediv_iff_mul_le Z).mpr `w)
 done;refine PySem.P.mul_str (`eO `ds `ds) (λhn _=>Y hn) (λ_ _=>?_) ?_
 ·show `an (`kq*`jm > sizeLine)=`q
  exact `TD
 ·by_cases hn:n<1
  ·rw[`I hn]
   have e:`VH=`aeV:=by
    delta bg0;rw[`aZ (`jm=0)];rfl
   refine#[`a5,?_];rw[← e];exact fin _ _
  ·rw[`ap hn]
   by_cases h3:(n==1||`kq==0)=`d
   ·rw[`VJ]
    have e:`VH=z:=by
     rw[`aps] at h3;rcases h3 with h3|h3
     ·have:n=1:=`yW h3
      subst this;delta bg0;show (#[⟨⟩++z.cps]:Str)=z;rw[`a0e]
     ·have h3:`kq=0:=`yW h3
      have M:z.cps=⟨⟩:=Array.eq_empty_of_size_eq_zero h3;have:∀k:Nat,`wA k (⟨⟩:`q_ Nat)=⟨⟩:=by
       intro k
       induction k with
       | zero=>rfl
       | succ k ih=>rw[`ex,`G7];exact ih
      delta bg0;rw[M,`w];cases z;simp at M;rw[M]
    have:=fin t `b?;apply `ay e;exact `w
   ·rw[`ap h3]
    have hl2:∀(k:Nat) (J:`q_ Nat),((`cr k z.cps).foldl `aaP J).size=J.size+k*`a0f:=by
     intro k
     induction k with
     | zero=>intro J;simp
     | succ k ih=>intro J;rw[`ex,`G7,ih,`apk,`amT];lia
    refine#[?_,fin _ _];show (`wA `jm z.cps).size<=_;rw[hl2];have:`kq=`a0f:=rfl;rw[`w,`H8] at hz
    simpa using hz
def Yj0:fillsNumberSlot `s7 "mul"=`u? :=(
 PySem.fillsNumberSlot_seq (id:= `apt) (r:=`c (`cW `a0g)) `a0h `bf `a0i `bf)
def Oj0:seqRepeat? `s7=`bD (`c (`cW `apt)):=by
 delta seqRepeat?;rw[`a0j "__mul__" `apt `a0h,`a0j "__rmul__" `a0g `a0i];rfl
def Tk0(a:Int)(t:Tok)(l:`f)(items:`aO)(n:Nat)(dd:`cY)(sl:`hz):
  Meets (Builtin.«int.__rmul__» #[[`h a t,`kl],[]]) (λ_ R s=>`apu/\`o4 Value.notImplemented s):=(
 `Vz λprog w A R s h=>by
  apply `zB;let#[hl,h]:=h
  wp_walk
  exact`VA)
def Jo0(l:`f)(items:`aO)(n:Nat)(dd:`cY)(sl:`hz)(k:Int)(t:Tok)(h2:2<=k)(h3:`aBM)(he:`apv=`q)(hsz:`a0k<=`R):
  Meets (Builtin.«tuple.__mul__» #[[`kl,`h k t],[]]) (λ_ R s=>`apu/\`o4 (`e1 `L) ((`Dd (`wX (`apw))))):=(
 `Vz λprog w A R s h=>by
  apply `zB;let#[hl,h]:=h;have f1:=`a_O;have c1:¬((`an (k < `amw)||`an (k ≥ 2 ^ 63))=`d):=by
   rw[`ds,`ds];exact C0
  have c2:¬((`apv||k==1)=`d):=by
   rw[he,`apx `l];exact C0
  have c3:¬((`an (k<=0)||`apv)=`d):=by
   rw[he,`ds];exact C0
  have hk:(`apy*k)=(`ak `a0k):=by
   rw[`a0d];congr 1;lia
  have hb:`a0c:=`a5
  have c4:¬(`apy*k > `VI/8):=by
   rw[hk];lia
  have c5:¬(Builtin.Tuple.tupleTooMany (`apy*k)=`d):=by
   rw[hk];delta Builtin.Tuple.tupleTooMany;apply `aM `VK;lia
  have O:∀(m:Nat) (J:`aO),((`cr m `bJ).foldl `aaP J).size=J.size+m*`eL:=by
   intro m
   induction m with
   | zero=>intro J;simp
   | succ m ih=>intro J;rw[`ex,`G7,ih,`apk,`amT];lia
  have M:sizeOk (`fi (`apw)):=by
   show (`apw).size<=`R;rw[O,`H8]
   simpa using hsz
  wp_walk
  rw[`ap c1];show `PQ `aFX `r9;apply `gN `amh #[_,hl,rfl,n,rfl];dsimp only;rw[`ap c2,`ap c3];rw[`ap c4,`ap c5];exact `Pd (A5 `VA) M)
def Gn0(K:`C):R2:=`a0l (`lM/\`U7 2 (`aY?/\`t_ (`aoT)))
def Cb0:`y_ `S2 Gn0:=by
 apply `ew;skip;apply `a0m;cases rx;apply `G5;apply `amo;apply `a0b;simp only at hc hd;subst hc hd;have hl:=`k';have he:`a0n:=by
  cases its with
  | nil=>exact `a0o
  | cons a b=>rfl
 have J:`apz<=`R:=`a0p
 have M:`wA `eM `bj=`a0q:=by
  have:=`a0r;apply `ay `c';exact `w
 done;refine A61 (T:= `dg) (U:= `jU) `E `lR `a0s Yj0 `a0t A00 Oj0 `a0u
  (L4 A00 `a0v `a0w `a0x (Tk0 k t a `bj n dd sl)
   #[ho,rfl,`lR,L4 F.slot_tuple_mul `lR F.entry_tuple_mul (F.args_tuple_mul_2 _ _) (Jo0 a `bj n dd sl k t h2 h3 he J) `a0y])
 rw[M];refine`Tu `aoT `Tv;exact#[`ii len_rep `H8 hz,_,`a0z,`Tw]
omit L2
open X
mutual
theorem kb0:∀(d:D) (n:Nat),`apA
 | `y,_,_=>by delta deq;rfl
 | `e5,_,_=>`apB
 | `ki,_,_=>`apB
 | `ts,_,_=>`apB
 | `c5,0,h=>by apply `EK;cases h
 | `c5,n+1,h=>`a0A
 | `eH,0,h=>by apply `EK;cases h
 | `eH,n+1,h=>`a0A
 | `t9,n,h=>by apply `EK;cases h
 | `zq,n,h=>by apply `EK;cases h
theorem jb0:∀(ds:`i) (n:Nat),`zE->un0 ds ds=`d
 | [],_,_=>by delta un0;rfl
 | `b1,n,h=>by
  delta leans at h;rw[`a?] at h;delta un0;rw[kb0 d n h.1,jb0 ds n h.2];rfl
end
theorem qy0:∀ds es:`i,`ac7=((`bc (`a0B)).all (`ac5)&&`a0C)
 | [],[]=>`apC
 | [],_::_=>`apC
 | _::_,[]=>`apC
 | `b1,`Bg=>by
  delta un0;rw[qy0 ds es];have h1:min `ann `amM=`a0B+1:=by apply `aM `ae;lia
  rw[h1,`VL,`qf,`zF];have h2:(`ann==`amM)=(`a0C):=by
   rw[`ny];simp
  rw[h2,Bool.and_assoc];rfl
def qm0:∀{ds:`i} {n j:Nat} {d:D},`zE->ds[j]?=`aQ->`wC:=by
 intro z;induction z with
 | nil=>intro _ _ _ _ h;simp at h
 | cons d ds ih=>
  intro n
  intro z2;cases z2 with
  | zero=>
   intro _ h e
   delta leans at h;rw[`a?] at h;simp at e;subst e;exact h.1
  | succ j=>
   intro _ h e
   delta leans at h;rw[`a?] at h;exact ih (j:=j) h.2 (`Uk)
section
variable{σ:St}{s:`v}
inductive V6 (X:Cx) (s:`v) (H:Hp) (B:BS):Nat->D->V->`ac8
 | non (n:Nat):`B! `y `y `a8
 | bl (n:Nat) (b:`aj):`B! `v1 `v1 (`SF)
 | int (n:Nat) (i:Int) (t:Tok):`B! `ho `ho `wW
 | str (n:Nat) (z:Str) (t:Tok):`B! `xr `xr `a0D
 | tup (n:Nat) (ds:`i) (a:`f) (xs:`P) (its:`am) (l:`zE) (q:SqT' X.K H B a xs) (r:`VM) (v:`wp) (p:`aFu):`a0E `oP
 | lst (n:Nat) (ds:`i) (a:`f) (xs:`P) (its:`am) (l:`zE) (q:SqL' X.K H B a xs) (r:`VM) (v:`wp) (p:`Cj a `bj):`a0E `u6
def view(I:`B){B:BS}{d:D}{x:V}(l:`wC)(h:`HQ)(r:`ip):`EL:=by
 skip;cases d with
 | non=>rw[wh0] at h;subst h;cases r;done;exact `y _
 | bl b=>rw[xz0] at h;subst h;cases r;done;exact .bl _ b
 | int i=>rw[ys0] at h;subst h;apply `iA;done;exact `h _ i t
 | str z=>rw[w40] at h;subst h;apply `iA;done;exact `p _ z t
 | tup ds=>
  rw[wo0] at h;let#[a,xs,rfl,q,rr]:=h;let#[its,rv,p,_]:=`mK `fg;cases n with
  | zero=>apply `zG;cases l
  | succ m=>apply `zG;cases r;done;exact `t m ds a xs its l q rr rv p
 | lst ds=>
  rw[w80] at h;let#[a,xs,rfl,q,rr]:=h;let#[its,rv,p,_]:=`hW `fg;cases n with
  | zero=>apply `zG;cases l
  | succ m=>apply `zG;cases r;done;exact `m m ds a xs its l q rr rv `SS
 | dct a b=>apply `zG;cases l
 | fn a b=>apply `zG;cases l
def So0(I:`B){B:BS}{es:`i}{m:Nat}{its:`am}(ih:`a0F)(l:`zE)(l':`a0G)(r:`VM)(r':Rps X.K H B' es xs)(v:`wp):ds=es:=by
 refine i6 (`Dp `a2 `pR) `a0H
 skip;let#[x,ex,rx]:=`nB (C9 h1);let#[y,ey,ry]:=r'.get (C9 h2);rw[ex] at ey;cases ey;let#[u,_,ru]:=v.get ex;done;exact ih (view I (qm0 l (C9 h1)) rx ru) (view I (qm0 l' (C9 h2)) ry ru)
def V6.inj(I:`B){B:BS}:`a0F:=by
 induction n with
 | zero=>
  intro m d e x u h h';cases h<;>cases h'<;>rfl
 | succ n ih=>
  intro m d e x u h h';cases h with
  | tup _ ds a xs its l q r v p=>
   cases h' with
   | tup _ es _ ys _ l' q' r' _ _=>
    have:=`aQl `fg q'.to;subst this;rw[`a0I]
   | lst _ es _ ys _ _ _ _ _ p'=>exact `K rfl (Ab1 p' p)
  | lst _ ds a xs its l q r v p=>
   cases h' with
   | lst _ es _ ys _ l' q' r' _ _=>
    have:=`aFt `fg q'.to;subst this;rw[`a0I]
   | tup _ es _ ys _ _ _ _ _ p'=>exact `K rfl (Ab1 p p')
  | _=>cases h'<;>rfl
def in1_units{A:`aq}:A.in1.units=`oq+1:=(rfl)
def gk0{es:`i}{ys:`P}{ws:`am}{m:Nat}{B:BS}{A:`aq}(ld:`zE)(le:`a0G)(r1:`VM)(r2:Rps X.K H B' es ys)(v1:`eq)(v2:`aNP)
  (ih:∀d e x y u w,`wC->`apD->`HQ->`apE->`ip->`VN->`VO):
  ∀j (h1:j<us.toArray.size) (h2:j<ws.toArray.size),`rU A s us.toArray[j] `yV[j] (`aDm):=by
 intro j h1 h2;skip;have l1:j<`b2:=by rw[← `k',v1.length];simpa using h1
 have l2:j<`fh:=by rw[← `o!,v2.length];simpa using h2
 let#[x,ex,rx]:=r1.get (C9 l1);let#[y,ey,ry]:=r2.get (C9 l2);let#[u,eu,ru]:=v1.get ex;let#[w,ew,J]:=v2.get ey;have hu:us.toArray[j]=u:=by
  have:us[j]?=`bS:=eu;simp at h1;apply `ay (`fW h1)
  simpa using `xq
 have hw:`yV[j]=w:=by
  have:ws[j]?=`c w:=ew;simp at h2;apply `ay (`fW h2)
  simpa using `xq
 done;rw[hu,hw];have e1:`aEi=ds[j]:=by simp[`cU,l1]
 have e2:`aEj=es[j]:=by simp[`cU,l2]
 rw[e1,e2];exact ih _ _ _ _ _ _ (qm0 ld (C9 l1)) (qm0 le (C9 l2)) rx ry ru J
def V6.step(I:`B){B:BS}{A:`aq}{m:Nat}{d e:D}{x y:V}{w:`A}(hu:`a0J)(ih:∀k,n=k+1->∀{m:Nat} {d e:D} {x y:V} {u w:`A},V6 X s H B k d x u->`VP->`abZ `rU `fD)(h:`EL)(h':`VP):`VO:=by
 cases h with
 | tup k ds a xs its l q r v p=>
  cases h' with
  | tup k' es a' ys its' l' q' r' v' p'=>
   by_cases hab:a=a'
   ·subst hab
    rw[← `a0K `t `t,kb0 `oP `fZ l];exact .same _
   ·refine `a0L
    have:=`apF C40 `a0M;show `apG;rw[qy0]
    simpa [← `aDn,← `aKd,`a2,`pR] using `w
  | _=>show `a0N;first|apply `F (SeqAt.EqAt.tuple_none p hu)|apply `F (SeqAt.EqAt.tuple_bool _ p hu)|apply `F (`iI SeqAt.EqAt.tuple_int)|apply `F (`iI SeqAt.EqAt.tuple_str)|apply `F (`zH SeqAt.EqAt.tuple_list)
 | lst k ds a xs its l q r v p=>
  cases h' with
  | lst k' es a' ys its' l' q' r' v' p'=>
   by_cases hab:a=a'
   ·subst hab
    rw[← `a0K `m `m,kb0 `u6 `fZ l];exact .same _
   ·refine `a0L
    apply `apH
    apply `apI
    show `apG;rw[qy0]
    by_cases hl:`b2=`fh
    ·have:=`apJ `a0O `a0M
     apply `ay s1;rw[hl] at this ⊢
     apply `tm
    ·have:=`a0P
     rw[`apx hl,`apl];exact `w
  | _=>show `a0N;first|apply `F (SeqAt.EqAt.list_none p hu)|apply `F (SeqAt.EqAt.list_bool _ p hu)|apply `F (`iI SeqAt.EqAt.list_int)|apply `F (`iI SeqAt.EqAt.list_str)|apply `F (`zH SeqAt.EqAt.list_tuple)
 | _=>cases h'<;>dsimp only [deq]<;>first|apply `F (v0 _)|apply `F (`aTC _ _)|apply `F (C10 _ _ _ _)|apply `F (C30 _ _ _ _)|apply `F (`aTD _ _ _)|apply `F (`aTF _ _ _)|apply `F (`aTA _)|apply `F (B80 _ _)|apply `F (B90 _ _)|apply `F (`aTB _)|apply `F (`aTE _ _ _)|apply `F (C00 _ _)|apply `F (v3 _ _ _ _)|apply `F (C20 _ _)|apply `F (`aTG _ _ _)|apply `F (w8 _ _ _ _)|apply `F (SeqAt.EqAt.none_list `gZ hu)|apply `F (`zI SeqAt.EqAt.bool_list)|apply `F (`iJ SeqAt.EqAt.int_list)|apply `F (`iJ SeqAt.EqAt.str_list)|apply `F (SeqAt.EqAt.none_tuple `gZ hu)|apply `F (`zI SeqAt.EqAt.bool_tuple)|apply `F (`iJ SeqAt.EqAt.int_tuple)|apply `F (`iJ SeqAt.EqAt.str_tuple)
def V6.eq(I:`B){B:BS}:∀{m:Nat} {d e:D} {x y:V} {u w:`A} {A:`aq},`VQ->`EL->`VP->`VO:=by
 induction n with
 | zero=>exact λhu=>V6.step I `l λk z=>nomatch z
 | succ n ih=>
  intro m d e x y u w A hu;refine V6.step I `l λk z=>?_
  cases z;exact ih `aLU
def zj1(I:`B){B:BS}(n m:Nat)(d e:D)(x y:V)(u w:`A)(A:`aq)(hu:`VQ)(ld:`wC)(le:`apD)(hx:`HQ)(hy:`apE)(rx:`ip)(ry:`VN):`VO:=(V6.eq I hu `a0Q `a0R)
omit z
section
variable{σ:St}{s:`v}
def V6.rc(I:`B){B:BS}{A:`aq}{m:Nat}{d e:D}{x y:V}{w:`A}(hn:`VQ)(h:`EL)(h':`VP):`a0S:=by
 have hu:`a0J:=`U
 cases h with
 | tup k ds a xs its l q r v p=>
  cases h' with
  | tup k' es a' ys its' l' q' r' v' p'=>
   apply `a0T
   apply `apH
   apply `apI
   have q1:=`apF C40 J;have q2:=`apF SeqAt.RcNeAt.tuples J;rw[s1,s2,← qy0] at q1 q2;exact`P8
  | _=>show `a0U;constructor<;>first|apply `F (SeqAt.RcAt.tuple_none p hu)|apply `F (SeqAt.RcAt.tuple_bool _ p hu)|apply `F (`iI SeqAt.RcAt.tuple_int)|apply `F (`iI SeqAt.RcAt.tuple_str)|apply `F (`zH SeqAt.RcAt.tuple_list)|apply `F (SeqAt.RcNeAt.tuple_none p hu)|apply `F (SeqAt.RcNeAt.tuple_bool _ p hu)|apply `F (`iI SeqAt.RcNeAt.tuple_int)|apply `F (`iI SeqAt.RcNeAt.tuple_str)|apply `F (`zH SeqAt.RcNeAt.tuple_list)
 | lst k ds a xs its l q r v p=>
  cases h' with
  | lst k' es a' ys its' l' q' r' v' p'=>
   apply `a0T
   apply `apH
   apply `apI
   show `apG/\`OR A s _ _ (!`ac7);rw[qy0]
   by_cases hl:`b2=`fh
   ·have q1:=`apJ `a0O J
    have q2:=`apJ SeqAt.RcNeAt.lists J;rw[s1] at q1 q2;rw[hl] at q1 q2 ⊢;simp only[`LH,`apK,`apL];exact`P8
   ·have q1:=`a0P
    have q2:=SeqAt.RcNeAt.lists_lengths (A:=A) p p' `aGU hu;rw[`apx hl,`apl];exact`P8
  | _=>show `a0U;constructor<;>first|apply `F (SeqAt.RcAt.list_none p hu)|apply `F (SeqAt.RcAt.list_bool _ p hu)|apply `F (`iI SeqAt.RcAt.list_int)|apply `F (`iI SeqAt.RcAt.list_str)|apply `F (`zH SeqAt.RcAt.list_tuple)|apply `F (SeqAt.RcNeAt.list_none p hu)|apply `F (SeqAt.RcNeAt.list_bool _ p hu)|apply `F (`iI SeqAt.RcNeAt.list_int)|apply `F (`iI SeqAt.RcNeAt.list_str)|apply `F (`zH SeqAt.RcNeAt.list_tuple)
 | _=>cases h'<;>dsimp only [deq]<;>(try change _/\`aGV)<;>(try change _/\`OR A s _ _ `q)<;>constructor<;>first|apply `F SeqAt.RcAt.none_none|apply `F (SeqAt.RcAt.bool_bool _ _)|apply `F (SeqAt.RcAt.int_int _ _ _ _)|apply `F (SeqAt.RcAt.str_str _ _ _ _)|apply `F (SeqAt.RcAt.bool_int _ _ _)|apply `F (SeqAt.RcAt.int_bool _ _ _)|apply `F (SeqAt.RcAt.none_bool _)|apply `F (SeqAt.RcAt.none_int _ _)|apply `F (SeqAt.RcAt.none_str _ _)|apply `F (SeqAt.RcAt.bool_none _)|apply `F (SeqAt.RcAt.bool_str _ _ _)|apply `F (SeqAt.RcAt.int_none _ _)|apply `F (SeqAt.RcAt.int_str _ _ _ _)|apply `F (SeqAt.RcAt.str_none _ _)|apply `F (SeqAt.RcAt.str_bool _ _ _)|apply `F (SeqAt.RcAt.str_int _ _ _ _)|apply `F (SeqAt.RcAt.none_list `gZ hu)|apply `F (`zI SeqAt.RcAt.bool_list)|apply `F (`iJ SeqAt.RcAt.int_list)|apply `F (`iJ SeqAt.RcAt.str_list)|apply `F (SeqAt.RcAt.none_tuple `gZ hu)|apply `F (`zI SeqAt.RcAt.bool_tuple)|apply `F (`iJ SeqAt.RcAt.int_tuple)|apply `F (`iJ SeqAt.RcAt.str_tuple)|apply `F SeqAt.RcNeAt.none_none|apply `F (SeqAt.RcNeAt.bool_bool _ _)|apply `F (SeqAt.RcNeAt.int_int _ _ _ _)|apply `F (SeqAt.RcNeAt.str_str _ _ _ _)|apply `F (SeqAt.RcNeAt.bool_int _ _ _)|apply `F (SeqAt.RcNeAt.int_bool _ _ _)|apply `F (SeqAt.RcNeAt.none_bool _)|apply `F (SeqAt.RcNeAt.none_int _ _)|apply `F (SeqAt.RcNeAt.none_str _ _)|apply `F (SeqAt.RcNeAt.bool_none _)|apply `F (SeqAt.RcNeAt.bool_str _ _ _)|apply `F (SeqAt.RcNeAt.int_none _ _)|apply `F (SeqAt.RcNeAt.int_str _ _ _ _)|apply `F (SeqAt.RcNeAt.str_none _ _)|apply `F (SeqAt.RcNeAt.str_bool _ _ _)|apply `F (SeqAt.RcNeAt.str_int _ _ _ _)|apply `F (SeqAt.RcNeAt.none_list `gZ hu)|apply `F (`zI SeqAt.RcNeAt.bool_list)|apply `F (`iJ SeqAt.RcNeAt.int_list)|apply `F (`iJ SeqAt.RcNeAt.str_list)|apply `F (SeqAt.RcNeAt.none_tuple `gZ hu)|apply `F (`zI SeqAt.RcNeAt.bool_tuple)|apply `F (`iJ SeqAt.RcNeAt.int_tuple)|apply `F (`iJ SeqAt.RcNeAt.str_tuple)
def Mu0(I:`B){B:BS}(n m:Nat)(d e:D)(x y:V)(u w:`A)(A:`aq)(hu:`VQ)(ld:`wC)(le:`apD)(hx:`HQ)(hy:`apE)(rx:`ip)(ry:`VN):
  `a0S:=(V6.rc I hu `a0Q `a0R)
omit z
section
variable{a:`G}{p:Pos}{ga:`cA}
def Pc0(K:`C)(neg:`aj):R2:=`c? (∃B B' dx dy,`anL/\Rp K H B' dy y/\`FE dx/\`FE dy/\Q (`PF (deq dx dy)) H)
def j9(hu:`apM):`h1 .Eq (Pc0 X.K `q):=by
 apply `ew;skip;apply `a0V;done;exact`a0W (`a0X).1 `pv
def zf0(hu:`apM):OpR X `alF (Pc0 X.K `d):=by
 apply `ew;skip;apply `a0V;done;exact`a0W (`a0X).2 `ng
def m7:Op2 K (Pc0 K `q) jt0:=by
 apply `hI;delta jt0 at h;split at h
 ·rename_i hl
  cases h;exact`a0Y `pv
 ·cases h
def O5:Op2 K (Pc0 K `d) rp0:=by
 apply `hI;delta rp0 at h;split at h
 ·rename_i hl
  cases h;exact`a0Y `ng
 ·cases h
def Jt0:Op2 K (`c? (rI0 (`aQU) x y H Q∨(`aRb)∨`y1 Fp0∨`y1 Gu0∨`y1 Ll0)) yf0:=by
 apply `hI;cases dx<;>cases dy<;>simp only[yf0] at h<;>try cases h
 ·rw[ys0] at rx ry
  subst rx ry;exact `n #[_,_,rfl,rfl,`Hr]
 ·split at h
  ·cases h
   rw[w40] at rx ry;subst rx ry;apply `nC #[_,_,rfl,rfl,`q8,`Uz]
  ·cases h
 ·split at h
  ·skip;rename_i hz
   cases h;have M:=ry;have O:=rx;rw[wo0] at rx ry;apply `VR;apply `a0Z
   by_cases he:`yZ
   ·subst he
    have e:`a0_=`a0_:=rfl;have hn:=`k';simp at hn;have J:=`VS;subst J;done;apply `fs (`u (`u #[a,b,ys,rfl,rfl,`zJ,q2.to,`ha (`k `c' M)]))
   ·done;refine `u (`u (`u (`n #[a,b,xs,ys,rfl,rfl,`zJ,q2.to,he,`apN,`lA,λz p hp=>k _ _ `js (dj0 hb hp (`Tx))])))
    subst z;have hn:=`o!;simp at hn;have J:=`VS;subst J;exact `ha (`k `du O)
  ·cases h
 ·split at h
  ·skip;rename_i hz
   cases h;rw[w80] at rx ry;apply `VR;apply `a0Z;done;apply `fs (`n #[a,b,xs,ys,rfl,rfl,`zJ,q2.to,`apN,`H9 `js lv0 (`Tx)])
  ·cases h
def Q0(ha:`c0)(hb:`dP):`lX `a00 yf0:=(dx0 (zn1.or (Py0.or (Ru0.or (Ey0.or H00)))) Jt0 ha hb)
def Zt0{B:BS}(h:`bi):∀k:Nat,Rps K H B (`d2 k ds) `aT2:=by
 intro z;induction z with
 | zero=>simp[ze0]
 | succ k ih=>rw[`ex,`ex,`jV,`jV];exact h.append (ih)
def Il0:Op2 K (`c? (rI CMul (`aQW) x y H Q∨Fa0 x y H Q∨`y1 Gn0)) xm0:=by
 apply `hI;cases dx<;>cases dy<;>simp only[xm0] at h<;>try cases h
 ·split at h
  ·cases h
   rw[ys0] at rx ry;subst rx ry;exact `n #[_,_,rfl,rfl,`q8,`Hr]
  ·cases h
 ·split at h
  ·rename_i hz
   cases h;rw[w40] at rx;rw[ys0] at ry;subst rx ry;apply `nC #[_,_,rfl,rfl,hz.1,`VT,hz.2.2,`ha (`ax w40)]
  ·cases h
 ·split at h
  ·skip;rename_i hz
   cases h;rw[wo0] at rx;rw[ys0] at ry;subst ry;apply `VR;done;refine `u (`u #[a,xs,_,rfl,rfl,`zJ,`a01,`VT,hz.2.2.1,`a02,`H9 `js dj0 `a03]);subst z;have hn:=`k';simp at hn;exact `VS
  ·cases h
def M6(ha:`c0)(hb:`dP):`lX `a04 xm0:=(dx0 (Bv0.or (Bi0.or Cb0)) Il0 ha hb)
def J30{xs:`i}{hi:`bw}(h:`anh=0/\`aVB=`aB):`aoU=xs:=by
 delta cutD;rw[h.1,h.2];simp
open T in
def W3{lo hi:`yX}{gl gh:`t2}{p2:Pos}(he:`b7)(hl:`a05)(hh:`a06):
  PD X `aS7 (sk0 g gl gh):=(.mk λB δ=>
 (Io0 (Br0.or (Ed0.or (za1.or Cw0))) `zK (hl B δ) (hh B δ)).imp fun σ H Q hq120=>by
  apply `bo hq120
  delta sk0 at h;cases e1:`aA with
  | none=>rw[e1] at h;cases h
  | some x=>
   cases e2:gl δ with
   | none=>apply `ce;cases h
   | some l=>
    cases e3:gh δ with
    | none=>rw[e1,e2,e3] at h;cases h
    | some u=>
     rw[e1,e2,e3] at h;apply `dQ;refine`Hy x (`a07 `abT ?_);have S:=`zL;have r3:=(`oH).same s3;have hb:=(`apO).bad;cases x<;>simp only[slA] at h<;>try cases h
     ·split at h
      ·cases h
       rw[w40] at r3;exact `n #[_,r3,`q8,k _ H3 S `ME]
      ·cases h
     ·have r4:=r3
      rw[wo0] at r3;apply `HT r3;rename_i dxs
      by_cases hw:sIx `VU 0 l=0/\sIx `VU `VU u=`VU
      ·refine `u (`u (`u #[a,xs,rfl,`fg,`a08,k _ _ S ?_]))
       rw[J30 hw];exact r4
      ·apply `fs (`n #[a,xs,rfl,`fg,`a08,`a09 dj0])
     ·rw[w80] at r3
      apply `HT r3;apply `nC #[a,xs,rfl,`fg,`a09 lv0])
def G8:FnR K (`TN (`aYB/\`aTO)) se0:=by
 apply `zs;delta se0 at h;split at h
 ·skip;cases h
  apply `lY;apply `nH;apply `t';done;exact#[a,ys,rfl,`aoA,`a0']
 ·skip;cases h
  apply `lY;rw[wo0] at r1;apply `t';done;exact#[a,ys,rfl,`aoB,`a0']
 ·cases h
omit z
omit DL
namespace SetS
open Spec PyProof.Rows DL
def g60(ys:`e)(y:Str):t40 `xc=jv0 (t40 ys) y:=by delta t40;rw[`a0!];rfl
def Uk0:∀(n:Nat) (ys:`e),`bx=n->`pt<=n:=by
 intro z;induction z with
 | zero=>intro ys h;have:=X2.mp h;subst this;exact `fA
 | succ n iq=>
  intro ys h
  have J:ys≠[]:=λz=>by subst z;simp at h
  rw[← List.dropLast_concat_getLast J,g60];have ih:=iq ys.dropLast (`eO `aT! h);delta jv0;split
  ·lia
  ·apply `r0;lia
theorem Tr0:∀{us:`am} {ys:`e} {i:Nat} {v:`A},`aX?->`aX5->`apP
 | _,_,_,_,`ah,h=>`nz
 | _,_,0,v,`a0?,h=>by simp at h;exact#[y,t,rfl,h.symm]
 | _,_,i+1,v,`a0?,h=>by
  let#[y',t',e1,e2]:=Tr0 (i:=i) r `fX;exact#[y',t',`zb,e2]
def jp0(ys:`e)(k:Str):`aj:=b80 (t40 ys) k
def Hk0(ys:`e)(y k:Str):jp0 `xc k=(jp0 ys k||`an (k=y)):=by
 delta jp0;rw[g60];delta jv0
 by_cases h:b80 (t40 ys) y=`d
 ·rw[`bM]
  by_cases e:k=y
  ·subst e;rw[h];simp
  ·simp[e]
 ·rw[`bV]
  delta b80;rw[List.any_append]
  by_cases e:k=y
  ·subst e;simp
  ·have:¬y=k:=`D0
   simp[e,`w]
def Jj0(ys:`e)(y:Str):(`o (t40 `xc))=`D (jp0 ys y=`d) `pt (`pt+1):=by
 rw[g60];delta jv0 jp0;split<;>simp
section
variable{w:`T}{A:`aq}{R:`nw}{wr:`aw}{G:`apQ}{P:`apR}{St:`TZ}
def fill(ys:`e)(W:`afP `fD `bx)(C:`f)(hC:C∉fp)(hv:∀i v,P i v->`apP)(hb:`a1a):
  ∀(k i:Nat) (s:`v),`bx - i=k->i<=`bx->St i s->`a1b `xl C (jp0 `afK) `a1c ->
   (∀s',`aG0->`a1d `xl C `aGY `pt->`ai!) ->
   `F9 (`cW "set.update.loop" `a1e) s:=by
 have a4:C∉wr:=λh=>hC (W.sub _ h)
 have sub:∀b∈wr,b∈C::wr:=λb z=>A7 _ z
 have J:∀{s s':`v} {S:Str->`aj} {n:Nat},Moved wr G s s'->`a1b `xl C S n->`a1d `xl C S n:=λ{s s' S n} m h=>by
  let#[o,es,ep,tb,e,rest]:=h;exact#[o,es,ep,tb,m.heap C _ a4 e,`bG]
 intro k
 induction k with
 | zero=>
  intro i s hk hi st hS hR;obtain rfl:i=`bx:=`U
  rw[`oz] at hS;refine E5 Ae1 (by
   rw[`oR E90 _];exact A1 (W.done s _ _ st λs' m=>A5 (hR s' (`a1f) (J m hS))))
 | succ k ih=>
  intro i s hk hi st hS hR;have lt:i<`bx:=`U
  refine E5 Ae1 (by
   rw[`oR E90 _];refine A1 (W.item i s _ _ lt st λv s' hP a2 m=>?_);let#[y,t,ey,rfl]:=hv i v hP;have a1:=J m hS;show `jA (`mM [`w0 y t] (setAdd C (`Du))>>=_) s';refine A1 (D3 (by
    delta setAdd;refine D3 (A1 ((`Le).pyHash (k:=y) (`ba `E4) ?_));have room:`a1c+1<`afJ:=by
     have:=Uk0 _ `afK rfl;apply `ay `fb;lia
    refine wpAny_setAddHashed_of (knd:=`Le) (s:={ s' with toks:=s'.toks+1 }) (k:=y) (`ba `E4) rfl a1 room λh' M Z=>?_
    have tk:`apS=`aCt++[y]:=by
     rw[List.take_add_one,ey];rfl
    have O:`aGX `xl C (jp0 (`apS)) (`o (t40 (`apS))):=Af1 Z (λk'=>by rw[tk,Hk0]) (by rw[tk,Jj0]);refine A5 #[L5 E90 _,ih `dn _ `l lt (`apT _ s' _ _ a2 (j0 _) λb hb o e=>?_) O λY m2 a3=>?_]
    ·rw[M.2 b (λz:b=C=>hC (`bk z hb))];exact e
    ·refine hR Y (`a1g W.gtrans ((`a1f).then_heap (j0 _) `apU) m2) a3
     rw[M.2 b (λz:b=C=>hb `ai8)];exact e)))
omit z
section
variable{w:`T}{A:`aq}{s:`v}
abbrev k50(led:`aj):Obj:={ cls:=`PN,dict:=`g,data:=.set ⟨⟩ 0 (.fresh 0 0 led) }
set_option maxHeartbeats 3200000 in
def Zv0{p:`f}{its:`aO}{ys:`e}{Q:`aK}(hh:`fq)(hp:`Cj p its)(hy:`EA `w5 ys)(hb:`a1a)
  (h:∀(h':`aa) (tk:Nat),`a1h->`a1i->Q `f2 `jt):
  `dH (`f1 (`PN) `BW):=by
 have a1:`bx=`CL:=by rw[← hy.length];simp
 let#[c0,b3,mro]:=PySem.F.called_set.mro;have made:=PySem.F.called_set.made;have b1:=PySem.F.called_set.sub;refine i8 (`a1j (by
  show `b6 (callAny (`PN) _) _;refine A5 #[`aNy,E5 PySem.F.entry_type_call (by
   rw[Around.under_plain (weight_type_call_type `kQ `BW []) rfl];have n1:=PySem.F.called_set.notType;have n2:=PySem.F.called_set.canCreate;have ct:=PySem.F.typeCall_set_1 `i_
   apply `jK
   refine P6 (code_set_new_1 `i_ (E:=E) (Q₁:=λob s1=>∃J:`aj,ob=`gW/\s1=`a1k) λJ=>#[J,rfl,rfl]) λr1 s1 hr=>?_
   cases r1 with
   | error e=>exact hr
   | ok f1=>
    cases f1 with
    | ret ob=>
     let#[J,rfl,rfl]:=hr;have gC:`a1l `L=`a1m:=`e7;have tC:`EV `a1k `f2 `kQ:= `a1n;have li:=PySem.F.called_set.init.lookup;have bi:=PySem.F.called_set.init.bind `f2
     apply `jK
     refine P6 (B40 (R:=wants (λr s2=>r=`a8/\∃h' tk,s2=`jt/\`a1h /\
       `a1i) E) PySem.F.called_set.init.plain PySem.F.entry_set_init (check_set_init_1 tC ?_)) λr2 s2 M=>?_
     ·let#[op,gp,kp,np,dp]:=hp
      let#[pc,pd,b2,ps]:=op;simp only at kp dp;subst kp;subst dp;have a8:`a1l p=`c { cls:=`h_,dict:=pd,data:=`fi its np,slots:=ps }:=B8 _ gp;have s1:=PySem.F.sub_list_set;have s2:=PySem.F.sub_list_frozenset;have ne:(`apV==`m2 `ij)=`q:=`a5
      have Z:(`Dw).IsList p its:=#[_,a8,rfl,np,rfl];delta Builtin.«set.__init__» noKeywords Builtin.Frozenset.updateFrom;generalize hPI:`SP=PI
      wp_walk
      subst hPI;have Y:p<`L:=B6 gp;have a6:A.in1.in1.in1.handled=`g:=`VV
      have a7:p≠`apW:=`k `qB (B9 (A10 Y))
      have a2:`L ∉[`apW,p]:=by
       rw[`qB];apply `a1o;exact#[`alX,D0 Y]
      have vals:∀(i:Nat) (v:`A),its[i]?=`aX->`apP:=λi v hv=>by
       have a4:`w5[i]?=`aX:=`k `F1 hv
       exact Tr0 hy a4
      have Wk:=(`aX' a6 `apW p a7 its).toS (prog:=`hO) (w:=w);rw[← a1] at Wk;refine x8 Z (A1 (`a1p (fill ys Wk `L a2 vals hb (`bx - 0) 0 _ `l `s2 #[`w7,(Z.push _)] ?c1 ?c2)))
      case c1=>
       have g0:((`Dw).push (`e? `a1q (`mF ⟨`g0,`h 0 0⟩))).get? `L=`a1m:=B8 _ gC;exact Af1 ((PyProof.Rows.setObjOf_fresh (knd:=`Le) J).setOf g0 (by delta scanBound;lia)) (`lv) rfl
      case c2=>
       intro s' m O;let#[h',g',d',b0,a3]:=s';obtain rfl:g'=`sP:=m.gens;apply `a1r;obtain rfl:a3=s.os:=m.os;show `b6 _ _;refine A5 (A5 #[rfl,h',b0,rfl,O,`apU]);refine m.heap b o ?_ (B8 _ `Hb);apply `a1o;exact#[B9 hb,`k `qB (B9 (A10 hb))]
     ·cases r2 with
      | error e=>exact M
      | ok f2=>
       cases f2 with
       | ret r=>
        let#[rfl,h',tk,rfl,O,a5]:=M
        apply `jK
        exact h _ _ O a5
       | _=>exact M.elim
    | _=>exact hr.elim)]))
omit z
omit SetS
open X
section
variable{a:`G}{p:Pos}{ga:`cA}
def L40(hc:`dV)(hl:`UW)(hs:`a1s)(he:`eS)(bs:`a1t)(hgl:`UY)(hgs:`a1u)
  (e1:`a1v) (e2:`d')
  (h1:`ga) (h2:`VW):
  `apX `a1w (∃q ys,v=`ag q/\SqL X.K H' q `yk/\`aY4/\Q (`h `pt) H'):=by
 apply `a';refine `VX hgl hl A9;refine np0 ?_ e1 h1;rw[e1];show `b6 (`VY `aGZ) s;refine F3 ?_;refine `VX hgs hs bs;refine `a1x;rw[e2];apply `a1y;refine F3 (thn `hs λu s1 hq121=>?_);skip;let#[v,H1,I1,r1,q,ys,ev,hq,hy,k]:=hq121;done;refine M0 ?_;subst ev;obtain rfl:u=`e1 q:=r1;let#[its,rv,pl,_]:=`alr;refine SetS.Zv0 (I1.ok.hd hc) `hC `aYb (`bE (`bx+1<4096)) λh' tk hS hk=>M0 ?_
 skip;let#[o,Y,ep,t,ho,J,hd,O,M,hb,hf,hn]:=hS;done;refine PySem.call_len_set (s:=(`KB s1 h' tk)) ho J hd hf (by
  have:=hb;have z:`afJ=4096:=rfl;lia) ?_
 rw[hn];have I2:`aW H1 ((`KB s1 h' (tk+1+1))):=`EX λb o e=>hk b o `mL e
 exact#[`cZ,H1,I2,`al,k]
def b_set:`a1t:=`aU
open T in
def W2(hl:`UW)(hs:`a1s)(he:`b7)(hc:`fv)(hgl:`UY)(hgs:`a1u)
  (e1:`a1v) (e2:`d')
  (h1:`ga) (h2:`VW):
  PD X `a1w (oA `Ci lt0):=(.mk λB δ=>
 (L40 hc hl hs `zK b_set hgl hgs e1 e2 h1 h2).imp fun σ H Q hq122=>by
  apply `bo hq122
  apply `zM;cases e3:`aA with
  | none=>rw[e3] at h;cases h
  | some x=>
   rw[e3] at h;apply `ub;delta lt0 at h;cases x<;>try cases h
   rename_i ds;apply `H';cases e4:`T! with
   | none=>rw[e4] at h;cases h
   | some ys=>
    rw[e4] at h;apply `dQ;split at h
    ·rename_i hz
     cases h;refine#[_,en,e3,`aKc];rw[w80] at r;apply `a1z;have:=bb0 rr e4;subst this;exact#[q,ys,rfl,`j1,hz,`aYH]
    ·cases h)
omit z
open V
def jr0:`bA
 | `dx,`B5=>`aY'
 | _,_=>`g
def w70{gA:GA}{δ:Ds}(h:`y?)(hl:`py):ye0 gA δ=`T7:=by
 delta ye0;rw[h,`s,`wx]
def Z30{gA:GA}{δ:Ds}(h:`y?)(hl:`py):yu0 gA δ=`qn:=by
 delta yu0;rw[h,`s,`wx]
def Ry0{n:Int}{d:D}(h:d∈`zN):∃k:Nat,`cS<n/\d=`ko:=by
 let#[k,hk,rfl]:=`qC;have:=`H!;exact#[k,`U,by rw[`VZ]]
def Bh0(f:D->α)(n:Int):(`zN).map f=`a1A λ(k:Nat)=>f `uP:=by
 delta u00;rw[`M];have:n - 0=n:=`U
 rw[`w];refine D7 λk _=>?_
 show f (`h (0+`cS))=_;rw[`VZ]
def d90(n:Int):(`o `zN)=`jm:=by delta u00;simp
def Ev0{n:Int}{d:D}(h:(`zN)[j]?=`aQ):j<`jm/\d=`gn:=by
 have hj:j<`jm:=by
  have:=(`c9 h).1
  apply `iD d90
 refine#[hj,?_];delta u00 at h;rw[`cH,`V_ (`y!)] at h;have:=B4 h;rw[← `w];show `de (0+`bN)=_;rw[`VZ]
def gf0{gt:GB}{ge:GE}{δ:Ds}{n:Int}(h:Nat->D)(H:∀k:Nat,`cS<n->∃δ',gN 0 `uP δ=`wv/\`ank/\`Ep=`c (h k)):
  wl0 `eW gt ge δ (`zN)=`c (`a1A h):=by
 rw[u10 (`iK `gw (h `kW)) (λd hd=>by
  let#[k,hk,rfl]:=Ry0 hd;exact H k hk),Bh0]
 rfl
section
variable{a:`G}{p:Pos}{ga:`cA}
def G4(ha:`c0)(hb:`dP):PDF X `a00 (`zO jr0):=(.mk λB δ=>(Gf0 Ru0 `bK `fl).imp fun σ H Q hq123=>by
 skip;apply `bo hq123
 delta o2 at h;cases e1:`dO with
 | none=>rw[e1] at h;cases h
 | some x=>
  cases e2:`d4 with
  | none=>apply `ce;cases h
  | some y=>
   apply `ce;apply `dQ;done;apply `t6;cases x<;>cases y<;>simp only[jr0] at h<;>try cases h
   split at h
   ·skip;rename_i hz
    cases h;have r1:=`oH;rw[w80] at r1 r2;let#[a,xs,rfl,q1,r1]:=r1;let#[b,ys,rfl,q2,r2]:=r2;done;exact#[a,b,xs,ys,rfl,rfl,`zJ,q2.to,`apN,λp hp=>k p _ (`a1B hp) `a1C #[_,yb0,(`Tx).mono (`D7 hp)]]
   ·cases h)
def U0(hm:`tN)(hv:`sO=`c `xn)(ha:`b7)(hg:`f!)
  (hn:`tO) (hdb:`a9) (he:`d') (hpl:`ga):
  `H? `apY se0:=(.mk λB δ=>(`a1D mo0 j7 `aDv).imp fun σ H Q hq124=>by
 apply `bo hq124
 apply `zM;cases e1:`aA with
 | none=>rw[e1] at h;cases h
 | some x=>
  rw[e1] at h;apply `ub;apply `V0;cases x<;>simp only[se0] at h<;>try cases h
  ·rw[wo0] at r1
   apply `V1;exact#[q,xs,rfl,`u `j1,`a1E]
  ·apply `nH
   apply `V1;exact#[q,xs,rfl,`n `j1,`a1E])
omit z
section
variable{p:Pos}
def FnN(P:`av)(w:`T)(K:`C)(mg:`cd)(base:`aa)(x:Str)(k:Nat)(ps:`e)(f:`r):Prop:=
 `aYK `a1F
def zj0{k m:Nat}{ps:`e}{f:`r}(C:`a1G)(hr:`qw)(hk:k<=m)(ha:`jY)(hg:`f!)(hdb:`a9)
  (he:`d9) (hpl:`f9):PDF X `vE `LO:=by
 apply `aoG;exact .mk λB δ=>(`afW `ah `bK).imp fun σ H Q h=>by
  apply `qr;apply `zf;cases e1:`dk with
  | none=>rw[e1] at h;cases h
  | some ds=>
   rw[e1] at h;apply `UF;show spN X.K f `anX H1 Q E0;rw[`du];exact#[B,ds,d,`UE,r1,h,`a1H]
def zg0{k m:Nat}{ps:`e}{f:`r}(C:`a1G)(hr:`qw)(hk:k<=m)(ha:`jY)(hg:`f!)(hdb:`a9)
  (he:`d9) (hpl:`f9):`Hz:=((`a1I zj0))
def V2(h:`zk):`HC w60 g:=(.mk λH₀ B₀ δ pins s σ H D I hq125=>by
 skip;apply `bC hq125
 delta w60 at e1;apply `bl;cases e2:`aA with
 | none=>apply `as;cases e1
 | some d=>
  apply `as;cases e1;done;exact `HD `dq #[d,env,e2,λp H' hp s' r=>k p H' (`ape) (`aiy s') (`ei `api (`pe λa z=>z.imp (b1 a) id)).toL])
open T in
def V7(i:Nat){px:Pos}(hN:`ez)(hv:`iH)(hd:`a9)(hcd:`hB):
  PSD X (`acR (`c `mQ) pos) (ps0 i):=(.mk λH₀ B₀ δ pins s σ H D I hq126=>by
 apply `bC hq126
 delta ps0 at e1;apply `bl;split at e1
 ·rename_i d hi
  let#[a,hs,hb,ro]:=`Dt;cases e1;exact `HD `qA #[_,hs,k a H (`sX i d a hi hs) `gk (ro.mono `api (`pe λb z=>`xx (b1 b) λq=>`k q hb))]
 ·cases e1)
omit z
def l90:`r
 | [`eH,`mC]=>`vG (`a1J `a1K)
 | _=>`g
def oi0:`r
 | `qo=>`c (`m `aG2)
 | _=>`g
def qv0(ds:`i):`i:=(`bc `b2).map λ(k:Nat)=>`t [`ko,`ad' k `y]
def Kp0:`anf
 | `qo=>`c (qv0 ds)
 | _=>`g
def ky0(gA:GA):GA:=`y9 Kp0
open B
def h80:`r
 | [`t3]=>`c (`t3)
 | _=>`g
mutual
def tree:`ey
 | `eo=>`q
 | `t9=>`q
 | `zq=>`q
 | `c5=>`apZ
 | _=>`d
def trees:`U6
 | []=>`d
 | `b1=>tree d&&`apZ
end
open A
def mu0(g:GE):GE:=fun δ=>`aoH (`U1 `ap_)
def d50{g:GE}{δ:Ds}{d:D}(h:`wy=`aQ)(ht:`ap_):mu0 g δ=`aQ:=by
 delta mu0;rw[h,`s,`ap0]
def sq0(g:GE)(gA:GA)(f:`zP):GE:=`aVG f
def Dz0{g:GE}{gA:GA}{f:`zP}{δ:Ds}{d:D}(h1:`iG)(h2:`y?):sq0 g gA f δ=f d ds:=by
 delta sq0;rw[h1,h2];rfl
def n70:`zP
 | `lo,[`ts]=>`c `aLY
 | _,_=>`g
def re0:GS:=`yL
def i30{gA:GA}{δ:Ds}{n:Int}(h:`dk=`c [`gz])(h1:`aoS)(h2:n<`e_):t70 gA δ=`c (`zN):=by
 delta t70;rw[h,`s];apply `aM Op0;rw[`I `aZx]
def ad0{g:GE}{δ:Ds}(h:`aA=`qn):`ap1=`Ia `b2:=by
 rw[d9 `a1L];rfl
omit DL
namespace RevL
open V
def Pe0:`pn `V2 "__len__"=`sh:=by apply `p_;kernel_rfl
def Ig0:`pn `V2 `afQ=`bD (`c (`cW "list_reverseiterator.__length_hint__")):=by apply `p_;kernel_rfl
def Dm0:`ajK `V2 `V2=`MA:=`a1M
section
variable{w:`T}{A:`aq}{s:`v}{R:`nw}
variable{wr:`aw}{G:`apQ}{P:`apR}{St:`TZ}
def Ba0(W:`a1N)(hT:`ap2)(C:`f)(res:`A)(c0:Nat)(st:St 0 s)(hC:C∉fp)(hI:I∈fp)
  (gC:`fO C=`c (`e? `h_ (`fi ⟨⟩ c0)))
  (hR:`a1O (`o4 res s')) (hn:`G8):
  `aP `dZ `fD (`afR `gx `NS res)
   `a1P `af7 s:=by
 have ne:C≠I:=λe=>hC (e▸hI)
 apply `a1Q;refine A1 (L0 `V3 (by
  have q1:`V4 `gx `NS=`q:=by simp[`V4,ne]
  have q2:(`m2 `MJ==`apV)=`q:=`a5
  have q3:(`m2 `MJ==`a1R)=`q:=`a5
  simp only[q1,q2,q3,`TE,`qj,`mw];refine A1 (W.self 0 _ _ _ st (A1 (D3 (by
   apply `a1S;refine A1 (G0 `V3 Pe0 (by
    show `jA (`a1T I) _;apply `jQ G0 `V3 Ig0;apply `jQ x3 `V3 Dm0;rw[`fm];dsimp only;rw[`I `bf,`fm];refine `eg;rw[`ap `bf];refine A5 #[L5 PySem.F.plain_extend_loop _,?_];exact codeAny_extend_loopS W hn _ hC _ n 0 _ _ _ rfl `s2 st gC (ItemsOf.nil P) λs' acc' c' m e J=>hR s' acc' c' m e J))))))))
def Im0(W:`a1N)(hT:`ap2)(C:`f)(st:St 0 s)(hC:C∉fp)(hI:I∈fp)
  (gC:`fO C=`c `PP)
  (hR:`a1O `ai!) (hn:`G8):
  `aP `dZ `fD (Builtin.«list.__init__» `a1e)
   `a1P `af7 s:=by
 show `jA (do let old ← Builtin.List.listItems `gx;Builtin.List.listUpdate `gx `a1U;letGo old.toList.reverse;`a1V) s;refine A1 (by
  delta Builtin.List.listItems;refine A1 (d5 gC rfl (A5 (by
   show `jA (`V5 C `a1U>>=λ_=>letGo (⟨⟩:`aO).toList.reverse>>=λ_=>`a1V) s;have g2:=i3 `a1W gC rfl;have oth:∀b o,b≠C->`gv->`Ib (`amO C `a1W):=`a1X
   refine A1 (l8 gC rfl (A1 (wpAny_letGo (Ba0 W hT C `a8 _ (`apT 0 s _ `b? st `bq λb hb o e=>oth b o (λh=>hC (h▸hb)) e) hC hI g2 (λs' acc' c' m e J=>?_) hn))));exact hR s' acc' c' (`a1g W.gtrans ((Moved.refl W.grefl).then_heap `bq λb o hb e=>oth b o (λh=>hb (h▸A8)) e) m) e J))))
omit z
section
variable{w:`T}{A:`aq}{s:`v}
variable{wr:`aw}{G:`apQ}{P:`apR}{St:`TZ}
def Wu0{Q:`aK}(W:`afP A.in1.in1 n)(hT:`ap2)(st:St 0 s)(hfp:∀b∈fp,`PL)(hI:I∈fp)
  (hQ:∀s' acc' c',Moved (`L::wr) G `a1Y s' ->
   `EY `L=`aNo->`aG1->Q `f2 s') (hn:`G8):
  `dH (`f1 `xn [`ag I]):=by
 have hC:`L ∉fp:=λz=>E6 _ (hfp _ z)
 refine A20 (Q₁:=λob s1=>ob=`gW/\s1=`a1Y) PySem.F.called_list (PySem.F.typeCall_list_1 _) PySem.F.entry_list_init (code_list_new _ `iz) λob s1 h1=>?_
 let#[rfl,rfl]:=h1;have gC:(`kz `PP).get? `L=`c `PP:=`e7;exact#[`a1n,PySem.F.args_list_init_2 _ _,Im0 W hT _ (`apT 0 s _ `b? st `bq λb _ o e=>`vi) hC hI gC (λs' acc' c' m e J=>#[rfl,hQ s' acc' c' m e J]) hn]
def V50{l:`f}{its:`aO}{Q:`aK}(hh:`fq)(hl:`Cj l its)(hz:`aeH)
  (h:∀(h':`aa) (tk c:Nat) (a:`f),`Sq->`fQ a=`OS `ap3 c->(∀b o,`xm)->Q `ci `jt):
  `a1Z (`f1 `a1_ [`kl]) `xn:=by
 refine call_reversed_list hl ?_;let#[ol,gl,_,_]:=id hl;have O:l<`L:=B6 gl;have Z:A.in1.in1.handled=`g:=`VV
 have Wk:=(Walks.listRev (prog:=`hO) (w:=w) Z `L l (B9 O) its).toS;refine Wu0 Wk (λi s x=>x.2.1.typeIs) #[`bP,#[_,`e7,rfl,by
  show `aQn ⟨`kl,`px (`V6)⟩=_;have z:`V6 - `vA=`V6:=`ch
  rw[z]],hl.push _] (`ju) `az (λs' J c' m e M=>?_) hz
 ·show b<`ap4
  rw[`qB];apply `a10;rcases hb with rfl|rfl
  ·exact f8 _
  ·exact A10 O
 ·skip;let#[h',g',d',a1,Y]:=s'
  obtain rfl:g'=`sP:=m.gens;apply `a1r;obtain rfl:Y=s.os:=m.os;have ea:J=`ap3:=by
   apply Array.ext
   ·rw[M.1,Array.size_reverse]
   ·intro i h1 h2
    have q:its[`CL - 1 - i]?=`c J[i]:=M.2 i J[i] (m3 h1);have hi:i<`CL:=`bk M.1 h1
    rw[`RI `cK] at q;rw[Array.getElem_reverse];exact(B4 q).symm
  subst ea;have a2:(`ws (`kz (revObj l (`V6))))=`q9:=C90 ..;done;refine h h' a1 c' _ ?_ e λb o eb=>?_
  ·show `L<=`ap4
   rw[`qB];exact j0 _
  ·have lb:=B6 eb
   refine m.heap b o ?_ (B8 _ (B8 _ eb));simp only[`it,`EN,`pu,`afL];refine#[?_,B9 lb];show b≠`ap4;rw[`qB];exact B9 (A10 lb)
omit z
omit RevL
open X
def Rps.reverse{B:BS}:`a11:=by
 intro z;induction z with
 | nil=>intro _ h;apply `jW;subst h;simp[ze0]
 | cons d ds ih=>
  intro _ h
  rw[O8] at h;apply `zn;rw[`eP,`eP];exact `zl (`za) h1
section
variable{p:Pos}
def R70:`gr `r'=`c `a1_:=`aU
def Ei0:`a12:=`aU
def Bd0(hc:`dV)(hl:`a13)(hs:`a14)(he:`eS)(hgl:`a15)(hgs:`a16)
  (e1:`a17) (e2:`d')
  (h1:`ga) (h2:`VW):
  `apX `a18 (∃q xs,v=`ag q/\SqL X.K H' q xs/\∀l,H' l=`g->Q `r9 (upd H' l (`V7))):=by
 apply `a';refine `VX hgl hl Ei0;refine `a19;rw[e1];show `b6 (`VY `aG3) s;refine F3 ?_;refine `VX hgs hs R70;refine `a1x;rw[e2];apply `a1y;refine F3 (thn `hs λu s1 hq127=>?_);skip;let#[v,H1,I1,r1,q,xs,ev,hq,k]:=hq127;done;refine M0 ?_;subst ev;obtain rfl:u=`e1 q:=r1;let#[its,rv,pl,hz]:=`alr;have J:=`p9;refine thn (RevL.V50 (I1.ok.hd hc) `hC (`afI J hz) (Q:=`aAc) (E:=`iQ) λh' tk c a ha ga hk=>?_) `a1'
 have hf:H1 a=`g:=`abb ha;refine#[`cQ,_,`Gi (a:=a) (o:=`V7) (t':=tk) hk ha ?_,rfl,k a hf];exact#[`a1!,`ap3,c,rv.reverse,`id ga]
def V1(hl:`a13)(hs:`a14)(he:`b7)(hc:`fv)(hgl:`a15)(hgs:`a16)
  (e1:`a17) (e2:`d')
  (h1:`ga) (h2:`VW):
  `H? `a18 oi0:=(.mk λB δ=>
 (Bd0 hc hl hs `zK hgl hgs e1 e2 h1 h2).imp fun σ H Q hq128=>by
  apply `bo hq128
  apply `zM;cases e3:`aA with
  | none=>rw[e3] at h;cases h
  | some x=>
   rw[e3] at h;apply `ub;cases x<;>simp only[oi0] at h<;>try cases h
   refine#[_,en,e3,λv H1 s1 r=>?_];rw[w80] at r;apply `a1z;exact#[q,xs,rfl,`j1,`aG_ rr.reverse.mono])
omit z
section
variable{B:BS}
def uj0[`nJ]:∀{ks:`nK} {ds:`i} {xs:`P} {q:κ},`bi->(∀d,`U4=`aQ->∃x,`V8=`c4/\`Et)/\(`wk->(`V8).isSome=`wz):=by
 intro z;induction z with
 | nil=>
  intro ds xs q h
  refine#[λd e=>?_,`Ic]
  ·delta yz0 at e;cases e
  ·rfl
 | cons k ks ih=>
  intro z1;cases z1 with
  | nil=>
   intro xs q h
   apply `jW;subst h;refine#[λd e=>?_,`lA]
   ·delta yz0 at e;cases e
   ·simp at z
  | cons d ds=>
   intro xs q h
   skip;rw[O8] at h;apply `zn;let#[i1,i2]:=ih (q:=q) h2
   by_cases e:k=q
   ·subst e
    done;refine#[`a1?,`Ic]
    ·delta yz0 at e'
     rw[`a4] at e';cases e';exact#[x,kj0 rfl,h1]
    ·rw[`d!,kj0 rfl]
     delta xo0;simp
   ·done;refine#[`a1?,`lA]
    ·delta yz0 at e'
     rw[`bW] at e';rw[`d!,k90 e];exact i1 d' e'
    ·rw[`d!,k90 e,i2 (`aod)]
     delta xo0;simp[e]
theorem P70[`nJ]:∀{ks:`nK} {xs:`P} {q:κ},`wk->((`K1).any λkv=>`a2a)=`wz
 | [],_,_,_=>rfl
 | `qx,[],_,h=>`nz
 | `qx,`tV,q,h=>by
  rw[`d!,`lS,P70 `fX];rfl
def Ya0[`nJ]{ks:`nK}{q:κ}(h:`wk):∃ys,putK `rL q v=(xt0 ks q).zip ys/\(`o (xt0 ks q))=`bx/\(`aoM->ys=`ap5)/\(`a2b->ys=`abH):=by
 delta putK xt0;rw[P70 h];cases hk:`wz with
 | true=>
  rw[`a4,`a4];refine#[`ap5,?_,`a2c,`lv,λz=>by cases z];clear hk
  induction ks generalizing xs with
  | nil=>rfl
  | cons k ks ih=>
   cases xs with
   | nil=>simp at h
   | cons x xs=>
    rw[`d!,`J,`J,`d!,`ao']
    by_cases e:k=q<;>simp[e]
 | false=>
  rw[`cB,`cB];refine#[`abH,?_,`a2c,`aVS,`lv];rw[List.zip_append h];rfl
theorem go0[`nJ]{q:κ}{d:D}(hv:`dM):∀{ks:`nK} {ds:`i} {xs:`P},`bi->`nE (`aYV λp=>`D (p.1=q) d p.2) (`ap5)
 | [],_,_,_=>`en ze0
 | `qx,[],xs,h=>by apply `jW;subst h;simp[ze0]
 | `qx,d'::ds,xs,h=>by
  rw[O8] at h;apply `zn;rw[`d!,`d!,`J,`J,O8];refine`hD ?_ (go0 hv h2)
  by_cases e:k=q
  ·simp only[e,`qd];exact hv
  ·apply `tX e;exact h1
omit z
section
variable{a:`G}{p:Pos}{ga:`cA}
def m60{B:BS}{d:D}{k:Q3}(h:`MF=`f_)(r:`dM):v=kV k:=by
 apply `Uw uk0
 ·subst h;rw[ys0] at r;subst r;rfl
 ·subst h;rw[w40] at r;subst r;rfl
def L80{B:BS}:∀{ds:`i} {ks:`a1} {xs:`P},`U3=`c ks->`bi->xs=`afB:=by
 intro z;induction z with
 | nil=>intro ks xs h r;cases h;rw[ze0] at r;exact r
 | cons d ds ih=>
  intro ks xs h r
  skip;delta d00 at h;rw[O8] at r;apply `ap6;cases e1:`MF with
  | none=>rw[e1] at h;cases h
  | some k=>
   cases e2:`U3 with
   | none=>apply `ce;cases h
   | some l=>
    apply `ce;cases h;done;rw[m60 e1 h1,ih e2 h2];rfl
def ab0{B:BS}{d:D}{k:`a1}(h:mq0 d=`f_)(r:`dM):∃b,v=`rr/\`H1:=by
 cases d<;>simp only[mq0] at h<;>try cases h
 rw[wo0] at r;let#[a,xs,rfl,q,rr]:=r;exact#[a,rfl,`bk (L80 h rr) q.2]
open T in
def J0(hu:`j2)(ha:`c0)(hb:`dP)(hs:`H (Iq0 b) Ag):`lX `G4 xg0:=(.mk λB δ=>(Fr0 hu `bK `fl hs).imp fun σ H Q hq129=>by
 apply `bo hq129
 delta o2 at h;cases e1:`dO with
 | none=>rw[e1] at h;cases h
 | some x=>
  cases e2:`d4 with
  | none=>apply `ce;cases h
  | some y=>
   apply `ce;apply `dQ;apply `t6;cases x<;>simp only[xg0] at h<;>try cases h
   apply `zQ;have r1:=`oH;cases ks with
   | inl ks=>
    apply `qD;cases e3:uk0 y with
    | none=>rw[e3] at h;cases h
    | some q=>
     rw[e3] at h;apply `dQ;rw[pi0] at r1;apply `a2d;apply `a2e;have:=`ap7;subst this;exact`a2f `afT
   | inr ks=>
    apply `qD;cases e3:mq0 y with
    | none=>rw[e3] at h;cases h
    | some q=>
     rw[e3] at h;apply `dQ;rw[dr0] at r1;apply `a2d;apply `a2e;let#[b,rfl,hb]:=ab0 e3 r2;exact`a2f `afU)
open T in
def J8(hu:`j2)(ha:`c0)(hb:`dP)(hm:`H (`LA .In b=`q) Ai):PTD X (`aaG .In) (ob (`zO `FP)):=(.mk λB δ=>(Ke0 (zo1 hu `bK `fl) hm).imp fun σ H Q hq130=>by
 apply `qs hq130
 delta ob o2 at h;cases e1:`dO with
 | none=>rw[e1] at h;cases h
 | some x=>
  cases e2:`d4 with
  | none=>apply `ce;cases h
  | some y=>
   apply `ce;apply `dQ;apply `t6;apply `ap8
   apply `zQ;cases ks with
   | inl ks=>
    apply `qD;cases e3:uk0 x with
    | none=>rw[e3] at h;cases h
    | some q=>
     rw[e3] at h;apply `a2g;cases h;rw[pi0] at r2;apply `zR;have:=`ap9;subst this;refine`a2h;apply `zS;exact `V9
   | inr ks=>
    apply `qD;cases e3:mq0 x with
    | none=>rw[e3] at h;cases h
    | some q=>
     rw[e3] at h;apply `a2g;cases h;rw[dr0] at r2;apply `zR;apply `ap';refine`a2i;apply `zS;exact `V9)
open T in
def S6(hu:`j2)(ha:`c0)(hb:`dP)(hm:`a2j):PTD X `a2k (ob (`zO `ye)):=(.mk λB δ=>(Ke0 `a2l hm).imp fun σ H Q hq131=>by
 apply `qs hq131
 delta ob o2 at h;cases e1:`dO with
 | none=>rw[e1] at h;cases h
 | some x=>
  cases e2:`d4 with
  | none=>apply `ce;cases h
  | some y=>
   apply `ce;apply `dQ;apply `t6;apply `ap8
   apply `zQ;cases ks with
   | inl ks=>
    apply `qD;cases e3:uk0 x with
    | none=>rw[e3] at h;cases h
    | some q=>
     rw[e3] at h;apply `a2m;cases h;rw[pi0] at r2;apply `zR;have:=`ap9;subst this;refine`a2h;apply `zS;exact `V9
   | inr ks=>
    apply `qD;cases e3:mq0 x with
    | none=>rw[e3] at h;cases h
    | some q=>
     rw[e3] at h;apply `a2m;cases h;rw[dr0] at r2;apply `zR;apply `ap';refine`a2i;apply `zS;exact `V9)
def K6(i:Nat)(hu:`j2)(h:`b7)(hN:`ez)(hv:`iH)(hd:`a9)(hcd:`hB)
  (ha:`H (∀v,`ie (`kC `mQ e pos) `N v=(do
   let ov ← `mM [v] `aBT
   let iv ← `mM [v,ov] `FU
   `Mt pos
   `aPS
   `aPT)) Ad):PTG X (`kC `mQ e pos) (`tr i g):=(.mk λH₀ B₀ d δ pins s σ H v u Q I r hq132=>by
 skip;let#[δ',en,e1,k]:=hq132
 delta putAt at e1;apply `a_Y;cases e2:`PE with
 | none=>apply `as;cases e1
 | some pr=>
  cases e3:`aA with
  | none=>apply `zD;cases e1
  | some dk=>
   apply `zD;apply `fu;cases e4:uk0 dk with
   | none=>rw[e4] at e1;cases e1
   | some q=>
    rw[e4] at e1;apply `fu;split at e1
    ·rename_i hz
     cases e1;have hi:=Qp0 e2;let#[a,J,hb,xs,hx,hl,rx]:=`Dt;have hl:`ap!=`aB:=hl;done;refine Bm0 `qA `dq (set_dict hu) ha `z s σ H v u Q I r #[_,J,_,env,e3,λiv H1 s1 r1=>?_];have:=m60 e4 r1;subst this;let#[ys,hy,hyl,O,Y]:=`ap? q v;refine`zT a (DPut.k (`apo) (`a2n));have rr:Rps X.K H1 B `ac' ys:=by
      delta xy0;cases hk:`agg with
      | true=>rw[`a4,O hk];exact go0 `aqa `afE
      | false=>rw[`cB,Y hk];exact `zl `afE `aqa
     rw[hy];have M:`s5 (upd H1 a `a2o) `aqb:=`aGQ hi J `a2p;exact k _ _ (en.s.mut s1 b1 b2 hi J M)
    ·cases e1)
omit z
omit DL
open Y
structure FunV(K:`C)(x qual:Str)(st:`a0)(f:`f)(fd:`f0)(dV:`A):Prop where
 ex:∃(oc:`A) (od:`cY) (kV doc pm:`A) (an:`cY) (cdv ct:`A) (osl:`hz),
  fd=`aqc/\`aUd
 kp:`qc
section
variable{P:`av}{w:`T}
def FunV.ok{st:`a0}{f:`f}{N ps:`e}{k:Nat}(F:`afV f fd)(S:`qg)(len:`S?)
  (hbody:∀(cdv:`A) (A:`aq) (outer:`f6) (s:`v) (H:Hp) (vs:`P) (Q:VK) (E:XK),`aUf->`v3 ->
   `aUg):`aUh:=by
 skip;apply `amZ;done;apply `aUi
 apply `aUj;exact`aUk
def P50{st:`a0}{f:`f}{kV:`A}(l:`G_ (`aqc))
  (c:`Pk) (k:`qc):`afV f (`aqc):=(`aUl)
omit z
omit L2
open X
section
variable{P:`av}{w:`T}
def vb1{st:`a0}{N ps:`e}{k:Nat}{f:`r}{G:`gR}(F:`a2q)(S:`qg)
  (body:`UN)
  (hf:`aoo):
  `aX1:=by
 apply `HJ
 ·skip;apply `UO;done;rw[`a2];exact`HK
 ·skip;apply `UP;done;apply `UQ
  skip;have en:`HL:=by
   apply `HM;apply `HN;rw[`a2];apply `HO
  apply `aop
  ·done;apply `aoq
  ·done;apply `aor
  ·done;apply `aos
def vg1{st:`a0}{N ps:`e}{k:Nat}{f:`r}{G:`gR}(F:`a2q)(S:`qg)
  (body:`UN)
  (hf:`aX2):
  `aX3:=by
 apply `HJ
 ·skip;apply `UO;done;rw[`a2];exact`HK
 ·skip;apply `UP;done;apply `UQ
  have en:`HL:=by
   apply `HM;apply `HN;rw[`a2];apply `HO
  apply `aX4
omit z
section
variable{a:`G}{p:Pos}{ga:`cA}
def Od0(P:`av)(w:`T)(K:`C)(mg:`cd)(base:`aa)(x:Str)(k:Nat)(ps:`e)(f:`r)(dd:`i):Prop:=
 `a2r `a1F
def Na0(P:`av)(w:`T)(K:`C)(mg:`cd)(base:`aa)(x:Str)(k:Nat)(ps:`e)(f:`r)(dd:`i):Prop:=
 `a2r `aYL
def Eh0{k m:Nat}{ps:`e}{f:`r}{dd:`i}(C:`a2s)(hr:`qw)(hk:k<=m)(ha:`jY)(hg:`f!)(hdb:`a9)
  (he:`d9) (hpl:`f9):PDF X `vE `aG7:=by
 skip;apply `a2t;done;exact .mk λB δ=>`a2u fun σ H Q h=>by
  apply `qr;apply `zf;cases e1:`dk with
  | none=>rw[e1] at h;cases h
  | some ds=>
   rw[e1] at h;apply `UF;exact`a2v `a1H
def Co0{k m:Nat}{ps:`e}{f:`r}{dd:`i}(C:`a2s)(hr:`qw)(hk:k<=m)(ha:`jY)(hg:`f!)(hdb:`a9)
  (he:`d9) (hpl:`f9):`a2w:=((`a1I Eh0))
def zd0{k m:Nat}{ps:`e}{f:`r}{dd:`i}(C:`aG6 Na0)(hr:`qw)(hk:k<=m)(ha:`jY)(hg:`f!)(hdb:`a9)
  (he:`d9) (hpl:`f9):`a2w:=by
 skip;apply `a2t;done;exact .mk λB δ=>`a2u fun σ H Q h=>by
  apply `qr;apply `zf;cases e1:`dk with
  | none=>rw[e1] at h;cases h
  | some ds=>
   rw[e1] at h;apply `UF;exact`a2v `anU
def Jf0{sc scope:`ev}{elt iter tg:`G}{ifs:`d3}{N N':`e}{n:Nat}{caps:`j}{gi:`gQ}{idx:`j}{f:`aR}{gt:`hG}{ge:`cA}
  (ok:`HV) (hidx:∀j∈idx,j<n) (hi:`j0)
  (hg:`t7) (ht:`zm) (he:`t8)
  (hc:`fv) (hsc:`t!) (hN:`t?) (hs:`f8):
  `aoe:=(`aok S60 `U0)
def Mn0{B:BS}{d:D}(h:`HW)(r:`dM):ol0 v=`d/\∀e u,`cV e=`d->Rp K H B e u->eqV v u=eqF d e:=by
 apply `Uw `cV
 ·rw[wh0] at r;subst r
  apply `V';apply `V!
 ·rw[xz0] at r;subst r
  apply `V';apply `V!
 ·rw[ys0] at r;subst r
  apply `V';apply `V!
 ·rw[w40] at r;subst r
  apply `V';apply `V!
theorem Kc0{B:BS}{d:D}(h:`HW)(r:`dM):`ln (`a2x->`bi->`TJ/\inV v xs=`EE ds.any d)
 | [],_,_,rs=>by rw[ze0] at rs;subst rs;exact`iz
 | e::ds,_,ha,rs=>by
  skip;rw[O8] at rs;let#[x,t,rfl,r1,r2]:=rs;rw[`qf,`a?] at ha;let#[i1,i2]:=Kc0 h r ha.2 r2;let#[f1,f2]:=Mn0 ha.1 r1;done;refine#[by rw[`qf,f1,i1];rfl,?_];delta inV at i2 ⊢;rw[`lS,`lS,f2 d v h r,i2]
def u5(neg:`aj):Op2 K (rIn K neg) (vi0 neg):=by
 apply `hI;have key:∀(ds:`i) (xs:`P),`bi->`cV dx=`d/\`a2x->d=`PF (`EE ds.any dx)->∀p,y=`g0->`aTI->rIn K neg x y H Q:=by
  intro ds xs rs hf hd p hp hq;let#[f1,f2]:=Kc0 hf.1 rx hf.2 rs;refine#[p,xs,hp,hq,(Mn0 hf.1 rx).1,f1,`UV];rw[hd,xz0,f2];cases neg<;>simp
 cases dy<;>simp only[vi0] at h<;>try cases h
 ·split at h
  ·rename_i hf
   have hd:=`V?;rw[wo0] at ry;let#[p,xs,e,q,rs]:=ry;exact `a2y `aoB
  ·cases h
 ·split at h
  ·rename_i hf
   have hd:=`V?;rw[w80] at ry;let#[p,xs,e,q,rs]:=ry;exact `a2y `aoA
  ·cases h
omit z
omit DL
namespace ZipL
open V
abbrev IsZ(h:`aa)(z TI TO a:`f)(f:`aj):Prop:=
 `mk z=`apj `aA! (`mF ⟨`px a,`gA f,`aLW,`ag TI,`ag TO⟩)
section
variable{w:`T}{A:`aq}{s:`v}
def alive{a:`f}{o:Obj}{Q:`aT Obj->`fz}(ho:`Gg)(h:Q (`aF) s):`dH (`a2z a):=by
 have h':Q (`B7) s:=`k ho h
 exact λ_ _ _=>h'
def Ua0{TI TO a:`f}{f:`aj}{Q:`a2A}(hz:`Id)(ha:`Ie)
  (hQ:∀h',`aqd->`D6 z->Q `q `k6):`dH `aLX:=by
 delta Builtin.SmallTypes.ownedTupleIsFree;refine A1 (`RR (`px a));show `PQ `a2z ((a:Int).toNat);rw[`cF];apply `gN alive ha;simp only[Option.isNone_some,`qj,`mw];refine A1 (`RR (`gA f));cases f with
 | true=>
  rw[`ap (show ¬((`Wa != `Wa)=`d) from C0)];exact A5 (hQ _ hz (Heap.SameBut.refl _ _))
 | false=>
  rw[`I (`bz ((`CM `q != `Wa)=`d))];exact A1 (wpAny_setField_rec hz `az λh3 M J=>A5 (hQ h3 M J))
def Ip0{TI TO i2 a:`f}{f:`aj}{oa:Obj}{k1 k2:Nat}{xs ys:`aO}{x y:`A}{Q:`aK}(D:`nL)
  (hz:`Id) (ha:`Ie) (hTI:`Wb)
  (h1:`Wc) (h2:`Wd) (hl1:`If) (hl2:`Ig) (hx:`a2B) (hy:`a2C)
  (hQ:∀h',`aqd->`a2D->`a2E->`aqe->`c!=`q9 ->
   `We->Q `f2 `k6):
  `aeW `a2F λfin s'=>∃v,fin=`EU (`u1 v)/\Q v s':=by
 apply `a2G;apply `a2H;apply `a2I;apply `a2J;refine `a2K;apply `a2L;refine A1 (Ua0 hz ha λh₁ a3 J=>?_);apply `tX `qj;refine `lQ;apply `a2M;refine `Wf;show `a2N;refine A1 (F00 `aqf `aqg hx λh₂ a4 M=>`eg);refine `eg;refine `Wf;show `a2O;refine A1 (F00 `a2P `a2Q hy λh₄ a1 Y=>`eg);refine A5 `rz;refine A1 (wpAny_newTuple (hsz:=`abj) ?_);have O:`a2R=`L:=by rw[Y.1,M.1,J.1]
 have a2:`LQ h₄ `d:=`T1 _ _ D.i2z.symm (`FZ _ _ D.i1z.symm a3);have Z:∀c o,`MK->`ad_->`ad0->`aEq->h₄.get? c=`aF:=λc o c1 c3 c4 e=>`T1 _ _ c4 (`aqh `FZ e)
 refine A5 `a2S;show Q (`ag `a2R) _;have hq:=hQ (h₄.push (`wX ⟨x,y⟩)) (B8 _ a2) ((a4.extBut `T1 D.i12).at `a2T) (a1.at `a2T)
  (`bk O `e7) (by rw[`qB,O]) λc o c1 c3 c4 e=>B8 _ (Z c o c1 c3 c4 e)
 rw[O];exact hq
def Dd0{TI TO i2 a:`f}{f:`aj}{oa:Obj}{k1 k2:Nat}{xs ys:`aO}{Q:`aNz}(hh:`fq)(D:`nL)
  (hz:`Id) (ha:`Ie) (hTI:`Wb)
  (h1:`Wc) (h2:`Wd) (hl1:`If) (hl2:`Ig) (hend:`a2U)
  (hE:∀h' e,`We->(∃o,`fQ e=`aF/\`rv=`cR `a2V)->E (`ag e) `k6):
  `nb `dZ `a2F:=by
 apply `a2G;apply `a2H;apply `a2I;apply `a2J;refine `a2K;apply `a2L;refine A1 (Ua0 hz ha λh₁ Y J=>?_);apply `tX `qj;refine `lQ;apply `a2M;refine `Wf;show `a2N;cases hx:`afX with
 | none=>
  refine A1 (`a2W hh `aqf `aqg hx λh₂ e M he=>?_);exact hE h₂ e (λc o c1 c3 _ x=>`aqh M x) he
 | some x=>
  have hy:`aG!:=by rcases hend with h|h;rw[hx] at h;cases h;exact h
  refine A1 (F00 `aqf `aqg hx λh₂ Z M=>`eg);refine `eg;refine `Wf;show `a2O;refine A1 (`a2W hh `a2P `a2Q hy λh₄ e O he=>?_);exact hE h₄ e (λc o c1 c3 c4 x=>O _ _ c4 (`aqh `FZ x)) he
def Nj0{TI TO i2 a:`f}{f:`aj}{oa:Obj}{k1 k2:Nat}{xs ys:`aO}{x y:`A}{Q:`tI}(D:`nL)
  (hz:`Id) (ha:`Ie) (hTI:`Wb)
  (h1:`Wc) (h2:`Wd) (hl1:`If) (hl2:`Ig) (hx:`a2B) (hy:`a2C)
  (hQ:∀h',`aqd->`a2D->`a2E->`aqe->`c!=`q9 ->
   `We->`a2X):
  `Wg:=by
 have hT:`Wh:= `aqi;delta pyNext;exact A1 (`a2Y (j3 (name:=`a2Z) hT A30
  (L7 A30 hT `a2_
   (Ip0 D hz ha hTI h1 h2 hl1 hl2 hx hy λh' a1 a3 a4 a5 a6 a7=>A5 (hQ h' a1 a3 a4 a5 a6 a7)) `a20)))
def Yd0{TI TO i2 a:`f}{f:`aj}{oa:Obj}{k1 k2:Nat}{xs ys:`aO}{Q:`tI}(hh:`fq)(D:`nL)
  (hz:`Id) (ha:`Ie) (hTI:`Wb)
  (h1:`Wc) (h2:`Wd) (hl1:`If) (hl2:`Ig) (hend:`a2U)
  (hQ:∀h',`We->`a21):`Wg:=by
 have hT:`Wh:= `aqi;delta pyNext;refine A1 (`a2Y (j3 (name:=`a2Z) hT A30
  (L7 A30 hT `a2_ (Dd0 hh D hz ha hTI h1 h2 hl1 hl2 hend λh' e hk he=>?_) `a20)))
 let#[o,ho,hc]:=he;refine A1 (x3 (T:= `a2V) (b:=`d) `aL_ isSubtype_stop ?_);exact A5 (hQ _ hk)
omit z
structure ZSt(h:`aa)(z TI TO i1 i2 l1 l2 S:`f)(xs ys:`aO)(i:Nat):Prop where
 own:(i=0/\IsZip h z TI TO `a8/\∃p q,`CN h TO p q)∨∃a f oa,`LQ h f/\`jd=`c oa/\a≠z/\a≠i1/\a≠i2/\a≠S
 hTI:`CN h TI `ab0 `ab1
 h1:`aeK i1 l1 i
 h2:`aeK i2 l2 i
 hl1:h.IsList l1 xs
 hl2:h.IsList l2 ys
structure ZLow(z TI TO i1 i2 l1 l2 S:`f):Prop where
 z:z<S
 TI:TI<S
 TO:TO<S
 i1:i1<S
 i2:i2<S
 l1:l1<S
 l2:l2<S
structure ZG(xs ys:`aO)(S:`f)(h:`aa)(as:`aw):Prop where
 rise:as.Pairwise (·<·)
 above:∀a∈as,S<a
 pairs:`a22 h
section
variable{w:`T}{A:`aq}{s:`v}{TI TO i2 S:`f}{xs:`aO}{h:`aa}
def ZG.there{as:`aw}(g:`a23){a:`f}(ha:a∈as):a<`hl:=by
 let#[j,hj]:=`Wi ha;let#[_,_,_,_,e]:=`a24;exact `fF
def ZSt.keep(x:`a25)(L:`a26)(hk:∀b o,b≠S->`af_):`EQ h' i:=by
 refine#[?_,hk _ _ (B9 L.TI) x.hTI,`Wj x.h1.at L.i1,`Wj x.h2.at L.i2,`Wj x.hl1.at L.l1,`Wj x.hl2.at L.l2];skip;rcases x.own with⟨e,hz,p,q,hp⟩|⟨a,f,oa,hz,ha,n1,n2,n3,n4⟩
 ·done;exact `n #[e,`a27,p,q,hk _ _ (B9 L.TO) hp]
 ·done;exact `u #[a,f,oa,`a27,hk _ _ n4 ha,n1,n2,n3,n4]
def v21{x y:`A}{Q:`tI}(D:`nL)(st:`a28)(hS:S<`L)(hx:`pj)(hy:`aDo)
  (hQ:∀h',`EQ h' `dn->`aqe->`a29->`a2X):
  `Wg:=by
 skip;let#[o1,e1,_]:=id st.h1;let#[o2,e2,_]:=id st.h2;apply `a2'
 ·done;refine wpAny_pyNext_zip_item D hz `zU hp st.h1 st.h2 `Wk `Wl hx hy λh' a1 a2 a3 a4 a5 a6 hk=>hQ h' #[`u #[_,`q,_,a1,a5,D0 (B6 hz),D0 (B6 e1),D0 (B6 e2),D0 hS],hk _ _ D.TIz D.TITO D.TIi1 D.TIi2 `zU,a3,a4,
   st.hl1.at λo e=>hk _ o D.l1z D.l1TO D.l1i1 D.l1i2 e,st.hl2.at λo e=>hk _ o D.l2z D.l2TO `aiB D.l2i2 e] a5 hk
 ·done;refine Nj0 D hz ha `zU st.h1 st.h2 `Wk `Wl hx hy λh' a1 a3 a4 a5 a6 hk=>hQ h' #[`u #[a,`d,oa,a1,hk _ _ n1 n2 n3 ha,n1,n2,n3,n4],hk _ _ D.TIz D.TIi1 D.TIi2 `zU,a3,a4,
   st.hl1.at λo e=>hk _ o D.l1z D.l1i1 D.l1i2 e,st.hl2.at λo e=>hk _ o D.l2z `aiB D.l2i2 e] a5 `a2!
def wc1{Q:`tI}(hh:`fq)(D:`nL)(st:`a28)(hend:`a2?)
  (hQ:∀h',`a29->`a21):`Wg:=by
 skip;apply `a2'
 ·done;exact wpAny_pyNext_zip_end hh D hz `zU hp st.h1 st.h2 `Wk `Wl hend hQ
 ·done;exact Yd0 hh D hz ha `zU st.h1 st.h2 `Wk `Wl hend λh' hk=>hQ h' `a2!
omit z
section
variable{w:`T}{A:`aq}{s:`v}{R:`nw}{TI TO i2 S lo:`f}{xs:`aO}{h₁:`aa}
def xg1(hh:`fq)(D:`nL)(L:`a26)(hlo:`aqj)(hn:`Wm)(res:`A)
  (hR:∀h' tk acc c as,(∀b o,b<lo->`T0->`mz)->`fQ S=`a3a->`aqk->ZG xs ys S h' as ->
   acc.toList=`sJ->`o4 res `jt):
  ∀(k i:Nat) (h:`aa) (tk c:Nat) (acc:`aO) (as:`aw),`CP - i=k->i<=`CP->`a25->(∀b o,b<lo->`T0->`mW) ->
   `mk S=`a3a->acc.toList=`sJ->`h!=i->`a23 ->
   `F9 (`cW `a3b #[[`ag S,`uX,res],[]]) `aql:=by
 have b3:=hlo.1;have b2:lo<S:=A2 hlo.1 L.z;have lk:`a3c (b<lo):=λh h' hk b o hb e=>
  hk b o (`Wn hlo.1) (`Wn hlo.2.1) (`Wn hlo.2.2.1) (`Wn hlo.2.2.2) e
 have Y:`a3c (S<=b):=λh h' hk b o hb e=>
  hk b o (`GI L.z) (`GI L.TO) (`GI L.i1) (`GI L.i2) e
 intro k
 induction k with
 | zero=>
  apply `a3d;have b0:`a2?:=by
   rcases `amc `B3 `Ly with q|q
   ·exact `n (Ao1 `l)
   ·exact `u (Ao1 `l)
  refine `a3e;rw[`oR A50 _];show `a3f;refine A1 (wc1 (s:=`aql) (A:=`fD) hh D a3 b0 λh' he=>?_);refine A5 (hR h' tk acc c as (λb o h1 e=>`a3g he) (Y h h' he S _ `bq hS) `l #[hG.rise,`Wo,`a3h] M);let#[x,y,e1,e2,e3]:=hG.pairs j a hj;exact#[x,y,e1,e2,Y h h' he a _ (L8 (`Wo a `aqm)) e3]
 | succ k ih=>
  apply `a3d;have a2:i<`CP:=`U
  have a5:i<`B3:=C7 a2 (Nat.min_le_left ..);have a6:i<`Ly:=C7 a2 (D60 ..);have a7:acc.size=i:=by rw[← `yv,M,`x,O]
  have a1:S<`hl:=B6 hS;refine `a3e;rw[`oR A50 _];show `a3f;refine A1 (v21 (s:=`aql) D a3 a1 (m3 a5) (m3 a6) λh' b1 ht Z=>?_);dsimp only at ht Z ⊢;have a8:=Y h h' Z S _ `bq hS;have up:∀b o,b≠S->`mz->`Ib (h'.update S (`s0 `a3i)):=`a1X
  show `jA (`V5 S `a3i>>=_) _;refine `lQ;refine l8 a8 rfl (A5 #[L5 A50 _,ih `dn _ tk _ (`a3j) `a3k `l a2 (b1.keep L up)
   (λb o h1 e=>up b o (B9 (F7 h1 b2)) (`a3g Z)) (i3 _ a8 rfl) (by rw[Array.toList_push,M,`au];rfl) (`eO `S O) #[?_,?_,?_]]) (`d1 a7) (by show (`a3j).size<=`R+1;rw[Array.size_push,a7];lia)
  ·refine List.pairwise_append.mpr #[hG.rise,List.pairwise_singleton _ _,λa ha b hb=>?_]
   rw[`QH];exact hG.there ha
  ·intro a ha
   rcases `c7 ha with ha|ha
   ·exact `Wo a ha
   ·rw[`eb ha];exact a1
  ·intro j b hj
   rcases Nat.lt_trichotomy j `h! with h1|h1|h1
   ·rw[`h' h1] at hj
    let#[x',y',e1,e2,e3]:=hG.pairs j b hj;have hb:=`Wo b `aqm;exact#[x',y',e1,e2,up b _ (D0 hb) (Y h h' Z b _ (L8 hb) e3)]
   ·subst h1
    have hb:`hl=b:=`y!
    subst hb;exact#[_,_,`k O (m3 a5),`k O (m3 a6),up _ _ (D0 a1) ht]
   ·have a4:`a3k[j]?=`g:=`MD (`aqn)
    rw[a4] at hj;cases hj
omit z
def Ou0:`pn `Ih "__len__"=`sh:=by apply `p_;kernel_rfl
def Rr0:`pn `Ih `afQ=`sh:=by apply `p_;kernel_rfl
section
variable{w:`T}{A:`aq}{s:`v}{TI TO i2 lo:`f}{xs:`aO}
def Ac0(xs ys:`aO)(lo:`f)(s:`v)(h':`aa)(as:`aw):Prop:=
 (∀b o,b<lo->`xm)/\`aqk/\ZG xs ys `L h' as
def Ro0{Q:`am->`fz}(hh:`fq)(D:`nL)(hlo:`aqj)
  (st:`a3l) (hn:`Wm) (L:`a3m)
  (hT:`Wh) (hI:`a3n)
  (hQ:∀h' tk as,`a3o->`L<`c!->Q (`sJ) `jt):`dH (collect `mR):=by
 have O:`L≠z:=D0 L.z;let#[f0,hI]:=hI;delta collect;refine A1 (`a1p (E5 F.entry_proto_collect ?_));rw[`oR F.plain_proto_collect _];show `jA (`am'>>=λl=>again (`cW "list.__iadd__" #[[l,`uX],[]])) s;refine A1 (P7 ?_);refine A5 #[L5 `a3p _,E5 F.entry_list_iadd ?_];rw[`oR `a3p _];have M:(`af1).get? `L=`c `Dc:=`e7;have Z:=B8 `Dc hI;have J:`EV `a3q `mR `oQ:= #[_,Z,rfl];show `jA (`afR `f2 `mR `f2) _;apply `a1Q;apply `gN L0 J;have h1:`V4 `f2 `mR=`q:=by simp[`V4,O]
 have h2:(`a3r==`apV)=`q:=`a5
 have h3:(`a3r==`a1R)=`q:=`a5
 simp only[h1,h2,h3,`TE,`qj,`mw];refine A1 (wpAny_pyIter_zip (s:=`a3q) Z ?_);refine `CO;apply `a1S;apply `jQ G0 J Ou0;show `jA (`a1T z) _;apply `jQ G0 J Rr0;refine `eg;show `aP _ `fD (rule "list.extend.makes-room">>=λ_=>Builtin.List.listTouch `f2>>=λ_=>
  again (`cW `a3b #[[`gW,`uX,`gW],[]])) _ _ _
 refine A1 (S4 ?_);refine `lQ;show `jA (`V5 `L (`af0 `a8)>>=λ_=>`V5 `L `aHc) _;apply `jQ l8 M rfl;have a1:=i3 `a3s M rfl;refine l8 a1 rfl ?_;have a3:=i3 `a3t a1 rfl;have oth:∀b o,b≠`L->`gv ->
   `Ib (((`af1).update `L `a3s).update `L `a3t):=
  `kB (`afS (`afS `Hb))
 refine A5 #[L5 A50 _,xg1 (s:=s) (lo:=lo) (h₁:=`aY) hh D L hlo hn _ (λh' tk a4 c as hk Y hl hG a2=>?_) _ 0 _ `b? _ ⟨⟩ [] rfl `s2
  ((st _ O (D0 L.i1) (D0 L.i2)).keep L oth) (`kB (oth b o `SL e)) a3 rfl rfl #[`a3u,(λ_ ha=>nomatch ha),(λj a hj=>by simp at hj)]]
 show `aP _ A (load `L>>=_) _ _ _;apply `gN `aP' Y;refine `eg;have:=hQ h' tk as #[hk,hl,hG] (B6 Y);rw[← a2] at this;exact `w
omit z
section
variable{w:`T}{A:`aq}{s:`v}{TI TO i2 lo:`f}{xs:`aO}
def ee0{Q₁:`aK}(hh:`fq)(D:`nL)(hlo:`aqj)
  (st:`a3l) (hn:`Wm) (L:`a3m)
  (hT:`Wh) (hI:`a3n)
  (h:∀h' tk as,`a3o->`L<`c!->Q₁ (`ag `c!) (`fC (`xu `a3v) tk)):
  `mH `dZ A (`wZ (`cW `aqo) `aqp) (wants Q₁ E) s:=by
 refine `a1j ?_;show `jA (do checkBuiltinCall `aqo `aqp;again (`cW `aqo `aqp)) s;refine A1 (wpAny_of_eq (F.newCall_tuple_1 _) (A5 #[L5 `a3w _,E5 F.entry_tuple_new ?_]));rw[`oR `a3w _];have Y:=sub_tuple_self;have O:=init_tuple_lookup;have Z:=madeHere_tuple;have M:A.in1.handled=`g:=`VV
 wp_walk using L0 hT,Ro0 (lo:=lo) M D hlo st hn L hT hI
 intro h' tk as hz J;show `b6 (`aNm `aHd>>=λv=>ret v) _;delta Builtin.Tuple.tupleExact;refine A1 (P7 ?_ (by show (`sJ).toArray.size<=`R;rw[`cm,`x,`VT];exact hn));exact A5 (h h' tk as hz J)
def L20{Q:`aK}(hh:`fq)(hl1:`If)(hl2:`Ig)(hn:`Wm)
  (h:∀(h':`aa) (tk:Nat) (as:`aw) (t:`f),(∀b o,`xm)->`aqk->(∀a∈as,`Sq/\a<t)->`t4->`L<=t ->
   (`a22 h')->`fQ t=`c `a3v->Q `pm `jt):
  `a1Z (`f1 `Ih [`ag l1,`ag l2]) `s7:=by
 have a1:l1<`L:=`a3x hl1
 have a2:l2<`L:=`a3x hl2
 refine call_zip_2 hl1 hl2 λh1 hz hTI a4 O Z a3 hk=>?_
 have M:h1.IsList l1 xs:=hl1.at `a3y
 have J:h1.IsList l2 ys:=hl2.at `a3y
 have H:∀k,k<5->`L+k<`s1:=λk hk=>`k a3 (Nat.add_lt_add_left hk _)
 refine A20 (Q₁:=λobj s₁=>s₁.TypeIs obj `dg/\Q obj `gF) F.called_tuple (F.typeCall_tuple_1 _) F.entry_object_init
  (ee0 (lo:=`L) (xs:=xs) (ys:=ys) (`VV) (zipApart_new a1 a2) #[i4 _ 4,i4 _ 3,`fA,i4 _ 1] (λS n1 n2 n3=>#[`n #[rfl,hz,_,_,a4],hTI,O,Z,M,J]) hn
   #[H 4 `E,H 2 `E,H 3 `E,H 0 `E,H 1 `E,F7 a1 `Wp,F7 a2 `Wp]
   `aqi `a3z λh' tk as ze Y=>#[`aqq,?_]) λobj s₁ h₁=>?_
 ·let#[k1,k2,g]:=ze
  refine h (`xu _) tk as `c! (`hZ (B8 _ (k1 b o `mL (hk b o e)))) k2 (λa ha=>#[?_,g.there ha]) (g.rise.imp λh=>B9 h) ?_ (`a3h) `Ii
  ·exact L8 (F7 `Wp (g.above a ha))
  ·exact L8 (F7 `Wp Y)
  ·let#[x,y,e1,e2,e3]:=`a24
   exact#[x,y,e1,e2,B8 _ e3]
 ·exact#[h₁.1,F.args_object_init_2 obj _,object_init_meets F.called_tuple.init.lookup F.called_tuple.made `E `hO w `fD _ `gF #[h₁.1,rfl,h₁.2]]
omit z
omit ZipL
open Y
def no0(H:Hp):`zV->Hp
 | []=>H
 | p::l=>upd `ER p.1 p.2
def b30{b:`f}:∀{l:`zV},(∀p∈l,p.1≠b)->`aqr=H b:=by
 intro z;induction z with
 | nil=>intro _;exact rfl
 | cons p l ih=>
  intro h
  show `a3A=_;rw[zi0 (C1 (h p A8)),`aqs]
def en0{b:`f}{u:HO}:∀{l:`zV},`aqr=`bS->(∃p∈l,p.1=b/\p.2=u)∨`Gm:=by
 intro z;induction z with
 | nil=>intro e;exact `u e
 | cons p l ih=>
  intro e
  by_cases h:b=p.1
  ·subst h
   have e':upd `ER p.1 p.2 p.1=`bS:=e;rw[yb0] at e';exact `n #[p,A8,rfl,B4 e']
  ·have e':`a3A=`bS:=e
   rw[zi0 h] at e';rcases ih e' with⟨q,hq,x⟩|x
   ·exact `n #[q,`D_,x]
   ·exact `p1
def bk0:∀{l:`zV},(`aH `PR).Nodup->∀p∈l,no0 H l p.1=`w2:=by
 intro z;induction z with
 | nil=>intro _ p h;exact nomatch h
 | cons q l ih=>
  intro n p h
  rw[`J,`zW] at n;show upd `ER q.1 q.2 p.1=_;apply `aqt
  ·rw[yb0]
  ·rw[zi0 (λz=>n.1 (`bk z (Y1 h))),ih n.2 p h]
section
variable{s:`v}
def Inv.laidL{l:`zV}{t':Nat}(I:`B)(k:`akA)
  (hl:∀p∈l,`L<=p.1/\∃xs,p.2=`fI/\`Gw H p.1 `q'):`aW `ER `sg:=by
 have J:∀b,`PL->`aqr=H b:=λb hb=>b30 λp hp z=>by
  have:=(hl p hp).1;apply `ay z;exact E6 _ (C7 hb `w)
 refine I.un #[`aOf,`aOg,λb u q n _=>`k (J b (B6 q)) n,`aOh,`yr `a3B,
  λb u xs q=>`a3B,`aka `aHe] `akz
 skip;rcases en0 e with⟨p,hp,rfl,rfl⟩|e'
 ·let#[_,xs,ex,ok]:=hl p hp
  done;rw[ex];exact ok
 ·done;exact(`bT b u e').stay `aN! (λc q=>`aqu) (λc xs q=>`aqu) λc ob u' q=>`aqu
omit z
def Uz0(X:Cx)(f1 f2:`A)(r:`i0):Prop:=
 ∀(pins:`aN) (s:`v) (σ:St) (H:Hp) (xs:`P) (us:`am) (Q:VK),`B->`eq->`SY ->
  `dt (`f1 f2 us) (λv s1=>`p! (`f1 f1 [v]) `f7 s1)
section
variable{p:Pos}{x1:Str}{T1 T2:`da}{t:TA}
def Mb0(hc:`a3C)(hg1:Gl X x1)(hg2:Gl X x2)(hm1:`a3D)(hm2:`a3E)(hv1:`a3F)(hv2:`a3G)(ha:`yT)
  (hn1:`a3H) (hd1:`a3I) (hn2:`a3J) (hd2:`a3K)
  (e1:`a3L) (h1:`ga)
  (he:`d9) (hpl:`a3M):
  PE X `a3N (tCB r t):=by
 apply `a';refine F0 (q40 I hg1 hm1 hv1 ?_ hn1 hd1);refine `a19;rw[e1];show `b6 (`VY `aHh) s;refine F3 ?_;refine F0 (q40 I hg2 hm2 hv2 ?_ hn2 hd2);refine L9 (thn (ha pos2 `z s σ H _ I h) λus s1 hq133=>?_) he hpl;apply `SV hq133;exact thn (`aLI) `a1'
omit z
omit L2
open X
section
variable{p:Pos}{x1:Str}{T1 T2:`da}{f:`r}
def Y6(hc:`a3C)(hf:`anV)(hm1:`a3D)(hm2:`a3E)(hv1:`a3F)(hv2:`a3G)(ha:`jY)(hg1:`hf x1)(hg2:`hf x2)
  (hn1:`a3H) (hd1:`a3I) (hn2:`a3J) (hd2:`a3K)
  (e1:`a3L) (h1:`ga)
  (he:`d9) (hpl:`a3M):
  PD X `a3N `LO:=(
 `ft (Mb0 hc hg1 hg2 hm1 hm2 hv1 hv2 `bK hn1 hd1 hn2 hd2 e1 h1 he hpl).imp `a3O)
omit z
def tx0:`aw->`Ij->`zV
 | a::as,p::ps=>(a,`afN)::`af3
 | _,_=>[]
def Xu0:∀{as:`aw} {ps:`Ij},`h!=`V->`a3P=as:=by
 intro z;induction z with
 | nil=>
  intro z1;cases z1 with
  | nil=>intro _;exact rfl
  | cons _ _=>intro h;simp at h
 | cons a as ih=>
  intro z1;cases z1 with
  | nil=>intro h;simp at h
  | cons p ps=>
   intro h
   show a::`a3P=_;rw[`ao']
def Wl0:∀{as:`aw} {ps:`Ij} {q:`aaZ},q∈`af3->∃(j:Nat) (p:V×V),`ajE=`c q.1/\`Ik/\q.2=`afN:=by
 intro z;induction z with
 | nil=>intro _ q h;simp[tx0] at h
 | cons a as ih=>
  intro z1;cases z1 with
  | nil=>intro q h;simp[tx0] at h
  | cons p ps=>
   intro q h
   apply `aqt
   ·exact#[0,p,rfl,rfl,rfl]
   ·let#[j,p',h1,h2,h3]:=ih h
    exact#[j+1,p',`aio,`aip,h3]
def Gm0(K:`C):`i0:=λvs H Q=>∃q1 q2 xs ys,vs=[`ag q1,`ag q2]/\SqL K H q1 xs/\SqL K H q2 ys /\
 ∀(t:`f) (as:`aw),`aqv->`t4->t∉as->`aqw->(∀a∈as,`Sl)->Q `pm (no0 H ((t,`t `Mg)::`a3Q))
def W10:∀as:`aw,`b_ `Mg (`sJ):=by
 intro z;induction z with
 | nil=>exact `ah
 | cons a as ih=>exact `aE rfl (ih)
def m5(hc:`fv):Uz0 X `s7 `Ih (Gm0 X.K):=by
 apply `p8;skip;let#[q1,q2,xs,ys,rfl,h1,h2,k]:=h;cases r with
 | cons r1 r=>
  cases r with
  | cons r2 r=>
   cases r;obtain rfl:=r1;obtain rfl:=r2;let#[us1,v1,p1,z1]:=`hW h1;let#[us2,v2,p2,z2]:=`hW h2;have l1:=v1.length;have l2:=v2.length;done;refine ZipL.L20 `lN `EB `aoy (`a_P) λh' tk as t hk hl ha O ht hp gt=>?_
   rw[`cm,`cm] at hl;have M:`aqv:=`hg `ru hl
   refine#[`KU,_,I.laidL (t':=tk) hk λp J=>?_,rfl,k t as M O (λz=>E6 _ (ha t z).2) (`oE ht) λa h=>`oE (ha a h).1];rcases `bF J with rfl|J
   ·refine#[ht,_,rfl,?_,`sJ,W10 as,(`acK gt)]
    rw[`x,hl];lia
   ·skip;let#[j,#[x,y],e1,e2,e3]:=Wl0 J
    let#[u,w,f1,f2,f3]:=hp j p.1 e1;have hz:=As1.mp e2;let#[u',g1,g2]:=v1.get hz.1;let#[w',g3,g4]:=v2.get hz.2;have eu:u'=u:=by
     have:us1.toArray[j]?=`c u':=`a7 g1
     apply `ay f1;exact`a3R
    have ew:w'=w:=by
     have:us2.toArray[j]?=`c w':=`a7 g3
     apply `ay f2;exact`a3R
    subst eu;subst ew;done;exact#[(ha p.1 (C8 e1)).1,_,e3,`Il,[u',w'],`aE g2 (`aE g4 `ah),(`acK f3)]
theorem W20{B:BS}:∀{ds es:`i} {xs ys:`P} {as:`aw},`bi->`aWd->`aqv->(∀p∈`a3Q,`OA=`w2/\¬B p.1) ->
  `nE (`a1J `a3S) `Mg
 | [],es,xs,ys,as,r1,r2,hl,h=>by
  rw[ze0] at r1;subst r1;simp at hl;subst hl;simp[ze0]
 | `b1,[],xs,ys,as,r1,r2,hl,h=>by
  rw[ze0] at r2;subst r2;simp at hl;subst hl;simp[ze0]
 | `b1,`Bg,xs,ys,as,r1,r2,hl,h=>by
  skip;rw[O8] at r1 r2;let#[x,xs',rfl,a1,a2]:=r1;let#[y,J,rfl,b1,b2]:=r2;cases as with
  | nil=>simp at hl
  | cons a as=>
   have h0:=h (a,`PU) A8;done;rw[`d!,`J,`J,O8];refine`hD ?_ (W20 a2 b2 `rS `a3T);rw[wo0];refine#[a,`Mh,rfl,#[h0.2,h0.1],?_];rw[O8];refine`hD a1 ?_;rw[O8];exact`hD b1 `jg
def Rs0:∀{as:`aw} {zs:`Ij} {p:`aaZ},p∈tx0 as zs->∃xs,p.2=`fI:=by
 intro z;induction z with
 | nil=>intro _ _ h;simp[tx0] at h
 | cons a as ih=>
  intro z1;cases z1 with
  | nil=>intro _ h;simp[tx0] at h
  | cons z zs=>
   intro p h
   delta tx0 at h;apply `aqt
   ·exact`al
   ·exact ih h
def Fw0{t b:`f}{o:HO}{as:`aw}{zs:`Ij}{ob:Obj}(ho:`aWE)(h:no0 H ((t,o)::tx0 as zs) b=`c (`afl)):H b=`c (`afl):=by
 skip;rcases en0 h with⟨p,hp,_,e⟩|h
 ·rcases `bF hp with rfl|hp
  ·done;exact `K e (ho _ _)
  ·let#[ys,e']:=Rs0 hp
   rw[e] at e';cases e'
 ·done;exact h
open T in
def X5:FnR K (Gm0 K) l90:=by
 intro H B xs ds d Q bad r h k;delta l90 at h;apply `aqx
 rename_i ds es;rw[O8] at r;let#[x,r',rfl,r1,r]:=r;rw[O8] at r;let#[y,r',rfl,r2,r]:=r;rw[ze0] at r;subst r;rw[w80] at r1 r2;apply `a3U;let#[q2,ws,rfl,s2,t2]:=r2;refine#[q1,q2,us,ws,rfl,s1.to,s2.to,λt as hl M ht ft fa=>?_];have J:(`a3V)=t::as:=by rw[`J,Xu0 hl]
 have hN:(`a3V).Nodup:=`k J (`acH #[ht,M])
 have fr:∀p∈(`PT),`aFm:=λp hp=>by
  have:p.1∈t::as:=`bk J (Y1 hp)
  rcases `bF `w with e|e
  ·rw[e];exact ft
  ·exact fa _ e
 have sm:`cP H (no0 H (`PT)):=#[λb u e=>by
  rw[b30 λp hp z=>by rw[← z,fr p hp] at e;cases e];exact e,λb ob xs e=>Fw0 (by intro _ _ z;cases z) e]
 have nb:∀p∈(`PT),¬B p.1:=λp hp z=>bad _ z (fr p hp)
 refine k _ _ sm ?_;rw[wo0];refine#[t,`aBk,rfl,#[nb _ A8,bk0 hN _ A8],W20 (t1.same sm) (t2.same sm) hl λp hp=>#[bk0 hN p `PS,nb p `PS]]
omit DL
open Y
section
variable{s:`v}
def Inv.turnedL(I:`B)(hf:∀b∈fp,`O!)(k:`a3W):`aku:=by
 have J:∀b u,`Gm->b∉fp:=λb u e z=>by rw[(hf b z).1] at e;cases e
 refine `Sx (g':=`sP) (d':=`PM) (ch:=fp) (λb hb=>#[(`si).2.2.2.1,(`si).2.1,(`si).2.2.2.2.1,(`si).2.2.2.2.2]) (`Sy `aqy) (`Sy #[`akw,`aqy]) `aOP
  (λb o hc e=>#[o,`aqy]) (`akx) (λ_ _ _ e=>e) `aOQ `aky (`akz) `k4
 ·let#[o,es,ep,ho,r]:=hm
  exact#[o,es,ep,k _ o (λz=>(hf _ z).2.1 rfl) ho,r]
 ·apply `aOR
  rcases hc with z|z
  ·rw[z];exact J b u e
  ·exact J c _ z
def Inv.turnedNew{t':Nat}{x y:V}{w:`A}(I:`B)(hf:∀b∈fp,`O!)(rx:`ip)(ry:`VN)(hlt:∀b∈fp,`PL)
  (hob:`fQ `L=`c `aHi) (k:`a3W):
  `aW `a3X `sg/\∀b∈fp,`a3Y:=by
 have ne:∀b∈fp,b≠`L:=λb hb=>B9 (hlt b hb)
 have fr:∀b∈fp,`a3Y:=λb hb=>`p5 (zi0 (ne b hb)) (`si).1
 have I1:`aW `a3X `a3Z:=
  `oM (`xt) `bq #[`Il,[u,w],`aE rx (`aE ry `ah),`ajP]
 refine#[Inv.turnedL (s:=`a3Z) (t':=t') (fp:=fp) I1 (λb hb=>#[fr b hb,(`si).2]) `apU,fr];rcases Heap.get?_push_cases e with⟨rfl,rfl⟩|e
 ·exact hob
 ·exact k b o hb e
omit z
def Ite(K:`C)(a:`f):It:=
 #[`aP!,
   λi H v H'=>∃t x,v=`KU/\`aqw/\H'=upd H t (`t [`tF,x])/\`aP?,
   `aQa]
theorem Lu0{P:`av}{w:`T}{x1}{e a:`f}(hei:e≠it):Turn P w K (`lB elts x1 pos) (Ite K a) [e,it] e
  (λi h=>(∃old,IsEnum h e it i old)/\`aQb) where
 mem:=`a_
 obj:=λi h st c hc=>by
  skip;let#[#[old,he],#[o1,e1,c1,d1]]:=st;apply `a3_;rcases hc with rfl|rfl
  ·done;exact#[_,he,λv z=>nomatch z]
  ·done;exact#[_,e1,λv z=>by rw[d1] at z;cases z]
 keep:=λi h h' st k=>by
  apply `aqz;exact#[#[old,k e `az _ he],h1.at λo x=>k it `az o x]
 item:=by
  apply `lO;skip;apply `lP;apply `aqz;apply `alm;apply `a30;apply `aln;done;refine wpAny_pyNext_enum_item he h1 `EB (x:=u) `alo hei λh' a1 a2 a3 a4 hk=>?_
  refine`qa (wpAny_letOwnedTupleGo_enum (s:=`TX) a1 λJ b1 hs=>?_);have le:=B6 he;let#[o1,e1,_]:=id h1;have l1:=B6 e1;let#[I1,fr]:=I.turnedNew (h':=J) (t':=`BJ) (fp:=[e,it]) (x:=`tF) (u:=`h i `b?) hf `al ru (λc hc=>by
   apply `a3_;rcases hc with rfl|rfl<;>assumption) (`yu _ (D0 le) a3) (λc o hc x=>by
   apply `a31;exact`yu _ hc.1 (hk c o hc.1 hc.2 x))
  exact#[`gW,_,I1,rfl,#[_,x,rfl,`L',rfl,`aQh],#[#[_,`a7 b1],a2.at λo y=>`yu it hei.symm y],fr]
 done:=by
  apply `lO;skip;apply `lP;apply `aqz;let#[xs,hq,M]:=hg;apply `a30;have l1:=`p9;done;refine wpAny_pyNext_enum_end `lN he h1 `EB `m3 λh' hk=>#[rfl,`aE9 (t':=`b?) (fp:=[e,it]) hf λc o hc x=>?_]
  apply `a31;exact hk c o hc.2 x
 self:=λ_ _ _ _ _ st h=>by
  let#[#[old,he],_]:=st;exact `a32 he h
def M00:`Wq `pw `pw:=`aU
def xx1(K:`C)(ta:TA):TI:=`GL ta λvs H1=>∃a,vs=`gH/\`aQq/\R (Ite K a) H1
def Da0{a:`G}{ta:TA}{p pos:Pos}(hg:`a33)(hm:`a34)(ha:`aQy)(hs:`SU):
  PI X `a35 `a36 (xx1 X.K ta):=by
 apply `yz;refine `aQA M00 λus s1 hq134=>?_;skip;apply `SV hq134;let#[qa,e,#[xs,h1],q]:=q1;subst e;cases r1 with
 | cons r rr=>
  cases rr;obtain rfl:=r;let#[us1,v1,p1,z1]:=`acT h1;done;refine call_enumerate_list `EB λh' hz J M hk=>?_
  refine `a32 (s:=(`hR s1 h')) hz ?_;refine#[_,_,_,_,H1,rfl,`EX (t':=`ah3) hk,Lu0 (D0 (f8 _)),#[`a3z,J],`ju,q];apply `a10;rcases hb with rfl|rfl
  ·exact `aJ0 (i4 _ 1) (`abb (i4 _ 1))
  ·apply `GK
omit L2
open X
section
variable{a:`G}{p:Pos}
def Dt0{B:BS}{t:`f}{x y:V}{d e:D}(hn:¬B t)(ht:H t=`c (`PU))(r1:`Et)(r2:Rp K H B e y):Rp K H B (`t [d,e]) `pm:=by
 rw[wo0];refine#[t,`Mh,rfl,#[hn,ht],?_];rw[O8];refine`hD r1 ?_;rw[O8];exact`hD r2 `jg
open T in
def U7(hm:`a34)(ha:`aXd)(hg:`H (`a33) Aa)(hs:`SU):
  PID X `a35 `a36 (ky0 gA):=(.mk λB δ=>`zh (Da0 hg hm `bK hs) fun σ H R hq135=>by
 apply `zi hq135
 delta ky0 at e1;cases e2:`dk with
 | none=>apply `as;cases e1
 | some ds=>
  apply `as;apply `fu;delta Kp0 at e1;split at e1<;>try cases e1
  rename_i ds;apply `an!;rw[O8] at r;let#[x,t,rfl,r1,r]:=r;rw[ze0] at r;subst r;apply `nH;apply `a3U;have J:(`o (qv0 ds))=`o8:=by delta qv0;simp[t1.length]
  refine#[q1,rfl,#[us,s1.to],k _ H' s' #[`Ne,λi H2 v H3 g2 y hi=>?_,`Ne]]
  ·rw[J] at hi
   exact#[us,us[i],`aqA,by simp[hi]]
  ·let#[t,x,rfl,ht,rfl,hx]:=y
   rw[J,t1.length] at hi;let#[x',e4,rx]:=t1.get (i:=i) (C9 hi);have ex:=hx us `aqA;rw[e4] at ex;cases ex;refine#[yw0 ht,`t [`tF,ds[i]],by delta qv0;simp[hi],λB' gB hb=>?_];exact Dt0 (λz=>hb t z ht) yb0 `Ce (rx.mono gB)
  ·rw[J] at hi
   exact#[us,`aqA,hi])
omit z
section
variable{B:BS}
mutual
theorem Qu0(hB:`a37):∀(d:D) (v:V),`ap_->Rp K H B' d v->`dM
 | `y,v,_,r=>`Im wh0
 | `cL,v,_,r=>`Im xz0
 | `cZ,v,_,r=>`Im ys0
 | `co,v,_,r=>`Im w40
 | `eo,v,h,_=>by delta tree at h;cases h
 | `t9,v,h,_=>by delta tree at h;cases h
 | `zq,v,h,_=>by delta tree at h;cases h
 | `c5,v,h,r=>by
  delta tree at h;rw[wo0] at r ⊢;apply `an5;refine#[a,xs,rfl,?_,T10 hB ds xs h rs];let#[n,q]:=q;refine#[`lA,q];exact(hB a z).elim n λz=>z _ q
theorem T10(hB:`a37):∀(ds:`i) (vs:`P),`apZ=`d->Rps K H B' ds vs->`afo
 | [],vs,_,r=>`Im ze0
 | `b1,vs,h,r=>by
  delta trees at h;rw[`a?] at h;rw[O8] at r ⊢;apply `zj;exact#[x,t,rfl,Qu0 hB d x h.1 r1,T10 hB ds t h.2 r2]
end
omit z
def K8{g:GE}(h:`b7):PD X e (mu0 g):=(.mk λB δ pins s σ H Q I hq136=>by
 skip;let#[d,en,hq,k]:=hq136
 apply `Vv;delta mu0 at hq;cases e1:`wy with
 | none=>rw[e1] at hq;cases hq
 | some x=>
  rw[e1] at hq
  by_cases hf:tree x=`d
  ·apply `Vw `H6
   cases hq;done;refine `a_L (Qu0 (`ll) _ _ hf r);skip;rcases c2 a z with q|⟨i,d',h1,h2⟩
   ·done;exact `jn
   ·let#[o,h3,a',e4,_,ro]:=`NL en.all h1
    rw[h2] at h3;cases h3;cases e4;done;exact `u λys z=>(ro.live.same s').nt ys z
  ·apply `Vw `Vx
   cases hq)
section
variable{p:Pos}
def Eq0:`i0:=λvs H Q=>∃a kvs,vs=`gH/\`zw/\`aep `Cr
def Vv0:`er X `so Eq0:=by
 apply `p8;skip;let#[a,kvs,rfl,ha,k]:=h;cases r with
 | cons r rr=>
  cases rr;obtain rfl:=r;obtain⟨hz,hS,ws,rv,m⟩:`wT/\`o7/\∃vs,`pf/\s.heap.DictOf `H3 a vs:=`bT a _ ha;have hl:`rq=`Fk:=x4 rv;apply `UZ;done;refine kt_call_dict hS m (`bk hl hz) λh' hd hs=>?_
  apply `U_;refine#[`gW,_,`oM (a:=`L) (o:=`vs) (t':=`b?) (λb o q=>(`K7 b (B9 (B6 q))).trans (`vO)) `bq
   #[hz,`aoF,ws,rv,hd],rfl,k _ hf]
open T in
def Z2(hm:`a38)(hv:`aqB)(ha:`b7)(hg:`a39)
  (he:`d') (hpl:`ga):
  `H? `a3' h80:=(.mk λB δ=>(`aqC mo0 Vv0).imp fun σ H Q hq137=>by
 apply `bo hq137
 apply `zM;cases e1:`aA with
 | none=>rw[e1] at h;cases h
 | some x=>
  rw[e1] at h;apply `ub;apply `V0;cases x<;>try (simp only[h80] at h;cases h)
  apply `zQ;cases ks with
  | inr ks=>simp only[h80] at h;cases h
  | inl ks=>
  simp only[h80] at h;cases h;rw[pi0] at r1;let#[q,xs,rfl,nq,hq,hl,rr]:=r1;exact#[q,_,rfl,hq,λl J=>`aiD #[xs,yb0,hl,`afM (`D7 J)]])
omit z
omit DL
open Y
def Y5:MtR X "str.startswith" `a3!:=by
 apply `aYa;skip;let#[a,b,rfl,rfl,q]:=h;apply `cz;cases rs with
 | cons r rr=>
  cases rr;let#[u,rfl]:=r;done;exact SC.startswith (`lH `cL q)
omit L2
open X
section
variable{name:`F2}{id:`da}{r:`jS}{f:`zP}
def MfR(K:`C)(r:`jS)(f:`zP):Prop:=∀(H:Hp) (B:BS) (dx:D) (xs:`P) (ds:`i) (d:D) (Q:VK),`Ev->`bi->f dx ds=`aQ->(`Hq)->∃a,dx=`lo/\r (`lo) xs H Q
def S5(slot:Slot `jT `fe id)(hty:`amI)(hm:`amJ)(hf:MfR X.K r f)(hstr:∀d ds e,f d ds=`g3->`a3?)(ho:`aoC)(ha:`UX)(hbase:`amK)
  (hfew:`H ((`nI
  &&`aoD)=`d) Aa)
  (hline:`gO) (hs:`d') (hplain:`qv):
  PD X (`tA `amL [e]) (sq0 g gA f):=(.mk λB δ=>
 (`aYE slot hty hm).imp fun σ H Q hq138=>by
  skip;apply `bo hq138
  delta sq0 at h;cases e1:`aA with
  | none=>rw[e1] at h;cases h
  | some x=>
   cases e2:`dk with
   | none=>apply `ce;cases h
   | some ds=>
    apply `ce;apply `dQ;let#[a,rfl]:=hstr x ds d h;done;refine`aYF;rw[w40] at r1;subst r1;refine`aYG;let#[a',e',q]:=hf H2 B (`lo) vs ds d Q `UA r2 h λv H' s' r'=>k v H' (`Ll s') r'
    cases e';exact q)
def Ct0{B:BS}{y:`F2}(r:`q0 [`pQ]):xs=[`pQ]:=by
 rw[O8] at r;apply `zj;rw[ze0] at r2;rw[w40] at r1;rw[r1,r2]
def Y7:MfR K `a3! n70:=by
 intro H B dx xs ds d Q bad r h k;delta n70 at h;apply `aqx
 exact#[_,rfl,_,_,rfl,Ct0 r,`EC]
def Z4(d:D)(ds:`i)(e:D)(h:n70 d ds=`g3):`a3?:=by
 delta n70 at h;apply `aqx
 exact`al
def Y0{st:`a0}:PSD X st re0:=(.mk λH₀ B₀ δ pins s σ H D I hq139=>by let#[r,en,hq,k]:=hq139;delta re0 at hq;cases hq)
omit z
def iy0(ga gb gc:GE)(f f':`bA):GE:=`T6 λx=>`anb λy=>(f x y).bind λt=>(asB t).bind λk=>if k=`d then (gc δ).bind λz=>f' y z else `ql
section
variable{a c:`G}{ga gc:`cA}
def Lr0{r r':R2}{f f':`bA}(hf:Op2 K r f)(hf':Op2 K r' f'){B:BS}{δ:Ds}{σ:St}{Q:VK}(h:`ze tD `a4a):Ma0 r r' (`Ht ga) (`Ht gb) (`Ht gc) σ H Q:=by
 skip;apply `qr;delta iy0 at h;cases e1:`dO with
 | none=>rw[e1] at h;cases h
 | some x=>
  cases e2:`d4 with
  | none=>apply `ce;cases h
  | some y=>
   apply `ce;apply `dQ;cases e3:f x y with
   | none=>rw[e3] at h;cases h
   | some t=>
    rw[e3] at h;apply `dQ;cases e4:asB t with
    | none=>rw[e4] at h;cases h
    | some kb=>
     rw[e4] at h;apply `dQ;cases Us0 e4;done;apply `t6;refine hf H2 B v1 v2 x y _ _ `UA `NT r2 e3 `aqD
     rw[xz0] at r3;refine#[kb,r3,?_];cases kb with
     | false=>
      rw[`p'] at h ⊢;cases h;exact k _ H3 (`zL) `LG
     | true=>
      rw[`a4] at h ⊢;cases e5:gc δ with
      | none=>rw[e5] at h;cases h
      | some z=>
       rw[e5] at h;apply `dQ;refine#[z,`apO,e5,λv4 H4 s4 r4=>?_];exact hf' H4 B v2 v4 y z d _ ((`apO).same s4).bad ((r2.same s3).same s4) r4 h λv' H5 s5 r5=>k v' H5 (((`zL).trans s4).trans s5) r5
def S7{op op':`jN}{r r':R2}{f f':`bA}(ho:`yD)(hf:`Hu)(ho':`aQ')(hf':Op2 X.K r' f')(ha:`c0)(hb:`dP)(hc:PD X c gc)
  (hm:`aQ!):PD X `aQ? `a4a:=(
 `ft (Iy0 ho ho' `bK `fl `UD hm).imp fun σ H Q h=>Lr0 hf hf' h)
open Builtin Builtin.Str Builtin.Int in
def xh1{prog:`av}{w:`T}{A:`aq}{E:`aK}{s:`v}{x:Str}{n:Int}{t u:Tok}{Q:`aK}(hr:(`an (n < `amw)||`an (n ≥ 2 ^ 63))=`q)
  (hb:¬n<1->`a4b->¬((`sv:Int) > `VI/n)) (hl:¬n<1->`a4b->tooLong (`aY!)=`q)
  (h:(`D (n<1) (Made.str `aeV) (`D ((n==1||`sv==0)=`d) (Made.val `Sc) (Made.str `aoR))).post Q s):
  `dH (`ox .Mult (`h n u) `Sc):=(
 PySem.lm_binaryOp_repeat_right (T:= `jT) (U:= `jU) `E (λs'=>X0 s' n u) `a4c PySem.F.fills_int_mul PySem.noFill_str_mul Au1 PySem.lm_noRepeat_int PySem.repeat_str PySem.F.slot_int_index.lookup
  (`a4d Au1 (X0 s n u) PySem.F.entry_int_mul (PySem.F.args_int_mul_2 _ _) (PySem.AutoIntG3.int___mul___int_str_0 n u x t)
   #[rfl,g7 _ x t,`a4d PySem.F.slot_str_mul `a4c PySem.F.entry_str_mul (PySem.F.args_str_mul_2 _ _) (gives_str_mul x n t u hr hb hl) h]))
omit z
omit DL
open Y
section
variable{A:`aq}
def qp0:plainId `a4e=`d:=`aU
def g30:entryFor table `a4e=`c `aHn:=(entryFor_of_fast `iV)
omit z
def Ks0:`pn `xn `ET=`sh:=by apply `p_;kernel_rfl
def Ns0{prog:`av}{w:`T}{A:`aq}{E:`aK}{s:`v}{a:`f}{o:Obj}{xs:`aO}{k:Nat}{Q:`tI}
  (hx:`Gg) (hc:`rv=`h_) (hdat:`a4f) (hd:`yp) (hA:`fq)
  (h:`a4g):
  `a4h:=by
 skip;let#[c,dct,O,sl]:=o;simp only at hc hdat hd;subst hc hdat hd;apply `zB;have hT:∀M,`a4i `ci `eV:= `a4j
 have f1:=`a4k;have f3:=PySem.F.slot_list_getattribute.lookup;have f4:=PySem.F.slot_list_getattribute.bind `ci;have f5:=am_list_getattr_none;done;apply `a4l
 repeat (any_goals (first|assumption|exact hT _|((apply `a4m "list.__getattribute__");refine L4 PySem.F.slot_list_getattribute (hT _) am_entry_list_getattribute (PySem.F.args_list_getattribute_2 _ _) (meets_getattribute_miss_list a xs k sl `ET _ Ks0 `bf) `a4n)|wp_step))
 apply `a4o;apply `a4p;delta getattributeRaised
 apply `jK
 exact `a4q
omit L2
open X
def bh0(i:Nat)(g:GE):GS:=fun δ=>match `c6 with
 | `c (.sh (`y2))=>`ka λd=>match d with
  | `ki=>`ac (`gy i (.sh `a4r))
  | _=>`g
 | _=>`g
open T in
def J1(i:Nat)(hN:`fp)(h:`b7)(hi:`ez)(hx:`HB)
  (hf:`lL):PSD X (`SO (`SM) .Add e pos) (bh0 i g):=(.mk λH₀ B₀ δ pins s σ H D I hq140=>by
 apply `bC hq140
 delta bh0 at e1;apply `bl;split at e1
 ·rename_i a ha
  cases e2:`aA with
  | none=>apply `as;cases e1
  | some d=>
   apply `as;apply `fu;cases d<;>simp only at e1<;>try cases e1
   rename_i b;let#[v,hv,rv]:=env.get ha;rw[ys0] at rv;subst rv;refine yt1 hN hi hx `dq yl1 hf `z s σ H D I #[_,hv,`ki,env,e2,λv2 H1 s1 r1=>?_];rw[ys0] at r1;subst r1;refine#[a,b,rfl,rfl,?_];exact k _ H1 (en.wr b1 b2 s1 Vx0 ((`nh).set i `Ce))
 ·cases e1)
def flats(ds:`i):`aj:=`aG8
def g00(g:GE):GE:=fun δ=>`aoH λd=>match d with
 | `eH=>`D `zX `qn `g
 | _=>`g
def Q10{g:GE}{δ:Ds}(h:`wy=`qn)(hf:`zX):g00 g δ=`qn:=by
 delta g00;rw[h,`s];simp only[];rw[`H6]
section
variable{g:GE}
def qk0{B:BS}:`ln (`zX->`anu):=by
 intro z;induction z with
 | nil=>intro xs _ r;rw[ze0] at r ⊢;exact r
 | cons d ds ih=>
  intro xs h r
  rw[O8] at r ⊢;let#[x,r',e1,r1,r2]:=r;delta flats at h;rw[`qf,`a?] at h;exact#[x,r',e1,lw0 h.1 r1,ih h.2 r2]
def Y9(h:`zk):`HC w60 (qu0 g):=(.mk λH₀ B₀ δ pins s σ H D I #[r,en,hq,k]=>
 `a_M V2)
def U9(h:`zk):PDF X e (g00 g):=(.mk λB δ pins s σ H Q I hq141=>by
 skip;let#[d,en,hq,k]:=hq141
 apply `Vv;delta g00 at hq;let#[x,e1,hq]:=bdS hq;cases x with
  | lst ds=>
   simp only[] at hq
   by_cases hf:`zX
   ·rw[`H6] at hq
    cases hq;done;exact h B' `Lb `z s σ H Q I #[_,J,e1,λp H' hp s' r=>k p H' hp s' (by
     let#[xs,e5,r5]:=r;exact#[xs,e5,qk0 hf r5])]
   ·rw[`Vx] at hq;cases hq
  | non=>cases hq
  | bl _=>cases hq
  | int _=>cases hq
  | str _=>cases hq
  | tup _=>cases hq
  | dct _ _=>cases hq
  | fn _ _=>cases hq)
omit z
def mz0:`r
 | [`cG]=>match `Wr with
  | [c]=>`c (`h (c:Nat))
  | _=>`g
 | _=>`g
open T in
def zv0:FnR K `aRf mz0:=by
 apply `zs;delta mz0 at h;split at h
 ·rename_i x
  split at h
  ·rename_i c hc
   cases h;apply `lY;rw[w40] at r1;subst r1;let#[#[l]]:=x;have:l=[c]:=hc;subst this;exact`nM _ (`ha (`ax ys0))
  ·cases h
 ·cases h
omit DL
open Y
theorem Xw0:`aX! (∀(m:Nat) (y:Str),`a4s->∃t,us[m]?=`aWN)
 | [],_,`ah,m,y,h=>by cases h
 | y'::ys,_,`tJ,0,y,h=>by
  cases h;let#[tk,rfl]:=r;exact#[tk,rfl]
 | y'::ys,_,`tJ,m+1,y,h=>by
  let#[tk,e]:=Xw0 t m y `fX;exact#[tk,`Uk]
def Xn0:∀ys:`e,(`aaT).all ol0=`d:=by
 intro z;induction z with
 | nil=>exact rfl
 | cons y ys ih=>rw[`J,`qf,ih];rfl
omit L2
namespace PySem.SeqAt
open PySem.AutoSeq1 (wpAny_loadPart')
open MeetsSeq MeetsSeq2 MeetsSeq3 SeqRoads2
def c30{M:Model}{A:`aq}{E:`aK}{s:`v}(f:Nat->β->Sem (ForInStep β))(I:`j->β->`fz)(Q:β->`fz)
  (turn:∀x rest b s,I (x::`bG) b s->`aP M A (f x b) (λr s'=>match r with|.yield b'=>I `bG b' s'|`EU b'=>Q b' s') E s)
  (fin:∀b s,I [] b s->Q b s) (lo hi:Nat) (b:β) (h:I `a4t b s):`nb M (`a4u):=by
 have e:(`a4u:Sem β)=`Em `a4t b f:=`a_
 rw[e];exact u7 f I Q turn fin _ b h
def tuple_indexAt(l:`f)(items:`aO)(n:Nat)(dd:`cY)(sl:`hz)(x:`A)(e:`aNC)(j:Nat)(hj:j<`eL)
  (hit:e `bJ[j]=`d) (hno:∀m (hm:m<`eL),m<j->e `bJ[m]=`q):
  Meets (Builtin.«tuple.index» #[[`kl,x],[]])
   (λA R s=>`apu/\(∀y,y∈`bJ->EqAt `fD s y x (e y))/\`o4 (`h j `b?) `sR):=(
 `Vz λprog w A R s h=>by
  skip;apply `zB;let#[hl,he,h]:=h
  done;wp_walk using E60 hl,c30 _ (λrest b s'=>b.1=`g/\s'=#[hp,g,d,tk,os]/\∃i,i<=j/\`bG=`xN i (`eL - i)) _
  case turn=>
   rintro y rest b s' ⟨hb,rfl,i,hi,hr⟩;have J:i<`eL:=`U
   have e1:`eL - i=(`eL - `dn)+1:=`U
   rw[e1,`xK] at hr;let#[rfl,rfl]:=F10 hr;have hy:`bJ[y]?=`c `bJ[y]:=`a4v
   rw[hy];refine A1 (he `bJ[y] (Ax1 J) `hO w _ _ ?_)
   by_cases hyj:y=j
   ·subst hyj
    rw[hit]
    wp_walk
    exact`VA
   ·rw[hno y J `l]
    wp_walk
    exact#[rfl,rfl,y+1,`U,rfl]
  case fin=>
   rintro b s' ⟨hb,rfl,i,hi,hr⟩;have:=D9 `aSp hr;simp at this;lia
  case h=>
   exact#[rfl,rfl,0,`bP,`a_])
omit PySem.SeqAt
open Y
def xz1(K:`C):`jS:=λx vs H Q=>∃(p:`f) (ys:`e) (z:Str) (j:Nat),x=`g0/\vs=`Pg/\SqT K H p `yk/\`agd=`SN/\(∀m,m<j->ys[m]?≠`SN)/\Q `oa H
def Dj0:MtR X "tuple.index" (xz1 X.K):=by
 apply `TS;skip;let#[p,ys,z,j,rfl,rfl,hq,hj,O,q]:=h;cases rx;apply `amP;apply `TC;let#[o,h1,h2,n,h3]:=id pl;have Z:`ne=`bx:=`Dp `a2 `x
 have a1:j<`bx:=`aqE;have at_:∀m (hm:m<`hp),∃y t,`a4s/\`bj[m]=`Du:=λm hm=>by
  have J:m<`bx:=by rw[`cm] at hm;lia
  let#[t,e]:=Xw0 r m ys[m] (C9 J);refine#[ys[m],t,C9 J,?_];have:its[m]?=`c its[m]:=C9 `l;rw[`w] at e;have e':=B4 e
  simpa using e'
 let#[c0,dd,dt,sl]:=o;obtain rfl:c0=`mu:= h2;obtain rfl:dt=`aBx:=h3;let#[t,rfl]:=ru;have M:∀(y:Str) (tk:Tok),`a4w=`d↔y=z:=λy tk=>by
  show (eqV (`pQ) `xr)=`d↔_;simp[eqV]
 done;refine L4 (T:= `dg) `a4x (show `rV `i_ `dg from #[_,h1,rfl]) F.entry_tuple_index (F.args_tuple_index_2 _ _) (SeqAt.tuple_indexAt p `bj n dd sl `a0D (eqU `xr) j `TT ?_ ?_) #[h1,λy hy=>na0 (x:=`on) `G! rfl r (Xn0 ys) y (`a7 hy),(`pi `gn)]
 ·let#[y,tk,e1,e2]:=at_ j `TT
  rw[e2,M];rw[hj] at e1;cases e1;rfl
 ·intro m hm Y
  let#[y,tk,e1,e2]:=at_ m hm;rw[e2];cases hb:`a4w with
  | false=>rfl
  | true=>exact `K ((M y tk).mp hb▸e1) (O m Y)
def Ye0(K:`C)(mg:`cd)(x:Str)(ys:`e):Prop:=
 ∃(a:`f) (o:Obj) (its:`aO) (n:Nat),mg x=`n?/\`aeG/\`Gn/\`yp/\`aFq/\`aeH/\`b_ `yk `w5
omit L2
open X
def Yo0(ys:`e):`r
 | `Pg=>(`a4y `a4z).map λj=>`gn
 | _=>`g
section
variable{a:`G}{ga gb:GE}{gA:GA}{ys:`e}
open T in
def G7(hK:`a4A)(ha:`UX)(hg:`f!)(hd:`a9)
  (hbase:`H (`vj `PV "index" `N (`a4B)=`a4B) Aa)
  (hfew:`H ((`nI
  &&`aoD)=`d) Aa)
  (hline:`gO) (hs:`d') (hplain:`qv):
  PD X (`HU `PV "index" [e]) (oA gA (Yo0 ys)):=(.mk λB δ=>by
 let#[p,o,its,n,hm,hk,hc,M,J,O,hv]:=hK;refine (jj0 F.plainAttrs_tuple `a4x F.type_tuple_index Dj0 `a4C `bK `jx hfew `jy hs `sY).imp fun σ H Q hq142=>?_;apply `bo hq142
 apply `zf;cases e2:`dk with
 | none=>rw[e2] at h;cases h
 | some es=>
  rw[e2,`s] at h;delta Yo0 at h;split at h
  ·rename_i z
   cases e4:`a4y (`a4z) with
   | none=>rw[e4] at h;cases h
   | some j=>
    rw[e4] at h;cases h;refine#[`u (`n #[rfl,o,hk,hc,M]),_,en,e2,`afy];rw[O8] at r2;let#[y,rr,rfl,r3,r4]:=r2;rw[ze0] at r4;subst r4;rw[w40] at r3;subst r3;let#[hj,h1,h2]:=List.findIdx?_eq_some_iff_getElem.mp e4;refine#[p,ys,z,j,rfl,rfl,`a4D O,?_,λm hm he=>?_,k _ _ s2 `Ce]
    ·rw[`fW hj,`aqF h1]
    ·have Y:m<`bx:=`U
     rw[`fW Y] at he;exact h2 m hm (E9 (B4 he))
  ·cases h)
omit z
omit DL
namespace Att
open PySem.W PySem.Calls PyProof.Rows
def Q90(W:Nat):∀ns:`ai,`a4E `aaE<=W->∀z∈ns,`aHm<=W:=by
 intro z;induction z with
 | nil=>intro _ z hz;cases hz
 | cons n ns ih=>
  intro h z hz
  rw[`J,`a4E] at h;rcases `bF hz with rfl|hz
  ·have h1:`aqG `ov<=W:=`U
   delta WData.weight at h1
   by_cases q:z=0
   ·subst q;exact `bP
   ·rw[`ap (`SW)] at h1
    lia
  ·exact ih `l z hz
def U20{l:`amU}{n:Nat}{q:`av}{loose:`e}{XP:`a4F}{YP:`T->`Dj}{d:DefRec}
  (hn:`amV) (hdf:`a4G)
  (call:∀(w:`T) (s₀ s₁:`v) (mg mb:`cd) (fa:`f) (o:Obj) (pm cd doc:`A) (a:`f) (vs:`am) (ns:`ai),
   Ground q loose [] XP w s₀ mg mb `o0->YP w `o0 ->
   `Dz fa=`aF->`sf=`ry (docDef `af5 d.params d.body d.scope pm cd doc)->s₁.heap.CodeRec cd `af5->`a4H ->
   `a4I->`G'->`TU->(∀z∈ns,`a4J)->`a4K ->
   `aHL (`Ba `j9 w)):
  WalkO q loose XP YP `amX d [] `a4L:=by
 intro w s₀ s₁ mg mb G Y fa o pm cd doc dV kV ho hd hcd hD a3 hg a4 vals as a1 Z a6 a2 a5;skip;obtain rfl:dV=`a8:=Dflts.none hD hdf;obtain rfl:kV=`a8:=Dflts.noKw hD;let#[a,vs,ns,rfl,rfl,M,J,O]:=J10 hn a1 a2;have hw:∀z∈ns,`a4J:=by
  have h1:(WData.layable (`amW)&&`d)=`d:=Z;rw[`apL] at h1;delta WData.layable at h1;rw[`a?] at h1;have h2:`aqG (`amW)<=`s3:=E2 h1.2;rw[`aqG] at h2;exact Q90 (`s3) ns h2
 done;refine enter_call (P6 (`f1 w s₀ `gF mg mb fa o pm cd doc a vs ns G Y ho (fd_plain hd) hcd a3 M J O hw hg) `Ta);let#[rfl,h2,h3,h4]:=hq;exact#[`n #[`LL,`LL,[],rfl,`lv,`LL,Lp0 l _,λ_=>#[`a3u,λ_ hm=>(nomatch hm)]],h2,h3,h4]
omit Att
open X
open B
def mw0(i j k:Nat):`aR
 | `t [a,b,c],δ=>`c ((`aY0).set k (.sh c))
 | _,_=>`g
open A
def ln0:`zP
 | `t3,[d]=>`aYY λk=>(`aDf).getD `y
 | _,_=>`g
section
variable{e0:`G}{g:GE}{gA:GA}
open T in
def S8(i j k:Nat){z:Str}{p2 p3 p4:Pos}{kk}(hN:`fp)(hij:`F!/\i≠k/\j≠k)(hc:`fv)(hi:`ez)(hj:`ua)(hk:`H (X.N[k]?=`SN) Aa)
  (hx:`HB) (hy:`nG) (hz:`H (Loc `u! z) Af)
  (hf:`lL) (hf2:`lT) (hf3:`H (X.fn z=`d∨`KN z=`i2) Ac)
  (hs1:`H (`jz `aqH=`a_0::`a4M) Aa) (hs2:`H (`a4M=`a_2::`a4N) Aa) (hs3:`H (`a4N=`ie (`Oz) `N::`a_3) Aa)
  (hn:`H ((`o `aqH)=3) Aa) (hst:`ak3 `aqH):
  PGD X (`lB `aDw kk pos) [i,j,k] (mw0 i j k):=(.mk λB d δ=>(`a_4 (kq0 (m20 (i:=k) hN hk hz hf3) Qw0 hs3)).imp λv σ H Q hq143=>by
 let#[δ',r,en,e1,kq]:=hq143
 delta mw0 at e1;split at e1
 ·rename_i da db dc
  cases e1;rw[wo0] at r;apply `a_5;rw[O8] at rs;apply `a_6;rw[O8] at rs;apply `a_7;rw[O8] at rs;let#[vc,t3,rfl,rc,rs]:=rs;rw[ze0] at rs;subst rs;refine#[p,_,rfl,`j1,rfl,va,[vb,vc],rfl,vb,[vc],rfl,vc,[],rfl,rfl,kq _ ?_ ((`a_8).set k rc)];apply `a_9
  ·apply `a_'
   apply `a_!
   have h3:q≠k:=λz=>hq (`k z (A7 _ (`ai9)))
   rw[`a4O,`VF,`VG,`a4O,`VF,`VG];exact`iz
  ·apply `a_?
   ·cases e3
   ·apply `a0a
    ·cases e4
    ·rcases `h8 e4 with⟨rfl,e5,_⟩|⟨n3,e5⟩
     ·cases e5
     ·simp at hq
      rcases hq with z|z|z
      ·exact n3 `i!
      ·exact n2 `i!
      ·exact n1 `i!
 ·cases e1)
open T in
def zu0{g1:GE}(hu:`j2)(ho:`aoC)(he:`Ws)(hbase:`wu "get")
  (hfew:`H ((`nI
  &&`zA)=`d) Aa)
  (hline:`gO) (htrees:`H (`aas=[`n3]) Aa):
  PD X `aZ_ (sq0 g (z8 g1 v5) ln0):=(.mk λB δ=>(H40 hu (ho B δ) `zK `a4P).imp fun σ H Q hq144=>by
 apply `bo hq144
 delta sq0 z8 v5 at h;cases e1:`aA with
 | none=>rw[e1] at h;cases h
 | some x=>
  cases e2:`rY with
  | none=>apply `ce;cases h
  | some y=>
   apply `ce;apply `ub;delta ln0 at h;split at h
   ·rename_i ks ds d' he'
    injection he' with he' _
    subst he';cases e3:uk0 y with
    | none=>rw[e3] at h;cases h
    | some q=>
     rw[e3] at h;simp only[`my,`a4Q] at h;refine#[_,en,e1,`DX];have M:=r1;rw[pi0] at M;let#[p,xs,rfl,_,hp,hl,rr]:=M;refine#[p,rfl,`n #[_,`n hp],y,`hc,e2,`w1];have a1:=`ap7;subst a1;refine#[_,`acv (s2 _ _ hp),?_];have J:=`a4R;cases e5:`U4 with
     | some w=>
      rw[e5] at h;let#[u,Z,ru]:=(uj0 J).1 w e5;rw[Z];subst h;exact k u H2 `kR ru
     | none=>
      rw[e5] at h;subst h;have Y:`V8=`g:=by
       have h1:=(uj0 (q:=q) J).2 hl;have h2:`a2b:=by
        cases e6:`wz with
        | false=>rfl
        | true=>
         exfalso;have O:`a4S:=by rw[hl,`PB]
         have key:∀(ks:`a1) (ds:`i),`a4S->`aoM->`U4=`g->`cx:=by
          intro ks
          induction ks with
          | nil=>intro ds _ h _;simp[xo0] at h
          | cons a ks ih=>
           intro ds hl h hg;cases ds with
           | nil=>simp at hl
           | cons b ds=>
            delta yz0 at hg
            by_cases hq:a=q
            ·rw[`I hq] at hg;cases hg
            ·rw[`ap hq] at hg
             refine ih ds `rS ?_ hg;delta xo0 at h ⊢;rw[`lS,`bZ hq,`aZp] at h;exact h
         exact key ks ds O e6 e5
       rw[h2] at h1;cases e7:`V8 with
       | none=>rfl
       | some _=>rw[e7] at h1;cases h1
      rw[Y];exact k `y H2 `kR (show Rp X.K H2 B `y V.non by rw[wh0])
   ·cases h)
omit z
omit DL
open Y
def Inv.tupN{σ:St}{s:`v}{a:`f}(I:`B)(h:`akW):`akX `Se:=by
 let#[z,its,r,p]:=(`aou `q' (`bT a _ h));exact#[its,r,p,z]
def Oa0:`pn `s7 `ET=`sh:=by apply `p_;kernel_rfl
def O00{prog:`av}{w:`T}{A:`aq}{E:`aK}{s:`v}{a:`f}{o:Obj}{xs:`aO}{k:Nat}{Q:`tI}
  (hx:`Gg) (hc:`Gn) (hdat:`a4f) (hd:`yp) (hA:`fq)
  (h:`a4g):
  `a4h:=by
 skip;let#[c,dct,O,sl]:=o;simp only at hc hdat hd;subst hc hdat hd;apply `zB;have hT:∀M,`a4i `ci `dg:= `a4j
 have f1:=`a4k;have f3:=PySem.F.slot_tuple_getattribute.lookup;have f4:=PySem.F.slot_tuple_getattribute.bind `ci;have f5:=am_tuple_getattr_none;done;apply `a4l
 repeat (any_goals (first|assumption|exact hT _|((apply `a4m "tuple.__getattribute__");refine L4 PySem.F.slot_tuple_getattribute (hT _) am_entry_tuple_getattribute (PySem.F.args_tuple_getattribute_2 _ _) (meets_getattribute_miss_tuple a xs k sl `ET _ Oa0 `bf) `a4n)|wp_step))
 apply `a4o;apply `a4p;delta getattributeRaised
 apply `jK
 exact `a4q
section
variable{A:`aq}
def W40{s:`v}{d:`f}{k:Key}{r:`A}{Q:`p4}(I:`B)(e:`In)(l:`zx)(rk:`aoZ)(rv:`ao4)
  (h:∀h' tk,`GU d `aDh `jt->`aGK->Q () `jt):
  `jR (`afA d u r):=by
 apply `Vj;apply `ao5
 apply `Vk
 refine wpAny_dictSet_pairs (hsz:=hz) (jn0 rk) dd λh' J hs=>h _ _ ?_ hs
 have he:∃q,`fQ d=`KL:=`ao6
 exact `ao7
structure PKW where
 p:`f
 k:Key
 v:V
def PKW.ok(H:Hp)(x:PKW):Prop:=`aqI
def ww0(kvs:`lE)(ps:`Wt):`lE:=ps.foldl (λacc x=>putK acc x.k x.v) kvs
open T in
def Rj0{l d:`f}(hh:`fq){R:`nw}{ps:`Wt}(n:Nat):∀(i:Nat) (s:`v) (H:Hp) (kvs:`lE),`af6=n->i<=`V->`B->`a4T->it≠d->it≠l->`ab2 it l i ->
  SqL X.K H l `af9->`R'->`In->`a4U ->
  `a4V ->
  `a4W:=by
 induction n with
 | zero=>
  apply `Wu;apply `a4X;have a2:=`p9;rw[`x] at a2;apply `Wv;refine A1 (`aQi hh O `hC `m3 `a4Y);apply `a4Z
  apply `a4_
  rw[e] at hR;have:=hR _ (show `a40 from by
   apply `a41;exact I1)
  exact `a42
 | succ n ih=>
  apply `Wu;apply `a4X;have M:i<`V:=`U
  apply `a43;have a8:x∈ps:=C8 hx;have a5:`aqI:=hp x a8;let#[u,a3,ru]:=`a44;cases `a45;apply `Wv;refine A1 (k10 O `hC (`a7 a3) `aO4);apply `a46
  let#[b1,a6,ip,_]:=`als (SqT.of a5);cases a6 with
  | cons r1 rr=>
   cases rr with
   | cons r2 rr=>
    cases rr;let#[o,ho,hc,nn,Z]:=id ip;rename_i rk0 rv0;refine `CO;refine `a47;apply `a48;apply `a49;rw[`qe];refine A1 (d5 ho Z `rz);apply `a4';refine `a4! λh2 tk I2 a7=>?_;have b0:`a4?:=λc us ec=>by
     rw[`a5a];exact ec
    have a4:`a5b:=`a5c
    refine A5 #[`aga,?_];rw[a4];refine `agb;rw[`Ww];refine `a5d (a1.extBut a7.extBut J) b0
    ·apply `a5e
     ·exact `n (`n (`a5f))
     ·exact `n (`u #[o',`a5f])
     ·exact `u hl
    ·have e1:`a5g:=by
      have e2:`a5h:=by
       rw[`NN M];have:ps[i]=x:=by
        have:=hx;apply `ay (`fW M);exact `xq
       rw[`w]
      rw[e2]
      funext c
      apply `a5i
     rw[← e1];exact I'
open T in
def Re0{l d:`f}(hh:`fq){R:`nw}{ps:`Wt}(n:Nat):∀(i:Nat) (s:`v) (H:Hp) (kvs:`lE),`af6=n->i<=`V->`B->`a4T->it≠d->it≠l->s.heap.IsTupleIter it l i ->
  H l=`c (`t `af9)->`R'->`In->`a4U ->
  `a4V ->
  `a4W:=by
 induction n with
 | zero=>
  apply `Wu;apply `a5j;have a3:=`p9;rw[`x] at a3;apply `Wv;refine A1 (n10 hh O pl.tup `m3 `a4Y);apply `a4Z
  apply `a4_
  rw[e] at hR;have:=hR _ (show `a40 from by
   apply `a41;exact I1)
  exact `a42
 | succ n ih=>
  apply `Wu;apply `a5j;have M:i<`V:=`U
  apply `a43;have b0:x∈ps:=C8 hx;have a6:`aqI:=hp x b0;let#[u,a4,ru]:=`a44;cases `a45;apply `Wv;refine A1 (l10 O pl.tup (`a7 a4) λh' a2 hs=>?_);apply `a46
  let#[b1,a7,ip,_]:=`als (SqT.of a6);cases a7 with
  | cons r1 rr=>
   cases rr with
   | cons r2 rr=>
    cases rr;let#[o,ho,hc,nn,a1]:=id ip;rename_i rk0 rv0;refine `CO;refine `a47;apply `a48;apply `a49;rw[`qe];refine A1 (d5 ho a1 `rz);apply `a4';refine `a4! λh2 tk I2 a8=>?_;have Z:`a4?:=λc us ec=>by
     rw[`a5a];exact ec
    have a5:`a5b:=`a5c
    refine A5 #[`aga,?_];rw[a5];refine `agb;rw[`Ww];refine `a5d (a2.extBut a8.extBut J) Z
    ·exact Z _ _ hl
    ·have e1:`a5g:=by
      have e2:`a5h:=by
       rw[`NN M];have:ps[i]=x:=by
        have:=hx;apply `ay (`fW M);exact `xq
       rw[`w]
      rw[e2]
      funext c
      apply `a5i
     rw[← e1];exact I'
omit z
def P60(K:`C):`i0:=`a5k (SqL K H l `ai?)
def Rk0(hu:`Io)(hcalm:`fv):`er X `so (P60 X.K):=by
 apply `p8;skip;apply `a5l;cases r with
 | cons r rr=>
  cases rr;obtain rfl:=r;apply `UZ;apply `U_;done;apply `a5m;apply `a5n;skip;apply `a5o;have hT:`a5p:= `aqq;apply `a5q
  have hl1:SqL X.K `EW l `ai?:=by
   apply `a5e
   ·exact `n (`n (`aqJ))
   ·exact `n (`u #[o',`aqJ])
   ·exact `u hl
  let#[its,rv,#[ol,nl,Y,Z,a6,a1],_]:=`acT hl1;done;refine`a5r;apply `a5s;refine `lQ;apply `a5t;apply `gN z0 hT;apply `a5u;refine `eg;apply `a5v;apply `a5w;apply `gN L0 (`a5x `eV);rw[`qe];refine `a5y Ns0;simp only[`a5z,`qd];apply `a5A;let#[a7,b0,O,_]:=I2.list hl1;refine `yy S4 (x8 (s:=`af?) O.isList ?_);refine `a5B;rw[`Ww];have I3:`a5C `a1q:=`a5D
  have a4:`L<`s1:=B6 (k1 _ _ `Ii);have a5:`s1≠l:=by
   let#[a8,b1,a2,_]:=O;exact `a5E
  apply `a5F;refine `a5G Rj0
  ·exact`w7
  ·refine`a5H
   have e:`a5I:=by
    funext c
    apply `a5J
   rw[e];exact k _ hf
def Qy0(K:`C):`i0:=`a5k (H l=`a5K)
def Ra0(hu:`Io)(hcalm:`fv):`er X `so (Qy0 X.K):=by
 apply `p8;skip;apply `a5l;cases r with
 | cons r rr=>
  cases rr;obtain rfl:=r;apply `UZ;apply `U_;done;apply `a5m;apply `a5n;skip;apply `a5o;have hT:`a5p:= `aqq;apply `a5q
  have hl1:upd H `L `vl l=`a5K:=`aqJ;let#[its,rv,#[ol,Y,Z,nl,a1,a6],_]:=I1.tupN hl1;done;refine`a5r;apply `a5s;refine `lQ;apply `a5t;apply `gN z0 hT;apply `a5u;refine `eg;apply `a5v;apply `a5w;apply `gN L0 (`a5x `dg);rw[`qe];refine `a5y O00;simp only[`a5z,`qd];apply `a5A;let#[a7,b0,O,_]:=I2.tupN hl1;refine `yy S4 (`aQu (s:=`af?) O.tup ?_);refine `a5B;rw[`Ww];have I3:`a5C (`cR "tuple_iterator"):=`a5D
  have a4:`L<`s1:=B6 (k1 _ _ `Ii);have a5:`s1≠l:=by
   let#[a8,a2,_]:=O;exact `a5E
  apply `a5F;refine `a5G Re0
  ·exact`w7
  ·refine`a5H
   have e:`a5I:=by
    funext c
    apply `a5J
   rw[e];exact k _ hf
def Oh0(hu:`Io)(hcalm:`fv):`er X `so (λvs H Q=>P60 X.K vs H Q∨Qy0 X.K vs H Q):=by
 apply `p8;rcases h with h|h
 ·exact `a5L Rk0
 ·exact `a5L Ra0
omit L2
open X
def vw0:`a1->`i->`i->`aT (`zt)
 | ks,vs,[]=>`c (ks,vs)
 | ks,vs,`U5::r=>(uk0 a).bind λk=>vw0 `Wx `aqK r
 | _,_,_=>`g
def v80:`r
 | `qo=>`a5M
 | [`c5]=>`a5M
 | _=>`g
section
variable{B:BS}
open B
def Rq0{vs:`i}{d:D}{r:`zt}(e:vw0 ks vs `m7=`fj):∃a b k,d=`U5/\uk0 a=`f_/\vw0 `Wx `aqK ds=`fj:=by
 cases d with
 | tup l=>
  match l,e with
  | [],e=>apply `lZ
  | [_],e=>apply `lZ
  | `mO,e=>
   delta vw0 at e;cases h:uk0 a with
   | none=>rw[h] at e;cases e
   | some k=>rw[h] at e;exact#[a,b,k,rfl,h,e]
  | _::_::_::_,e=>apply `lZ
 | non=>apply `lZ
 | bl _=>apply `lZ
 | int _=>apply `lZ
 | str _=>apply `lZ
 | lst _=>apply `lZ
 | dct _ _=>apply `lZ
 | fn _ _=>apply `lZ
theorem gr0:∀{ds:`i} {xs:`P} {ks:`a1} {vs:`i} {ws:`P} {r:`zt},`bi->Rps K H B vs ws->`dY=`Fk->vw0 ks vs ds=`fj ->
  ∃ps:`Wt,xs=`c3 (`aCv)/\`R'/\∃ws',ww0 `a5N ps=r.1.zip ws'/\`aYX=ws'.length/\Rps K H B r.2 ws'
 | [],xs,ks,vs,ws,r,h1,h2,hl,e=>by
  delta vw0 at e;cases e;rw[ze0] at h1;exact#[[],h1,`Wy,ws,rfl,hl,h2]
 | `b1,xs,ks,vs,ws,r,h1,h2,hl,e=>by
  skip;rw[O8] at h1;let#[x,t,rfl,hx,ht]:=h1;let#[a,b,k,rfl,e1,e]:=Rq0 e;rw[wo0] at hx;let#[p,ys,rfl,hq,J]:=hx;rw[O8] at J;let#[y1,t1,rfl,Y,J]:=J;rw[O8] at J;let#[y2,t2,rfl,M,J]:=J;rw[ze0] at J;subst J;have O:=m60 e1 Y;subst O;let#[zs,Z,a2,a3,a1]:=`ap? k y2;have rr:Rps K H B `aqK zs:=by
   delta xy0;cases hk:`o3 with
   | true=>rw[`a4,a3 hk];exact go0 M h2
   | false=>rw[`cB,a1 hk];exact `zl h2 M
  let#[ps,q1,q2,ws',q3,q4,q5]:=gr0 ht rr a2 e;done;refine#[#[p,k,y2]::ps,`ax q1,`iE,ws',?_,q4,q5]
  ·apply `y4
   ·exact hq.2
   ·exact q2 x hx
  ·show ww0 (putK `a5N k y2) ps=_
   rw[Z];exact q3
omit z
section
variable{p:Pos}
open T in
def X4(hu:`Io)(hcalm:`dV)(hm:`a38)(hv:`aqB)(ha:`b7)(hg:`a39)
  (he:`d') (hpl:`ga):
  `H? `a3' v80:=(.mk λB δ=>(`aqC mo0 (Oh0 hu `NU)).imp fun σ H Q hq145=>by
 apply `bo hq145
 apply `zM;cases e1:`aA with
 | none=>rw[e1] at h;cases h
 | some x=>
  rw[e1] at h;apply `ub;apply `V0;delta v80 at h;split at h
  ·rename_i ds he1
   apply `aqL
   subst he1;split at h
   ·rename_i hz
    cases e2:`agc with
    | none=>rw[e2] at h;cases h
    | some r=>
     rw[e2] at h;cases h;apply `nH;apply `V1;apply `a5O;refine `n (`a5P `j1);have q3:`a5Q:=q3;rw[q3];apply `a5R
   ·cases h
  ·rename_i ds he1
   apply `aqL
   subst he1;split at h
   ·rename_i hz
    cases e2:`agc with
    | none=>rw[e2] at h;cases h
    | some r=>
     rw[e2] at h;cases h;rw[wo0] at r1;apply `V1;apply `a5O;refine `u (`a5P hq.2);have q3:`a5Q:=q3;rw[q3];apply `a5R
   ·cases h
  ·cases h)
omit z
def leS(a b:Str):`aj:=!`an (`a5S<`a5T)
def s00(ys:`e):`e:=ys.mergeSort leS
omit DL
namespace L2
open Spec PyProof.Rows PySem.W
open DL (leS s00)
def nd0{a b:Str}:`Ck↔`a5T<=`a5S:=by
 delta leS;rw[`Wz,`aqM];exact P8
def ey0(a b c:Str)(h1:`Ck)(h2:leS b c=`d):leS a c=`d:=(nd0.mpr (List.le_trans `a5U `a5V))
def jg0(a b:Str):(leS a b||leS b a)=`d:=by
 rw[`aps,nd0,nd0];exact List.le_total _ _
def G50{a b:Str}(h1:`Ck)(h2:`a5W):a=b:=by
 have:=List.le_antisymm `a5U `a5V;let#[a]:=a;let#[b]:=b;have e:a=b:=Array.toList_inj.mp `w;rw[e]
theorem gd0:∀{l m:`e},l.Perm m->l.Pairwise `Ip->m.Pairwise `Ip->l=m
 | [],m,h,_,_=>by rw[List.nil_perm.mp h]
 | `iF,[],h,_,_=>`ba (`K (List.perm_nil.mp h) `az)
 | `iF,b::m,h,h1,h2=>by
  have hab:`Ck:=by
   rcases `bF (h.mem_iff.mpr (A8 (a:=b) (l:=m))) with e|e
   ·rw[e];have:=jg0 a a;apply `tm
   ·exact F20 h1 e
  have J:`a5W:=by
   rcases `bF (h.mem_iff.mp (A8 (a:=a) (l:=l))) with e|e
   ·rw[e];have:=jg0 b b;apply `tm
   ·exact F20 h2 e
  have e:=G50 hab J;subst e;rw[gd0 (List.Perm.cons_inv h) (F30.mp h1).2 (F30.mp h2).2]
theorem fu0:∀(p:Str) (l:`e),risingS p l=`d->(p::l).Pairwise `Ip
 | p,[],_=>`a_
 | p,x::r,h=>by
  have h':(!ltCps `Wr p.cps.toList&&risingS x r)=`d:=h;rw[`a?,ltCps_eq] at h';have ih:=fu0 x r h'.2;refine F30.mpr #[`Th,ih];have J:leS p x=`d:=h'.1;rcases `bF hy with rfl|hy
  ·exact J
  ·exact ey0 _ _ _ J (F20 ih hy)
theorem Sk0:∀l:`e,sortedS l=`d->l.Pairwise `Ip
 | [],_=>`ah
 | x::r,h=>fu0 x r h
def Cj0{ss ys:`e}(hp:ss.Perm ys)(hs:sortedS ss=`d):ss=`sG:=(
 gd0 (hp.trans (B51 ys leS).symm) (Sk0 ss hs) (B61 ey0 jg0 ys))
def Qa0:∀{ys:`e} {vs:`am},`a5X->(∀(j:Nat) (v:`A),vs[j]?=`aX->∃y t,`aG?/\v=`Du)->`EA vs ys:=by
 intro z;induction z with
 | nil=>
  intro z1;cases z1 with
  | nil=>intro _ _;exact `ah
  | cons _ _=>intro h _;simp at h
 | cons y ys ih=>
  intro z1;cases z1 with
  | nil=>intro h _;simp at h
  | cons v vs=>
   intro hl h
   let#[y',t,e1,rfl]:=h 0 v rfl;cases e1;exact `aE y t (ih `rS λj v hv=>`a7 (h `ji v `Tk))
theorem Gk0:∀{vs:`am} {ss:`e},`EA vs ss->`b_ (ss.map `o_) vs
 | _,_,`ah=>`ah
 | _,_,`aE x t h=>`aE `G! (Gk0 h)
section
variable{A:`aq}{s:`v}{d:`f}{ys:`e}
def Kn0{Q:`aK}(hh:`fq)(I:`B)(e:`In)(hk:`a5Y)(h64:`aqN)
  (h:∀l s',`acq->`aW `a5Z s'->Q `r9 s'):`jR (`f1 `agf [`xs]):=by
 apply `Vj;let#[ep,a7]:=dd.dictAt;have a6:`a5X:=by rw[← `ac3,← `x (f:=`PR),hk,`x]
 have a5:`mG `bO=`pz:=by
  rw[← hk];have key:∀{a:`lE} {b:`Vi},KV a b->b.map `bO=a.map `bO:=by
   intro a b r
   induction r with
   | nil=>rfl
   | cons q t ih=>rw[`J,`J,ih,q.1]
  exact key rel
 have a3:`TP:=C3 (L8 h64) `E;refine Calls.call_function_entry kind_sorted plain_sorted entry_sorted (args_sorted1 _) ?_;delta Builtin.«sorted»;refine A1 (m:=checkCount `o2 1 1 _) `rz;refine A1 (kdu_collect (A:=`fD) (kdl_dict (knd:=`Ch) (kvs:=vs) (ep:=ep) hd) hh a7 `l λh' tk J b0 M=>?_);have O:J.toList.length=`bx:=by rw[`yv,M.1,a6]
 have hS:`EA J.toList ys:=Qa0 O λj v hv=>by
  let#[k,x,hx,a8]:=M.2 j v (`bk `F1 hv);have hy:(`KV (`dB:Str->Key))[j]?=`f_:=by rw[← a5,`cH,hx];rfl
  rw[`cH] at hy;cases hyj:`agd with
  | none=>rw[hyj] at hy;cases hy
  | some y=>
   rw[hyj] at hy;cases hy;rcases u50 (show gl0 (`dB y) v=`d from a8) with⟨i,t,q,rfl⟩|⟨x',t,q,rfl⟩
   ·cases q
   ·cases q
    exact#[_,t,rfl,rfl]
 have I1:`aQo:=`GG (t':=tk) b0;have Y:(`a5_).get? `c!=`c (seqObj `eV `aKU 0):=`e7;refine A1 (wpAny_newList ?_ (`k O a3));show `b6 _ ((`fC `a5_ tk));refine A1 (D3 (L7 slot_list_sort `aYs entry_list_sort (list_sort_treeK strKind_oneLt Y hS.keysOf (λv₁ v₂ rest e=>keyKind_strs (`bk e hS)) (`k O h64) λa4 a1 a2=>`a2S) (args_list_sort _)));let#[b4,b1,b2,b3]:=sorted_out_str hS a1 a2;have es:=Cj0 b2 b3;subst es;refine A5 #[_,rfl,h `c! _ (`FI) ?_];let#[ee,he]:=sortedHeap_at (vs:=J.toList) (out:=`a50) Y;refine `Gi (t':=tk) (`aX_) `bq #[?_,(`a50).toList,ee,Gk0 b1,he]
 ·have Z:b<`c!:=B6 hb
  rw[sortedHeap_old (B9 Z) (C7 Z (`k `qB (j0 _)))];exact B8 _ hb
 ·rw[`x,b2.length_eq]
  exact a3
omit z
open V
open DL (s00)
def ye1:`i0:=λvs H Q=>∃d kvs ys,vs=[`xs]/\`In/\`a5Y/\`aqN/\∀l,`acq->Q `r9 `a5Z
def Ot0(hcalm:`fv):`er X `agf ye1:=by
 apply `p8;skip;let#[d,kvs,ys,rfl,e,hk,J,k]:=h;cases r with
 | cons r rr=>
  cases rr;obtain rfl:=r;done;exact Kn0 `af! I e hk J λl s' hl I'=>#[`kl,_,I',rfl,k l hl]
omit L2
open X
def strKeys:`a1->`aVD
 | []=>`qm
 | `Mm::r=>`Fi (`sp r) s
 | _=>`g
open A
def kc0:`r
 | [`t3]=>(`aqO).bind λys=>`D `aqN `a51 `g
 | _=>`g
theorem a00:∀{ks:`a1} {ys:`e},`aqO=`c ys->ks=`pz
 | [],ys,h=>by delta strKeys at h;cases h;rfl
 | `Mm::r,ys,h=>by
  delta strKeys at h;cases e:`sp r with
  | none=>rw[e] at h;cases h
  | some zs=>rw[e] at h;cases h;rw[a00 e];rfl
 | `yl::r,ys,h=>by simp[`sp] at h
def yq1{B:BS}:∀l:`e,`nE (`aH `bH) (`aH `o_):=by
 intro z;induction z with
 | nil=>rw[`hE,`hE,ze0]
 | cons s l ih=>rw[`J,`J,O8];exact`hD `abA ih
section
variable{p:Pos}
open T in
def X3(hu:`Io)(hcalm:`dV)(hm:`ct `o2=`g)(hv:`a52)(ha:`b7)(hg:`hf `o2)
  (he:`d') (hpl:`ga):
  `H? (`pS `o2 [e]) kc0:=(.mk λB δ=>(`aqC gs0 (Ot0 `NU)).imp fun σ H Q hq146=>by
 apply `bo hq146
 apply `zM;cases e1:`aA with
 | none=>rw[e1] at h;cases h
 | some x=>
  rw[e1] at h;apply `ub;apply `V0;delta kc0 at h;split at h
  ·rename_i ks ds he1
   apply `aqL
   subst he1;cases e2:`aqO with
   | none=>rw[e2] at h;cases h
   | some ys=>
    rw[e2] at h;apply `dQ;split at h
    ·rename_i hz
     cases h;rw[pi0] at r1;let#[q,xs,rfl,_,hq,hl,rr]:=r1;have ek:=a00 e2;refine#[q,`K1,ys,rfl,hq,`bk ek (List.map_fst_zip (K2 hl)),hz,`a53];exact `aiD #[_,yb0,yq1 _]
    ·cases h
  ·cases h)
omit z
omit DL
open Y
def Gp0(K:`C):R2:=`a0l (`sQ/\`U7 0 (`a54/\`t_ (`m `ac0)))
def Cz0:`y_ `S2 Gp0:=by
 apply `ew;skip;apply `a0m;cases rx;apply `G5;let#[its,r1,p1,_]:=`hW ha;apply `aYq;simp only at hc hd;subst hc hd;have hl:=`k';have he:`a0n:=by
  cases its with
  | nil=>exact `a0o
  | cons a b=>rfl
 have J:`apz<=`s3:=`a0p
 have M:`wA (`D (`afH=`d) 0 `eM) `bj=`a0q:=by
  rw[he];have:=`a0r;apply `ay `c';exact `w
 have O:¬(!`a55)=`d:=by
  have:`a55=`d:=by delta Builtin.List.listFitsIndex;simp;lia
  rw[`w];decide
 have Z:¬`hp*`eM > `VI/8:=`U
 have Y:¬`TR (`apz)=`d:=by
  rw[`cm] at J ⊢;apply `aT6;simp;delta sizeLine;lia
 done;refine A61 (T:= `eV) (U:= `jU) `E `lR `a0s noFill_list_mul `a0t A00 repeat_list `a0u
  (L4 A00 `a0v `a0w `a0x (lm_int_rmul_list_any k t a `bj n dd sl)
   #[ho,rfl,`lR,L4 F.slot_list_mul `lR F.entry_list_mul (F.args_list_mul_2 _ _) (lm_list_mul_any a `bj n dd sl k t O Z Y) `a0y])
 rw[M];exact`aYt (`a0z) (by rw[len_rep,`H8];delta sizeLine;lia)
omit L2
open X
def mulL:`bA
 | `dx,`fE=>`bL (`U7 0 `a54) (`m `ac0)
 | _,_=>`g
section
variable{a:`G}{ga gb:GE}
def J90:Op2 K (Gp0 K) `ly:=by
 apply `hI;delta mulL at h;split at h
 ·split at h
  ·skip;rename_i hz
   cases h;rw[w80] at rx;rw[ys0] at ry;subst ry;apply `VR;done;refine#[a,xs,_,rfl,rfl,`zJ,`a01,`VT,hz.2.2.1,`a02,`H9 `js lv0 `a03];subst z;have hn:=`k';simp at hn;exact `VS
  ·cases h
 ·cases h
def K5(ha:`c0)(hb:`dP):`lX `a04 `ly:=(dx0 Cz0 J90 ha hb)
omit z
structure But(p:`f)(H H':Hp):Prop where
 old:`a56
 nf:∀b o xs,`PI->`aUn
instance{p:`f}{H H':Hp}:`fr `WA `a56:=#[But.old]
section
variable{B:BS}{σ:St}{δ:Ds}
def Gr.but{p:`f}(hb:B p)(h:`WA):`aVV:=(λb u n e=>#[n,h b u (λz=>n (z▸hb)) e])
def Env.mutB(e:`bB){d:D}{a:`f}(hi:`H4)(hs:`m8)(hh:`aqP)(r:`aWt):`a57:=by
 apply `aZ6;rw[hs] at h1;cases h1;apply `aZ7
 ·have h0:`ao! H' B:=`FY (λo' s h=>by
   cases s with
   | un=>exact `ao?
   | ex c n=>apply `gS;apply `a58
   | sh d=>apply `gS;apply `a58
   | ow d=>
    apply `Vl
    by_cases z:b=a
    ·subst z;apply `apa
    ·exact `n #[b,e,M,`ei (λo h=>hh b o z h) `aL0]) `k8
  apply `aZ9;apply `aZ';apply `aZ!
  ·exact h
  ·skip;apply `apb
   ·cases e3;done;exact`aix
   ·done;apply `aZ?
 ·by_cases z':b=a
  ·subst z';exact `t5
  ·cases q:H b with
   | none=>exact `K q (`apc)
   | some o=>exact(`apc).keep λo h=>hh b o z' h
 ·have q1:`a_a:=by
   skip;apply `Vm
   ·done;exact`Vn
   ·done;exact`Vo
  have q2:`a_b:=by
   skip;apply `a_c
   ·done;exact`Vn
   ·done;exact`Vo
  let#[d1,q1]:=q1;let#[d2,q2]:=q2;exact `a_d
def EnvS.mutB(en:`dr)(b1:`jZ)(b2:`j_){d:D}{a:`f}(hi:`H4)(hs:`m8)(hh:`aqP)
  (env:`a57):`iT H' σ `sZ:=by
 have h0:=`a_e;have J:i<`o5:=`SA;apply `a_f
 ·apply `a_g
  exact hh _ _ `w `a_h
 ·by_cases z:b=a
  ·apply `a_i
   rw[hs] at e1;cases e1;rw[z] at h;exact `a_j
  ·exact `Px b ob xs (hh.nf b ob xs z h)
 ·skip;apply `Vm
  ·rw[hs] at h2;cases h2;done;exact h0
  ·done;exact `a_k
omit z
omit DL
open Y
def down(n:Nat):`aDH (`aiE) (-1) (-1)=(`jk `ww):=by
 delta sliceRange;simp only[];rw[`fm];have hc:(if `bm - 1 > -1 then `a59/(- -1) else 0).toNat=n:=by
  split
  ·rw[show `a59=`bm from `U,`bz ((- -1:Int)=1),`aSK,`cF]
  ·lia
 rw[hc];apply A60;intro j
 by_cases hj:j<n
 ·rw[`cH,`V_ hj,List.getElem?_reverse (`y!),`d?,`V_ `l]
  show `c ((`aiE+-1*`bN).toNat)=_;congr 1;lia
 ·rw[`aqQ,`aqQ]
theorem Sc0(its:`am):∀l:`j,(∀j∈l,j<`ne)->`DD (λx=>`bj[x]?)=`aH λj=>its.getD j `a8
 | [],_=>rfl
 | j::l,h=>by
  have hj:=h j A8;rw[`w3,`J,Sc0 its l `aDt];simp[hj]
def Jb0(its:`am):`amy `bj `g `g (`WB)=its.reverse.toArray:=by
 delta slicePick;have h:`o9 `g `g (`WB) `hp=((`ak `hp) - 1,-1,-1):=by
  delta sliceBounds;rfl
 rw[h];apply `aM down;congr 1;rw[`cm,Sc0 its _ `az,← List.map_reverse.symm];congr 1;apply A60;intro j
 by_cases hj:j<`ne
 ·simp[hj]
 ·rw[`aqQ,`MD `l]
section
variable{st:`G}{ts:TO}
def vz1(K:`C)(te:TE)(ts:TO):TE:=`db te (`yB ts λo H2=>o=`WB/\`TF (`K4 H2/\`WC (H2 p=`g) H2 (`V7)))
def At0(he:`eS)(hs:PO X `aic ts):PE X `a5' (vz1 X.K te ts):=by
 apply `a';refine k0 (thn `hs λv s1 hq147=>?_);apply `fk hq147;refine `amj ?_;rw[`ami];refine `eg;refine `eg;refine thn (`lx hs _) λvt s2 hq148=>?_;skip;let#[o,H2,I2,pt,q2]:=hq148
 let#[rfl,a,xs,rfl,hx,q]:=q2;cases r1;have I4:`aW H2 `a5!:=I2.kept (t':=`xd) `NV
 apply `Pf I4.list;have J:=`a2;done;show `p! (`amm e `aKV `ci (`ag `t0)) `f7 `a5!;refine `Tr (ops:=[`cQ,`ag `t0]) `TG `G6 ?_ `aS';refine E10 `TH `aml `a8 `a8 pt `E ?_ `TB;rw[Jb0];refine#[`ag (`ws `aHE),_,`abQ I4.laid `xd `V7,rfl,q _ (I4.hok.fresh `bq)];exact#[`a1!,_,0,r.reverse,`e7]
omit z
omit L2
open X
def Ji0(g:GE):GE:=fun δ=>`ka λd=>match d with
 | `LF=>`c (`m l.reverse)
 | _=>`g
section
variable{st:`G}{g:GE}{gs:`t2}
def Q40{B:BS}:`a11:=by
 intro z;induction z with
 | nil=>intro xs h;apply `jW;subst h;rw[List.reverse_nil,ze0];rfl
 | cons d ds ih=>
  intro xs h
  rw[O8] at h;apply `zn;rw[`eP,`eP];exact(`za).append (`p5 O8 (`Ul x h1))
open T in
def Aq0(he:`b7)(hs:PDO X `aic gs)(hm:`H (∀δ,gs δ=`c (`WB)) Ad):PD X `a5' (Ji0 g):=(.mk λB δ=>
 (At0 `zK (hs B δ)).imp fun σ H Q hq149=>by
  apply `bo hq149
  delta Ji0 at h;cases e1:`aA with
  | none=>rw[e1] at h;cases h
  | some x=>
   rw[e1,`s] at h;split at h
   ·rename_i l
    cases h;refine`Hy _ #[_,`hc,hm δ,λH2 s2=>`R6]
    replace r1:=`oH
    have hb:=`UA;apply `nH;apply `HT r1;exact#[a,xs,rfl,`fg,`H9 `a1C lv0 (Q40 r)]
   ·cases h)
omit z
omit DL
namespace L2
open Spec PyProof.Rows PySem.W
def v91(td ty tx:TE):TE:=fun σ H Q=>td σ H λx H1=>∃a,`fa/\IsD H1 a/\ty σ H1 λy H2=>tx σ H2 λz H3=>∃kvs k,H3 a=`Lk/\y=kV k/\`zx /\
 (∀v,`mP=`aX->Q v H3)/\(`aqR->Q z (upd H3 a (.dK (`Nf z))))
section
variable{f:`G}{td tx:TE}
def wj1{σ:St}{s:`v}{a:`f}{k:Key}{r:`A}{A:`aq}{E:`aK}{Q:`aK}(I:`B)(e:`zw)(ry:`aoZ)(rv:`ao4)(l:`zx)
  (h1:∀x,`mP=`c4->`ao2 x) (h2:`aqR->∀s',`aW (`ao1) s'->Q r s'):
  `jR (`f1 (`cW "dict.setdefault") [`cQ,u,r]):=by
 apply `Vj;apply `ao5
 have hv:=`CI;refine `ao9 B71 `xj PySem.F.entry_dict_setdefault (PySem.F.args_dict_setdefault_3 _ _ _) (kt_meets_setdefault `H3 a `zy hd r) #[vs,dd,hz,λw hw=>?_,λhn h' J hs=>?_]
 ·rw[hw] at hv
  cases e1:`mP with
  | none=>rw[e1] at hv;exact hv.elim
  | some x=>rw[e1] at hv;exact h1 x e1 _ _ `CJ hv
 ·rw[hn] at hv
  have e1:`aqR:=by
   cases e1:`mP with
   | none=>rfl
   | some x=>rw[e1] at hv;exact hv.elim
  apply `Vk
  have he:`ao3:=`ao6
  exact h2 e1 _ (`ao7)
def Bo0(ho:`H2)(he:PE X e ty)(hf:PE X f tx)(m:M2 X o `WD `mr e f `oe):PE X (`HU o `WD `OQ) (v91 td ty tx):=by
 apply `a';refine `aZ0 B71 PySem.F.type_dict_setdefault λu s1 hq150=>?_;skip;let#[x,H1,I1,rx,a,ex,d,q1]:=hq150;subst ex;cases (show `RQ from rx);apply `aZ1;done;refine`aZ2;rw[m.trees];refine `aZ3 λiv s2 hq151=>?_;let#[y,H2,I2,ry,q2]:=hq151;refine F3 (thn (`aiq hf σ) λfv s3 hq152=>?_);skip;let#[z,H3,I3,rz,kvs,k,ea,ey,l,q3,q4]:=hq152;done;refine M0 ?_;subst ey;exact wj1 I3 ea ry rz l (λx ex w' s4 I4 r4=>#[x,H3,I4,r4,q3 x ex]) λen s4 I4=>#[z,_,I4,rz,q4 en]
omit z
omit L2
open X
def bc0(i:Nat)(gk g:GE):GX:=fun δ=>`aYW λpr=>`a5? λdk=>`ka λd=>(uk0 dk).bind λq=>`zY (`ap!<`R) (if `a6a then (yz0 pr.1 pr.2 q).map λr=>(r,δ) else `c (d,`aqb))
section
variable{a f:`G}{ga gb g:GE}
open T in
def K9(hu:`j2)(ha:`c0)(hb:`dP)(hm:`a2j):`lX `a2k `ye:=(.mk λB δ=>(Au0 `a2l hm).imp fun σ H Q hq153=>by
 apply `qs hq153
 delta o2 at h;cases e1:`dO with
 | none=>rw[e1] at h;cases h
 | some x=>
  cases e2:`d4 with
  | none=>apply `ce;cases h
  | some y=>
   apply `ce;apply `dQ;apply `t6;apply `ap8
   apply `zQ;cases ks with
   | inl ks=>
    apply `qD;cases e3:uk0 x with
    | none=>rw[e3] at h;cases h
    | some q=>
     rw[e3] at h;simp only[`my,`ng] at h;cases h;rw[pi0] at r2;apply `zR;have:=`ap9;subst this;refine`zT p `afT;apply `zS;exact `a6b
   | inr ks=>
    apply `qD;cases e3:mq0 x with
    | none=>rw[e3] at h;cases h
    | some q=>
     rw[e3] at h;simp only[`my,`ng] at h;cases h;rw[dr0] at r2;apply `zR;apply `ap';refine`zT p `afU;apply `zS;exact `a6b)
def y80(i:Nat)(h0:PD X e g0)(h:PD X f g)(hN:`ez)(hv:`iH)(hd:`a9)(hcd:`hB)
  (hbase:`VC `WD)
  (hfew:`H ((`aZT
  &&`aZU)=`d) Aa)
  (hline:`gO) (htrees:`H (`aZV) Aa):
  `VD `WD `OQ (bc0 i g0 g):=(.mk λH₀ B₀ δ pins s σ H Q I hq154=>by
 skip;apply `bC hq154
 delta bc0 at e1;apply `bl;cases e2:`PE with
 | none=>apply `as;cases e1
 | some pr=>
  cases e4:g0 δ with
  | none=>rw[e2,e4] at e1;cases e1
  | some dk=>
   cases e3:`aA with
   | none=>rw[e2,e4,e3] at e1;cases e1
   | some d=>
    cases e5:uk0 dk with
    | none=>rw[e2,e4,e3] at e1;apply `fu;rw[e5] at e1;cases e1
    | some q=>
     rw[e2,e4,e3] at e1;apply `fu;rw[e5] at e1;apply `fu;split at e1
     ·rename_i hz
      have hi:=Qp0 e2;let#[p,M,hb,xs,hx,hl,rx]:=`Dt;have hl:`ap!=`aB:=hl;done;refine Bo0 `qA (h0 B δ) `dq `a4P `z s σ H Q I #[_,M,p,rfl,`n #[_,`n hx],dk,env,e4,λiv H1 s1 r1=>#[d,`nh,e3,λfv H2 s2 r2=>?_]];have:=m60 e5 r1;subst this;have J:=`n8;refine#[_,q,J _ _ hx,rfl,`a2n,λv Y=>?_,λhn=>?_]
      ·skip;have hk:`a6a:=by
        rw[← `a6c,Y];rfl
       rw[`yH] at e1;let#[w,hw,e1]:=`Cf e1;cases e1;let#[v',Z,rv]:=(uj0 rx).1 w hw;rw[Y] at Z;cases Z;done;exact k v H2 (`xB (`Nr J) (`rf J) (`aEx J))
      ·have hk:`agg=`q:=by
        rw[← `a6c,hn];rfl
       rw[hk,`cB] at e1;cases e1;let#[ys,hy,hyl,a2,a1]:=`ap? q fv;have rr:Rps X.K H2 B `ac' ys:=by
        delta xy0;rw[hk,`cB,a1 hk];exact `zl (`ac9 J) r2
       rw[hy];have O:`s5 (upd H2 p `a2o) `aqb:=(`rf J).mut hi M `a2p;exact k _ _ (`xB (`F8 J b1 b2 hi M O) O (r2.mono `s_))
     ·cases e1)
omit z
omit DL
namespace L2
open Spec PyProof.Rows PySem.W
def Y8:`er X `amE `a6d:=by
 apply `yE;skip;let#[p,kvs,rfl,hq,q]:=h;apply `TO;cases rx;have hn:=k80;let#[z,hd,vs,rel,dd]:=mb0 `bT hq;have hl:=`ac3;done;exact call_len_dict hd dd `l #[`aL1,H,`u2,#[`BJ,by rw[hl]],q]
omit L2
open X
def so0:`r
 | [`dy `K8 _]=>`c (`h `dY)
 | _=>`g
def K1:FnR K `a6d so0:=by
 apply `zs;delta so0 at h;split at h
 ·skip;cases h
  apply `lY;rw[pi0] at r1;let#[p,ys,rfl,_,hp,hl,rr]:=r1;done;refine#[p,_,rfl,hp,`UV];rw[ys0,`ru,← hl,`LH]
 ·cases h
omit DL
open X
def orE(g1 g2:GE):GE:=fun δ=>match `rY with
 | `fj=>`fj
 | `g=>`Qj
def y90{g1 g2:GE}(h1:`Ws)(h2:PD X e g2):PD X e (orE g1 g2):=(.mk λB δ=>by
 cases e1:`rY with
 | some r=>
  have q:`a6e=`rY:=`a6f
  apply `a6g;exact `H7 h1 `a6h
 | none=>
  have q:`a6e=`Qj:=`a6f
  apply `a6g;exact `H7 h2 `a6h)
def T20:`aN->`aj
 | []=>`d
 | p::K=>(match p.2.cls with
  | `cR n=>!(n == `eV)
  | _=>`d)&&T20 K
def Qk0:∀{K:`aN} {a:`f} {o:Obj},`aqS->`aeG->`a6i:=by
 intro z;induction z with
 | nil=>intro _ _ _ h;exact nomatch h
 | cons zp K ih=>
  let#[b,u]:=zp
  intro a o h e
  delta T20 at h;rw[`a?] at h;rw[`gP] at e;split at e
  ·cases e
   intro z;rw[z] at h;exact `K h.1 `E
  ·exact ih h.2 e
def script_at{a:`f}(hK:`aqS)(h:`sQ):SqL' K H `zZ a xs:=by
 skip;rcases h with h|⟨o,its,n,e,c,_⟩
 ·done;exact `n #[`D3,h]
 ·done;exact `K c (Qk0 hK e)
section
variable{σ:St}{s:`v}{Q:VK}{B:BS}{f:`f}
def Eg0{q:Key}(h:u30 ((rk `aB).zip xs) q=`aX):∃j:Nat,q=`aBe/\`aTk:=by
 delta u30 at h;let#[kv,h1,rfl]:=`HS;have hm:=L6 h1;have hk:`kL=q:=`s! (λkv:Key×V=>`a2a) h1;let#[j,hj,e]:=`zo hm;have hl:j<`aB:=by rw[`ru] at hj;omega
 refine#[j,?_,?_]
 ·rw[← hk,← e,`WE]
  delta rk;simp
 ·rw[← e,`WE,`fW hl]
def Fv0{k:Nat}{q:Key}(hr:`nA)(I:`B)(F:`a6j)(ry:`dw (kV q) u)(hv:u30 kvs q=`aX)(h:Q v H):
  `El `e2 [u]:=by
 skip;let#[oF,oC,oK,fd,c,cd,p,x,y,#[_,h1],#[h2,h3,p1,p2,p3,e1,e2,e3,e4,e5,e6,e7,e8,e9,a4,O,a2,Y,hb],#[_,h4],h5,#[_,h6],#[vs,t,h7,h8],h9]:=F;have o1:=(`bT f _ h1).1;have o2:=(`bT c _ h4).1;have o3:=(`bT cd _ h6).1;done;refine i8 (W.kla_callFunE hr.depth o1 h3 e2 e3 e1 #[cd,oK,vs,t,e9,o3,h7,h8] ?_);rw[hb];refine A5 (`aUT e7 (λz hz=>`k (`eb hz) e5) (λh₁ a1 Z=>#[I.nolimit.fresh _ Z,?_]) e4);have J:∀b o,`gv->`T0:=`hZ (Z.extBut b o `SL `Hb)
 have I1:∀t',`aW H ((`fC h₁ t')):=λt'=>I.un (`Gs J) (`aOS J)
 refine W.kla_codeExpr ?_;skip;have hu:(X.A.deeper (`a6k)).units+1<`i1:=by
  have:=hr.un;show `Bo+3+1<`i1;lia
 have hc:(`a6k).cells.lookup x=`eX:=by
  show fd.closure.lookup x=`eX;rw[e8];simp
 rcases h9 with⟨_,h9⟩|⟨xs,h9,rfl⟩
 ·have g:DGet H p (kV q) `rn:=`bk hv (`acv h9)
  done;refine Yw0 `aZO (`qy) `a6l;refine `a6m [(y,u)] `bS (ch0 (I1 _) g);exact Xy0 hu (I1 _) g ry λw' s' I' M=>#[v,H,I',M,h]
 ·let#[j,rfl,hj]:=Eg0 hv
  apply `G5;let#[its,r,ht,hz]:=(I1 `b?).list h9.to;let#[w',ew,M]:=`nB hj;done;refine Yw0 `G6 (`qy) `a6l;refine `a6m [(y,`a6n)] (`c (`a6n)) `TG;have hl:=`a2;have a3:=`aqE;have hn:=k80;exact wpAny_getItem_list `TH `l `l (`air `cF ew) #[v,H,I1 _,M,h]
def FnAtH.at(I:`B)(F:`a6j):W.FnAt f `aY:=by
 skip;let#[oF,oC,oK,fd,c,cd,p,x,y,#[_,h1],#[h2,h3,_],_]:=F;have o1:=(`bT f _ h1).1;let#[a,b,d,e]:=oF;obtain rfl:d=`afd:=h3;done;exact#[a,b,fd,e,o1]
omit z
def tCL(K:`C)(ta tb:TE):TE:=`db ta λv H1=>∃f B kvs,v=`uM/\`sq K H1 B f kvs/\tb σ H1 λy H2=>∃B2 kvs2 q w,`sq K H2 B2 f kvs2/\`aDx kvs2
section
variable{p:Pos}{k:Nat}{ga:`cA}
def Hc0(hr:`nA)(ha:PE X `vg ta)(hb:PE X e tb)(he:`d')(hpl:`ga):
  PE X `apY (tCL X.K ta tb):=by
 apply `a';apply `p7 F0 λfv s1 hq155=>?_;skip;let#[v,H1,I1,rv,f,B,kvs,ev,F,h1]:=hq155;subst ev;cases (show fv=`e1 f from rv);done;refine W.callWith_F (F.at I1) (thn (vv0 hb t00 he pos `z s1 σ H1 (λvs H2=>∃y,vs=[y]/\`aqT) I1 (by
  show tb σ H1 (`a6o _);have:(λy H2=>`aqT)=`a6o (∃y,`tV=[y]/\`aqT):=by
   funext x H1
   delta Yb0;simp
  rw[← `w];exact h1)) λus s2 #[vs,H2,I2,r2,y,ey,B2,J,q,w,F2,eq,hv,hQ]=>#[F2.at I2,?_]) he hpl
 subst ey eq;cases r2 with
 | cons ry rn=>
  cases rn;exact Fv0 hr I2 F2 ry hv hQ
open B
def uy0:`bA
 | `qp,d=>`U2 `aoN
 | _,_=>`g
def U6(hr:`nA)(ha:PD X `vg ga)(hb:PD X e gb)(he:`d')(hpl:`ga):
  `lX `apY uy0:=(.mk λB δ=>(Hc0 hr `bK `fl he hpl).imp fun σ H Q hq156=>by
 skip;apply `bo hq156
 delta o2 at h;cases e1:`dO with
 | none=>rw[e1] at h;cases h
 | some x=>
  cases e2:`d4 with
  | none=>apply `ce;cases h
  | some y=>
   apply `ce;apply `dQ;done;refine#[x,en,e1,`DX];cases x<;>simp only[uy0] at h<;>try cases h
   skip;apply `zQ;cases e3:uk0 y with
   | none=>rw[e3] at h;cases h
   | some q=>
    rw[e3] at h;apply `dQ;rw[Vr0] at r1;let#[f,xs,rfl,F,l,rr]:=r1;done;refine#[f,B,_,rfl,F,y,`hc,e2,`w1];let#[w,hw,J]:=(uj0 (ks:=ks) (q:=q) (`a4R)).1 d h;exact#[B,_,q,w,F.mono `UM,`ap7,hw,k w H2 `kR J])
omit z
def O20{c cv:`A}:∀l:`am,`ajQ l->`yq pos (l++[`px pos'.line,`px pos'.col,c])=`ajS->`yq pos l=`ajS∨cv=c:=by
 intro l h
 fun_induction `ajQ l with
 | case1=>
  intro e;simp only[`c',`yq,`px] at e;split at e
  ·exact `u (B4 e).symm
  ·cases e
 | case2 a t b u x rest ih=>
  intro e;simp only[`jh,`yq] at e ⊢;split at e
  ·rename_i hc
   rw[`am6];exact `qb
  ·rename_i hc
   rw[`y5];exact ih h e
 | case3 l h1 h2=>exact `rR
structure LamDone(X:Cx)(H:Hp)(s:`v)(x y:Str)(c p:`f)(f cd:`f)(oF oC oK:Obj)(fd:`f0)(H2:Hp)(s':`v):Prop where
 os:`akH
 gens:s'.gens=`sP
 same:`cP H H2
 hok:`mX H2 `nd
 new:∀b,`dp->H2 b≠`g->b=c∨`L<=b
 keep:∀b o,`dp->`gv->`a6p
 there:∀b o,`gv->∃o',`EY b=`aea
 hf:H2 f=`aV0
 fn:`aV1
 hc:`a6q
 cell:`ant
 hcd:H2 cd=`aV3
 code:`aV4
section
variable{σ:St}{s:`v}{Pt c f:`f}{tp:`aO}{oF:Obj}
def Np0(I:`B)(hT:`a6r)(kp:`a6s Pt `aY h')(h1:`cP H H1)(hc:H1 c=`g)(hf:H1 f=`g)(ne:f≠c)(eC:`fQ c=`c oC)(eF:`fQ f=`c oF)
  (new:∀b u,`dp->H1 b=`bS->∃o,u=`fT o (`go b)/\`mz) (tab:`OD H1 h' Pt (qOf tp)):
  `cP H `aqU/\`mX `aqU h':=by
 have up:`cP H1 `aqU:=(yw0 hc).trans (yw0 (`k (zi0 ne) hf));refine#[`aBN up,λb u q=>?_]
 by_cases bf:b=f
 ·subst bf
  rw[yb0] at q;cases q;exact#[eF,_,eF]
 rw[zi0 bf] at q
 apply `z_
 ·subst bc
  rw[yb0] at q;cases q;exact#[eC,_,eC]
 rw[`WF] at q;cases e:H b with
 | none=>
  let#[o,rfl,eo]:=new b u e q;exact#[eo,_,eo]
 | some w=>
  have q2:=h1 b w e;rw[q] at q2;cases q2
  by_cases bT:b=Pt
  ·subst bT
   rw[hT] at e;cases e;let#[cont,t1,t2,t3]:=tab;exact#[cont,t1,t2,λpos cv z=>`aN7 (t3 pos cv z) (up _ _ z2)]
  ·exact`aKJ (λb' w J r=>kp b' w (by
    rcases J with rfl|J
    ·exact bT
    ·rintro rfl
     rw[hT] at J;cases J) r) (λb' z=>`aqV) (λb' xs z=>`aqV) λb' ob u' z=>`aqV
omit z
section
variable{σ:St}{s:`v}{lp:`Tj}{p1:Pos}{Pt c p:`f}{tp:`aO}
def yf1(I:`B)(hN:`mg)(hs:`Bv=`c `Dn)(hk:`akg)(hkl:`uV=`ib)(hc:`h9)(hcl:`a6t)
  (hdef:`a6u) (hcode:`a6v) (C:`a6w) (hB:`a6x) (hT:`a6r) (hq:qOf tp=`aCx)
  (hfd:∀pm ctv cd,`a6y):
  `OI (`aH5) (λu s'=>∃f cd oF oC oK fd H2,u=`uM/\`a6z s'):=by
 refine W.kla_eval hdef ?_;skip;apply `akD;let#[u,r,l]:=hl i x _ hN hs (`u (`n hkl));cases (`lz (u=`e1 p));have a7:`akj c `Dn:=by
  skip;rcases l with⟨z,_⟩|⟨_,c',z1,z2⟩
  ·rw[hk] at z;cases z
  ·rw[hc] at z1
   cases z1;done;exact z2
 let#[oC,a6,b0]:=a7;let#[cont,e,t,cs]:=(show `OD H `aY Pt (qOf tp) from `bT Pt _ hT);have hg:=`adX;have O:=`SC;have b2:c≠Pt:=λz=>by rw[z,hT] at O;cases O
 have c4:`hP≠Pt:=λz=>by
  let#[o,es,ep,eo,_]:=I.mod.glob;have:=(I.bs _ _ eo).2;rw[z,hT] at this;cases `w
 have a5:c<`L:=B6 a6;cases hca:`yq lpos `ajR with
 | none=>
  done;refine W.kla_makeFunction hcl `aim hg hcode (C.keeps I.bk) e t hca c4 (hB.keeps I.bk) λc' ctv h' tk hx Z a2 b1 a3=>?_
  skip;let#[c2,oK,vs,tq,b3,c3,dK,vK]:=b1;cases b3;have a4:H c'=`g:=`oE Z;have J:∀b o,`mz->`Ib `a6A:=`a6B
  have M:`L<=`c!:=C3 Z (L8 a2);have a1:`a6C:=`oE M;have a8:c≠c':=B9 (C7 a5 Z);have Y:`c!≠c:=D0 (C7 a5 M);have kp:`a6s Pt `aY (`a6A):=λb o nb z=>J _ _ (hx b o nb z)
  let#[sm,ok]:=Np0 (H1:=upd H c' (`fT oK (`go c'))) (f:=`c!) I hT kp (yw0 a4) (`k (zi0 a8) O) (`ja (D0 a2) a1) Y (J _ _ (hx c oC b2 a6)) `Ii (λb u z1 z2=>by
   by_cases bc:b=c'
   ·subst bc
    rw[yb0] at z2;cases z2;exact#[oK,rfl,J _ _ c3]
   ·rw[`WF,z1] at z2
    cases z2) #[_,J _ _ a3,`k `a6D (TriplesOk_snoc _ _ _ _ t),λpos cv z=>by
    rw[`a6D] at z;rcases O20 _ t z with z|rfl
    ·skip;let#[c1,oc,ws,b6,z1,z2,z3]:=cs pos cv z
     done;exact#[c1,oc,ws,b6,z1,(yw0 a4).old _ _ z2,z3]
    ·exact#[c',oK,vs,tq,rfl,yb0,dK,`k hq vK]]
  done;refine#[`c!,c',_,oC,oK,_,_,rfl,#[rfl,rfl,sm,ok,`a6E,λb o z1 z2=>kp b o (λz=>by rw[z,hT] at z1;cases z1) z2,λb o z=>?_,yb0,`a6F,?_,b0,?_,vs,tq,dK,vK]]
  ·by_cases bf:b=`c!
   ·exact `a6G
   ·rw[zi0 bf] at z2
    apply `z_
    ·exact `n bc
    ·rw[`WF] at z2
     by_cases bc':b=c'
     ·exact `u (`k bc' Z)
     ·rw[zi0 bc'] at z2
      exact `a6H
  ·by_cases bT:b=Pt
   ·subst bT
    exact#[_,J _ _ a3]
   ·exact#[o,kp b o bT z]
  ·rw[`a6I,yb0]
  ·rw[zi0 (B9 a2),zi0 (C1 a8),yb0]
 | some cv=>
  let#[cd,oK,vs,tq,rfl,hcd,dK,vK]:=cs _ _ hca;done;refine W.kla_makeFunctionHit hcl `aim hg hcode (C.keeps I.bk) e t hca (hB.keeps I.bk) λctv h' tk b4 M=>?_
  have a1:`a6C:=`oE M;have J:∀b o,`mz->`Ib (`xu (`e? `BD (`ry (`aHJ `aHK)))):=`a6B
  have kp:∀b o,`gv->_:=λb o z=>J _ _ (b4 b o z)
  have Y:`c!≠c:=D0 (C7 a5 M);have b7:cd≠c:=λz=>by rw[z,O] at hcd;cases hcd
  have b5:cd≠`c!:=λz=>by rw[z,a1] at hcd;cases hcd
  let#[sm,ok]:=Np0 (H1:=H) (f:=`c!) I hT (λb o _ z=>kp b o z) `q6 O a1 Y (kp c oC a6) `Ii (λb u z1 z2=>by rw[z1] at z2;cases z2) #[cont,kp _ _ e,t,cs];refine#[`c!,cd,_,oC,oK,_,_,rfl,#[rfl,rfl,sm,ok,`a6E,λb o _ z2=>kp b o z2,λb o z=>#[o,kp b o z],yb0,`a6F,?_,b0,?_,vs,tq,dK,by rw[hq] at vK;exact vK]]
  ·by_cases bf:b=`c!
   ·exact `a6G
   ·rw[zi0 bf] at z2
    apply `z_
    ·exact `n bc
    ·rw[`WF] at z2
     exact `a6H
  ·rw[`a6I,yb0]
  ·rw[zi0 b5,zi0 b7]
   exact hcd
omit z
def TQ(H:Hp)(Pt:`f)(q:Str):Prop:=∃t ps,H Pt=`c (.tbl `a6J)
def Eu0(q:Str)(t:Tok)(ps:`aO):qOf `a6J=q:=by
 have:((⟨`w0 q t⟩++ps)[0]?:`iR)=`c (`p q t):=by
  rw[Array.getElem?_append_left `az];rfl
 delta qOf;rw[`w]
def spT(Pt:`f)(q:Str)(sp:Sp):Sp:=λvs H Q E=>`aqW/\`v3
structure FunL(K:`C)(x qual:Str)(st:`a0)(f:`f)(fd:`f0)(c0:`f):Prop where
 ex:∃(oc:`A) (od:`cY) (kV doc pm:`A) (an:`cY) (ct:`A) (osl:`hz),
  fd=`Ca `fK `a8 `WG/\`aF7/\`rJ K `WG `fK=`d
section
variable{P:`av}{w:`T}
def Env.sh_at{B:BS}{σ:St}{δ:Ds}(e:`bB){d:D}(h:`anJ):∃o,`Bv=`aF/\`aWx:=by
 let#[o,ho,r]:=`anK;exact#[o,ho,r]
omit z
omit DL
namespace L2
open Spec PyProof.Rows DL
def Nv0{P:`av}{w:`T}{K:`C}{mg mb:`cd}{CX:CXT}{k:Nat}{fa a Pt c0:`f}{fd:`f0}{x q:Str}{sp:Sp}{s₁:`v}{vs:`am}{ns:`ai}
  (KX:K.In `o0) (hns:`aqX `hP mg) (hb:`aqX `akd mb) (hbb:`aOl) (hlim:s₁.heap.NoLimit) (hg:`a4K)
  (ha:`a4I) (hi:`G') (hl:`aRq) (hr:`a6K)
  (hP:`Dz Pt=`c (`e? `a8 (`mF ⟨⟩))) (hKP:`hq Pt=`g) (C:`Dy `o0 c0 Pt) (hB:`a6L)
  (F:∀base:`aa,`akc->`Sn->`aqY->`WH->`me P w K mg `aJ CX k fa fd [x] (spT Pt q sp)) (hbind:`a6M)
  (hsp:∀H:Hp,`a6N->sp `gH H `aqZ `xw)
  (hCX:∀H e s',`a6O `gF):
  `a6P:=by
 have rv:=Xd0 hi;have a4:=hi.length;have a7:a≠Pt:=λz=>by rw[z,hP] at ha;cases ha
 have Y:∀H0:Hp,(∀b,H0 b=`g∨(b=a/\`hq a=`g/\∃o xs,H0 b=`NK/\`Dz a=`aF/\`g7 P w H0 `o0 a `kJ))->SqL K (`a6Q) a `xv ->
   `a6P:=by
  intro H0 hO hS;obtain⟨H,eH⟩:∃H,H=`a6Q:=`al;rw[← eH] at hS;have hT:H Pt=`c `aHM:=`yM eH
  have none_of:∀{b:`f} {o:Obj},`aq_->`rv≠`a8->`a6i->`dp:=λ{b o} e n1 n2=>by
   have h1:`WI:=λz=>by rw[z,hP] at e;cases e;exact n1 rfl
   rw[eH,zi0 h1];apply `a6R
   ·exact z
   ·rw[ha] at e;cases e;exact `K rfl n2
  have O:∀{b:`f} {o:Obj},`hq b=`aF->`dp:=λ{b o} e=>by
   have h1:`WI:=λz=>by rw[z,hKP] at e;cases e
   rw[eH,zi0 h1];rcases hO b with z|⟨rfl,z,_⟩
   ·exact z
   ·rw[z] at e;cases e
  have a1:∀{b:`f} {o:Obj} {es:`aq0} {ep:Nat},`aq_->`ajY->`dp:=λ{b o es ep} e d=>by
   have h1:`WI:=λz=>by rw[z,hP] at e;cases e;cases d
   rw[eH,zi0 h1];apply `a6R
   ·exact z
   ·rw[ha] at e;cases e
    have d':Data.seq `rM _=Data.dict es ep:=d;cases d'
  have J:∀{b:`f} {m:`cd},`aqX b m->(`ab4).Ns b m:=λ{b m} #[o,es,ep,e,d,r]=>#[o,es,ep,gg0 e (a1 e d),d,r]
  have a3:K.In `WJ:=`hZ (gg0 (KX b o e) (O e))
  have hM:Mod K mg `WJ:=#[a3,J hns,#[mb,J hb,hbb],let #[mc,h1,h2]:=hlim;#[mc,J h1,h2]];have hok:HOk P w H `o0:=λb u e=>by
   by_cases hbP:b=Pt
   ·subst hbP
    rw[hT] at e;cases e;exact#[⟨⟩,hP,`sl,λpos cv z=>by cases z]
   ·skip;rw[eH,zi0 hbP] at e
    rcases hO b with z|⟨rfl,_,o,xs,z,z2,z3⟩
    ·rw[z] at e;cases e
    ·rw[z] at e
     cases e;done;exact#[z2,z3]
  have Cb:`Dy `WJ c0 Pt:=by
   skip;let#[o,ws,a5,tf,a2,tg,a6,text,tt,e1,e2,r]:=C;done;exact#[o,ws,a5,tf,a2,tg,a6,text,tt,gg0 e1 (`a6S e1 e2 e2),e2,r]
  have Bb:(`ab4).BuiltinsAt mg Pt:=by
   skip;let#[bm,o,b1,b2,b3,b4,b5,b6,b7]:=hB;done;exact#[bm,o,b1,b2,b3,b4,gg0 b5 (`a6S b5 b6 b6),b6,b7]
  have e0:Env0 P w K mg `WJ `OV [] `gF H:=#[rfl,hM,`hZ (Bk0 e),K2 (Nr0 _ _),`sl,λb hb=>`ra `al! hb `az,hok,.of_eq hg];refine P6 ((F _ a3 (J hns) Cb Bb).run `OV [] `gF H `aES `gH `gH _ _ hr e0 (hbind `gF `ci) (`aE rfl `ah) #[#[0,⟨⟩,`ax hT],hsp H hS]) λr s' h=>?_
  skip;cases r with
  | error e=>done;exact(hCX H e s' h).elim
  | ok fl=>
   cases fl with
   | next=>done;exact `fM h
   | brk=>done;exact `fM h
   | cont=>done;exact `fM h
   | ret u=>
    let#[v,H',os,bare,un,Z,r',qv]:=h;have q':v=`n':=qv;subst q';obtain rfl:u=`Wa:=r';have M:∃cont,`EY Pt=`aNS:=by
     let#[more,e]:=`aq1 Pt _ hT;let#[cont,e1,_]:=(show `OD H' `nd Pt _ from Z Pt _ e);exact#[cont,e1]
    have kept:∀b o,`WI->`aq_->`a6p:=λb o nb e=>by
     skip;cases z:H b with
     | none=>done;exact `aq2 b o e z (by intro y;exact `ra `al! y `az) `az
     | some u=>
      have z':=z;rw[eH,zi0 nb] at z';rcases hO b with y|⟨rfl,_,ob,xs,y,y2,_⟩
      ·rw[y] at z';cases z'
      ·rw[y] at z'
       cases z';let#[e2,_]:=Z _ _ (`WK _ _ _ z);rw[e] at y2;cases y2;done;exact e2
    done;refine#[rfl,#[`HP,`HP],os,bare]
    ·by_cases nb:b=Pt
     ·subst nb
      rw[hP] at e;cases e;let#[cont,e1]:=M;apply `nC #[(C.tab hP).isCodeTable,rfl,⟨⟩,cont,rfl,`k `a0e e1]
     ·exact `n (`a6T)
    ·by_cases nb:b=Pt
     ·subst nb
      let#[cont,e1]:=M;exact`aRF
     ·exact#[o,`a6T]
 cases hk:`hq a with
 | some o=>
  have e:=KX a o hk;rw[ha] at e;cases e;exact Y (`yL) (λ_=>`mi) (`u #[_,`rM,_,hk,rfl,rfl,rfl,`ii `cm a4 hl,`aPR])
 | none=>
  refine Y (λb=>`bL (b=a) (`fT `PW (`m `xv))) (λb=>?_) (`n (`u #[`PW,`k (zi0 a7) `a4]))
  apply `tL
  ·exact `u #[hb,hk,_,_,`l_,ha,`k `x hl,vs,_,rv,ha]
  ·exact `n (`l0)
omit L2
open X
section
variable{σ:St}{s:`v}{q:Str}{p:Pos}{Pt:`f}
def wq1(I:`B)(h:TQ `O9 Pt q):`aqW:=by
 let#[t,ps,e]:=h;let#[more,e']:=`aeD Pt _ e;exact#[t,ps++more,by rw[e',`aOI]]
omit z
def yr1:∀z∈[(y,NameKind.local),(x,`Nd)],`aVY:=(λz hz=>by
 rcases `bF hz with rfl|hz
 ·exact λq=>nomatch q
 ·rw[`eb hz]
  exact λq=>nomatch q)
def I80(h:lsc.names=[(y,`aal),`T2])(env:`aH6)(c:`f)(hc:`aOm):`PZ lsc env=`aHI:=by
 delta closureFor;rw[h];simp[cellOf,hc]
omit DL
open Y
def SubO.ho:`dW->HO
 | `dx=>`dx
 | `vs=>`vs
 | `ms=>`ms
def SubO.no_own(o:`dW)(x:`f):o.ho≠`go x:=by apply `WL
def SubO.no_tup(o:`dW)(xs:`P):o.ho≠`fI:=by apply `WL
def SubO.no_frz(o:`dW)(ob:Obj)(u:HO):o.ho≠`aCR:=by apply `WL
def SubO.no_tbl(o:`dW)(ps:`aO):o.ho≠`acs:=by apply `WL
def q10:∀{l:`nx} {k:`f} {v:`dW},l.lookup k=`aX->(k,v)∈l:=by
 intro z;induction z with
 | nil=>intro _ _ h;cases h
 | cons zp l ih=>
  let#[k',v']:=zp
  intro k v h
  rw[`gP] at h;cases q:k==k' with
  | true=>
   rw[q] at h;cases h;rw[`yW q];exact A8
  | false=>
   rw[q] at h;exact `aq3
def opened(H:Hp)(sub:`nx):Hp:=λb=>match `lq with
 | `aF=>`c o.ho
 | `g=>H b
def closed(H:Hp)(a:`f)(sub:`nx):Hp:=λb=>if b=a then `Iq else match `lq with
 | `Sj=>`oG
 | `g=>H b
section
variable{P:`av}{w:`T}{h:`aa}{a:`f}{sub:`nx}
def HOk.opened(x:`fo)(ha:H a=`Iq)(hin:`WM)(hdx:`a6U):HOk P w (L2.opened H sub) h:=(λb u e=>by
 skip;obtain⟨_,all⟩:(`Sh)/\∀p∈sub,`aNY:=x a _ ha;delta L2.opened at e;cases l:`lq with
 | some o=>
  rw[l] at e;have e:=B4 e;subst e;have m:=q10 l;let#[_,q]:=all _ m;cases o with
  | lst xs=>done;exact q
  | dK kvs=>done;exact q
  | ins C dx fs=>
   let#[rfl,d,z,ne,e,r]:=q;done;refine#[?_,z,ne,e,r];apply `Ir;rw[hdx _ C dx fs m];exact d
 | none=>
  rw[l] at e;have J:`ps:=λz=>by rw[z] at l;rw[l] at hin;cases hin
  done;refine`aj3 (`tw) (λc q=>?_) (λc xs q=>?_) λc ob u' q=>?_
  ·apply `Ir
   cases lc:`uc with
   | none=>exact q
   | some o=>
    apply `aq4
    ·have z:c=a:=z
     rw[z,ha] at q;cases q
    ·have z:`aq5:=z
     rw[z] at q;cases q;exact `K rfl J
  ·apply `Ir
   cases lc:`uc with
   | none=>exact q
   | some o=>
    apply `aq4
    ·have z:c=a:=z
     rw[z,ha] at q;cases q
    ·have z:`aq5:=z
     rw[z] at q;cases q
  ·apply `Ir
   cases lc:`uc with
   | none=>exact q
   | some o=>
    apply `aq4
    ·have z:c=a:=z
     rw[z,ha] at q;cases q
    ·have z:`aq5:=z
     rw[z] at q;cases q)
def SubO.there{b:`f}(o:`dW)(x:`g7 P w H h b o.ho):∃ob,`aOe:=by
 skip;cases o with
 | lst xs=>let#[_,_,_,_,e]:=x;done;exact`aq6
 | dK kvs=>let#[_,_,_,_,_,_,_,e,_]:=x;done;exact`aq6
 | ins C dx fs=>let#[_,_,_,e,_]:=x;done;exact`aq6
def HOk.closed(x:`fo)(ha:`WM)(hs:∀p∈sub,`a6V)(hi:∀p∈sub,`a6W):HOk P w (`NX H a sub) h:=(λb u e=>by
 have J:∀{c:`f} {o:`dW},`uc=`aF->H c=`c o.ho:=λl=>hs _ `agi
 have own:∀c y,H c=`aj7->`aq7=`aj7:=λc y q=>by
  apply `Is;have hc:c≠a:=λz=>by
   cases l:`v' with
   | none=>rw[l] at ha;cases ha
   | some o=>rw[z,J l] at q;exact `a6X o y `z0
  rw[`y5];cases l:`uc with
  | none=>exact q
  | some o=>rw[J l] at q;exact `K `z0 (`a6X o y)
 have tup:∀c xs,H c=`i?->`aq7=`i?:=λc xs q=>by
  apply `Is;have hc:c≠a:=λz=>by
   cases l:`v' with
   | none=>rw[l] at ha;cases ha
   | some o=>rw[z,J l] at q;exact `aq8 o xs `z0
  rw[`y5];cases l:`uc with
  | none=>exact q
  | some o=>rw[J l] at q;exact `K `z0 (`aq8 o xs)
 have frz:∀c ob u',H c=`aj9->`aq7=`aj9:=λc ob u' q=>by
  apply `Is;have hc:c≠a:=λz=>by
   cases l:`v' with
   | none=>rw[l] at ha;cases ha
   | some o=>rw[z,J l] at q;exact `a6Y o ob u' `z0
  rw[`y5];cases l:`uc with
  | none=>exact q
  | some o=>rw[J l] at q;exact `K `z0 (`a6Y o ob u')
 apply `tL
 ·subst hb
  have e:`NX H b sub b=`bS:=e;delta L2.closed at e;rw[`a4] at e;have e:=B4 e;subst e;refine#[?_,λp hp=>`am?]
  ·cases l:`lq with
   | none=>rw[l] at ha;cases ha
   | some o=>exact `a6Z
  ·by_cases z:p.1=b
   ·exact `hd
   ·refine `u ?_
    apply `Is;rw[`qu];cases l:`Bs p.1 with
    | none=>
     exact `K l (by
      intro l;rw[List.lookup_eq_none_iff] at l;have:=l p hp;simp at this)
    | some o=>rfl
  ·skip;have q:=x p.1 _ (hs p hp)
   let#[pa,po]:=p;cases po with
   | lst xs=>done;exact q
   | dK kvs=>done;exact q
   | ins C dx fs=>
    have M:pa=b:=hi _ hp C dx fs rfl;subst M;let#[d,z,ne,e,r]:=q;done;exact#[rfl,own _ _ d,z,ne,e,r]
 ·have e:`a6_=`bS:=e
  delta L2.closed at e;rw[`l0] at e;cases l:`lq with
  | some o=>
   rw[l] at e;have e:=B4 e;subst e;exact `a6Z
  | none=>
   rw[l] at e;exact`aj3 (`tw) (λc q=>own c b q) (λc xs q=>tup c xs q) λc ob u' q=>frz c ob u' q)
omit z
section
variable{σ:St}{s:`v}
def Inv.view(I:`B)(no:∀b,`aOA)(tp:`Go)(fz:`aj!)(tb:∀b ps,H b=`aez->`hY=`aez)
  (hok:`mX H' `aY):`aW H' s:=(
 #[I.ok,I.os,`k4,#[`ah7,`acP,λb o e n hx=>no b `Su,`aBy,`aOF tp,λb o u e=>fz b o u (`aeE b o u e),λb ps e=>let #[m,q]:=`aOH;#[m,tb _ _ q]],
  `jl,`r!,no _ `k5,λx c e=>no _ `aeC,λp hp=>let #[e,n,r]:=`acQ;#[e,no _ n,r],hok,`hm])
omit z
structure OpenOk(H:Hp)(a:`f)(sub:`nx):Prop where
 at':H a=`Iq
 root:`WM
 dx:`a6U
structure CloseOk(H:Hp)(a:`f)(sub:`nx):Prop where
 root:`WM
 at':∀p∈sub,`a6V
 ins:∀p∈sub,`a6W
section
variable{σ:St}{s:`v}{a:`f}{sub:`nx}
def Inv.opened(I:`B)(o:`a60):`aW `a61 s:=by
 apply `aq9 sub o.at';have no:∀{b:`f} {so:`dW},`lq=`BC->H b=`Iq∨`Nj:=λ{b so} l=>by
  rcases (all _ `agi).1 with z|z
  ·have z:b=a:=z
   rw[z];exact `n o.at'
  ·exact `u z
 have other:∀b u,H b=u->u≠`Iq->u≠`oG->L2.opened H sub b=u:=λb u q n1 n2=>by
  apply `Ir;cases l:`lq with
  | none=>exact q
  | some so=>
   rcases no l with z|z
   ·exact `K (`PY z) n1
   ·exact `K (`PY z) n2
 exact I.view (λb q=>`WN) (`yr `WN) (λb o u q=>`WN) (λb ps q=>`WN) (I.hok.opened o.at' o.root o.dx)
def Inv.closed(I:`B)(c:`sr):`aW `ss s:=by
 have other:∀b u,H b=u->(`a62)->`a6_=u:=λb u q n=>by
  apply `a63
  apply `Is;have hb:`ps:=λz=>by
   cases l:`v' with
   | none=>have:=`WO;apply `ay l;cases `w
   | some so=>exact `a64
  rw[`l0];cases l:`lq with
  | none=>exact q
  | some so=>exact `a65
 exact I.view (λb q=>`CQ b _ q λso z=>nomatch z) (`yr (`CQ b _ q `a66)) (λb o u q=>`CQ b _ q `a67) (λb ps q=>`CQ b _ q `a68) (I.hok.closed `WO c.at' c.ins)
omit z
def Ends.closing(a:`f)(D:Ends):Ends where
 nx:=`aq' `jj
 bk:=`aq' D.bk
 ct:=`aq' D.ct
 rt:=λv H=>∃sub,`sr/\D.rt v `ss
section
variable{st:`d8}{t:TS}
def SP.closing{a:`f}{D:Ends}{f:Flow}(h:SP X `z `a69 f s'):`aPF:=by
 skip;cases f with
 | next=>apply `aq!;done;apply `aq?
 | brk=>apply `aq!;done;apply `aq?
 | cont=>apply `aq!;done;apply `aq?
 | ret u=>let#[v,σ',H',I,r,sub,c,k]:=h;done;exact#[v,σ',_,`Rr,r,k]
def bf0(h:`eS):PE X e (`ir (∃a sub,`sr/\te σ `ss λv H'=>∃sub',`P0 H' a sub'/\Q v (`i8 H' sub'))):=(λpins s σ H Q I #[a,sub,c,q]=>
 thn (h `z s σ _ _ (`Rr) q) λu s' z9=>by skip;let#[v,H',I',r,sub',o,k]:=z9;done;exact`aHQ)
omit z
omit L2
open X
def o8(p:`f)(b:D):D:=`t [`a6',b]
def ej0{B:BS}{p a:`f}{b:D}:RpL K H B (o8 p b) a↔a=p/\`KQ b:=by
 constructor
 ·rintro (⟨d',e,h⟩|⟨ks,vs,e,_⟩|⟨x,ns,e,_⟩)
  ·cases e
   exact#[rfl,h]
  ·cases e
  ·cases e
 ·rintro⟨rfl,h⟩
  exact `n #[b,rfl,h]
def RpG.less{B:BS}{d:D}{a:`f}(l:`EJ)(h:`nF):RpG K H B' d a:=(RpG.mono (λ_ e=>e) (`pe l) h)
inductive ResB where
 | nx (δ:Ds)|rt (d:D) (δ:Ds)
abbrev GSB:=Ds->`It
def xq1(K:`C)(H₀:Hp)(B₀:BS)(D:Ends):ResB->Prop
 | `aaS=>`aW_
 | .rt d δ=>∀v σ H,`VB->D.rt v H
variable{Ga Gb:DL.GSB}
def tDB(K:`C)(H₀:Hp)(B₀:BS)(δ:Ds)(G:GSB):TS:=`iw (`aW0 xq1)
structure PSB(X:Cx)(st:`a0)(G:GSB):Prop where
 mk::go:`sW PS st `a6!
structure PSsB(X:Cx)(st:`d8)(G:GSB):Prop where
 mk::go:`sW PSs st `a6!
def xl0(G:GS):GSB:=fun δ=>match G δ with
 | `fV=>`fV
 | _=>`g
def nilB:GSB:=`aVq
def z80(G1 G2:GSB):GSB:=fun δ=>match `o' with
 | `fV=>`He
 | r=>r
open A
def vp0(gx:GX):GSB:=`HX `aoK (.rt r.1 r.2)
def ifB(gt:GB)(Ga Gb:GSB):GSB:=`aVr
section
variable{c:`G}{st:`a0}{as bs:`d8}{G:GS}{G1 G2:GSB}{gt:GB}
open T in
def za0(h:`an_):PSB X st (xl0 G):=(.mk λH₀ B₀ δ pins s σ H D I hq157=>by
 apply `zg hq157
 delta xl0 at e;split at e
 ·rename_i δ' e1
  cases e;exact `afr h.go `aE8
 ·cases e)
def W6:`lr X [] `ad:=(.mk λH₀ B₀ δ pins s σ H D I hq158=>by
 apply `zg hq158
 cases e;apply `aW6)
def Z0(h1:PSB X st G1)(h2:`lr X `bG G2):`lr X (st::`bG) (z80 G1 G2):=(.mk λH₀ B₀ δ pins s σ H D I hq159=>by
 skip;apply `zg hq159
 delta z80 at e;cases e1:`o' with
 | none=>rw[e1] at e;cases e
 | some r1=>
  rw[e1] at e;cases r1 with
  | nx δ'=>done;exact `aW7 `a6? h2.go
  | rt d δ'=>cases e;done;exact `aJ3 `a6?)
def Q9(h:`zC):PSB X `abh (vp0 gx):=(.mk λH₀ B₀ δ pins s σ H D I hq160=>by
 apply `bC hq160
 delta vp0 at e1;cases e2:`k9 with
 | none=>apply `as;cases e1
 | some q=>
  apply `as;cases e1;exact `HD `DB (`xC λv H' ev=>k v σ H' ev))
def zl0(hc:`Hw)(ha:`a7a)(hb:`a7b):`an1 PSB ifB:=(.mk λH₀ B₀ δ pins s σ H D I hq161=>by
 skip;apply `bC hq161
 delta ifB at e1;apply `bl;cases e2:`hw with
 | none=>apply `as;cases e1
 | some t=>
  apply `as;done;refine Nf0 `UD `aH7 `a7c `z s σ H D I `aXa;cases t with
  | true=>apply `UI
  | false=>apply `UI)
omit z
def spB(K:`C)(j:Nat)(f:`bX):Sp:=λvs H Q _=>∃(B:BS) (ds:`i) (us:`P) (p:`f) (b b' r:D),`Ev/\B p/\vs=`a7d/\`ara/\`a7e/\`a7f/\`a7g /\
 ∀v H',`WA->RpG K H' B b' p->Rp K H' B r v->`vC
def s60(N:`e)(j:Nat)(p:`f)(b:D)(ds:`i):Ds:=`a7h .sh++`oC b::(`a7i .sh++`cr (`yU - (`Ln)) .un)
def fs0{N:`e}{p:`f}{b:D}{d:D}(hj:`ara)(h:`wD[i]?=`sD):i=j/\d=o8 p b:=by
 delta s60 at h;have hl:(`o (`a7h `Fg))=j:=`WP
 have J:∀(l:`i) (i:Nat),(`aH `Fg)[i]?≠`sD:=λl i z=>by
  rw[`cH] at z;cases q:`LN with
  | none=>rw[q] at z;cases z
  | some x=>rw[q] at z;cases z
 by_cases hi:i<j
 ·rw[`h' (`k hl hi)] at h
  exact `a7j
 ·rw[`vp (`d1 hl),hl] at h
  cases q:i - j with
  | zero=>rw[q] at h;cases h;exact#[`U,rfl]
  | succ n=>
   rw[q,`Iu] at h
   by_cases hn:n<(`a7i `Fg).length
   ·rw[`h' hn] at h
    exact `a7j
   ·rw[`Iv,`tW] at h
    apply `aom
def EndB(G:GSB)(δ:Ds)(j:Nat)(p:`f)(r b':D):Prop:=(∃δ',G δ=`a7k/\`ahj)∨(r=`y/\∃δ',`arb/\`ahj)
def Pl0{B:BS}{N:`e}{us:`P}{p:`f}{b:D}(hb:`vD)(hp:B p)(hj:`ara)(rs:`a7e)(ro:`a7f):`uO K `WQ `a7l H (`abi N (`a7d)) `wD:=by
 have sm:`cP `WQ H:=#[λb o e=>by
  by_cases z:b=p
  ·simp only[z,`qd] at e;cases e
  ·simp only[z,`mw] at e;exact e,λb o xs e=>by
  by_cases z:b=p
  ·exfalso
   rw[z] at e;exact `aGO o xs e
  ·apply `tX z;exact e]
 have J:(`o (`P3 j))=j:=`hg `fb `abB
 refine#[sm,#[B,λ_ z=>z.1,`ll,#[?_,hb,λi j a M es h1 h2 _ _=>?_]],λi M a h1 h2=>?_,`ll]
 ·by_cases q:a=p
  ·exact `u (by simp only[q,`qd])
  ·exact `aph
 ·delta L2.start s60
  rw[`au,`J,`be,`jh,`S,`ae,`fb,`pV,`abB];refine `vo (ri0 (N:=N) (rs.take j)) (`aE #[p,rfl,hp,ej0.mpr #[rfl,ro]] (`vo (ri0 (N:=N) (rs.drop j)) ?_));rw[`aZ (min j `b2+(`b2 - j+1)=`Ln)];exact mg0 _
 ·rw[(fs0 hj h1).1,(fs0 hj h2).1]
 ·let#[rfl,_]:=fs0 hj h1
  have:(`abi N (`P3 i++`g0::`agk i))[i]?=`c `Dn:=by
   delta L2.start;rw[`au,`be,`vp `em,`x,J,`pC];rfl
  rw[`w] at h2;cases h2;apply `aM `qd
 ·apply `tX z.2
  exact hb a z.1
def Tx0{p:`f}(s':`cP `WQ H'):`WA:=(#[λb o z e=>s' b o (by apply `tX z;exact e),λb o xs z e=>by have:=s'.nf b o xs e;simpa only [z,`mw] using `w])
def X90{B:BS}{p:`f}(c1:∀a,`aHO->B' a)(hB:B' p)(x:`f)(z:B x):B' x:=by
 by_cases q:x=p
 ·rw[q];exact hB
 ·exact c1 x `aDj
section
variable{P:`av}{w:`T}
def okB{st:`a0}{N ps:`e}{k j:Nat}{f:`bX}{G:GSB}(F:`aon)(S:`qg)
  (body:`aBJ `lr)
  (hf:∀b ds r b',`a7g->`Ln=`V/\`arc):
  `bt `fZ ps (spB K j f):=by
 apply `HJ
 ·let#[B,ds,us,p,b,b',r,_,_,hv,_,hr,_,h,_]:=zQ;rw[hv,`S,`ae,`fb,`pV,hr.length]
  have:=(`a7m).1;lia
 ·let#[B,ds,us,p,b,b',r,hb,hp,hv,hj,rs,ro,h,q]:=zQ;subst hv
  refine#[_,(`dm cdv A `dK s H E hr).go `WQ `a7l `wD,?_];have en:=Pl0 (N:=N) hb hp hj rs ro;rcases (`a7m).2 p with⟨δ',e,e'⟩|⟨rn,δ',e,e'⟩
  ·refine#[_,en,e,λv σ' H' ev=>?_]
   apply `a7n;apply `a7o;let#[rfl,M]:=ej0.mp rl;have less:=X90 c1 hB;exact q v H' (Tx0 `ard) (M.less less) (`are (`pe less))
  ·refine#[_,en,e,`tt ?_]
   let#[B',c1,c2,J]:=en'.ex;apply `a7o;let#[rfl,M]:=ej0.mp rl;have less:=X90 c1 hB;exact q `y H' (Tx0 `aLP) (M.less less) (by rw[rn,wh0])
omit z
noncomputable def mkB(n:Nat)(N:`e)(j:Nat)(G:GSB)(b:D)(ds:`i):`az?:=(by classical exact if h:`z1/\`a7p then `c (Classical.choose h.2) else none)
def uz0{N:`e}{G:GSB}{b:D}{r:D}(h:`arf):`z1/\`arc:=by
 delta mkB at h;split at h
 ·rename_i hh
  have e:=B4 h;have:=B81 hh.2;apply `ay e;exact#[hh.1,`w]
 ·cases h
def EndB.one{G:GSB}{δ:Ds}{p:`f}{r b r':D}(h:EndB G δ j p r b)(h':EndB G δ j p r' b'):r=r'/\b=b':=by
 have lb:∀{δ1:Ds},δ1[j]?=`c (`oC b)->δ1[j]?=`aDy->b=b':=λe1 e2=>by
  rw[e1] at e2;have e8:=B4 e2;injection e8 with e9
  delta o8 at e9;injection e9 with e10
  exact(F10 (F10 e10).2).1
 rcases h with⟨δ1,e1,e2⟩|⟨rn,δ1,e1,e2⟩<;>rcases h' with⟨δ2,e3,e4⟩|⟨J,δ2,e3,e4⟩<;>rw[e1] at e3
 ·have e5:=B4 e3
  injection e5 with e6 e7
  subst e7;exact#[e6,lb e2 e4]
 ·cases e3
 ·cases e3
 ·have e5:=B4 e3
  injection e5 with e7
  subst e7;exact#[rn.trans J.symm,lb e2 e4]
def bw0{N:`e}{G:GSB}{b:D}{r:D}(hl:`z1)(h:`arc):`arf:=by
 have hh:`z1/\`a7p:=#[hl,(r,b'),h];delta mkB;rw[dif_pos hh];let#[e1,e2]:=(B81 hh.2 0).one (h 0);exact D9 `c (Prod.ext e1 e2)
def om0:`T9->`aT (D×(`hF))
 | `HY `a7q=>`c (`a7q,`WR)
 | `HY `wl=>`c (`wl,`WR)
 | `c `a7r=>`c (`CR,`WR)
 | `HY (`t [`h p,b])=>`c (b,λd=>`t [`h p,d])
 | _=>`g
open T in
def lr0{s:`T9}{bm:D×(`hF)}(h:om0 s=`c bm):∃d0,s=`aA'/\∀(K:`C) (H:Hp) (B:BS) (a:`f),RpL K H B d0 a->`KQ bm.1/\∀(H':Hp) (B':BS) (b':D),RpG K H' B' b' a->RpL K H' B' (bm.2 b') a:=by
 delta om0 at h;split at h
 ·cases h
  apply `a7s
 ·cases h
  apply `a7s
 ·rename_i x ns
  cases h;refine`qa λK H B a r=>#[?_,`aL2];rcases r with⟨d',e,h⟩|⟨ks,vs,e,_⟩|h
  ·cases e
  ·cases e
  ·exact h
 ·rename_i p b
  cases h;refine`qa λK H B a r=>?_;rcases r with⟨d',e,h⟩|⟨ks,vs,e,_⟩|⟨x,ns,e,_⟩
  ·cases e
   exact#[h,λH' B' b' r'=>`n #[b',rfl,r']]
  ·cases e
  ·cases e
 ·cases h
omit DL
variable{Ga Gb:DL.GSB}
open Y
section
variable{st:`a0}{t:TS}
def wj0(h:`eS):`apX e (`a7t v):=(λpins s σ H Q I q=>
 thn `arg `a7u)
def vx0(h:`eS):PE X e (`db te `a7v):=(λpins s σ H Q I q=>
 thn `arg λu s' z9=>`aHP #[v,_,I'.closed o,r,k])
def lq0(h:PS X st t):PS X st (`iw (∃a,t `a69 σ H)):=(λpins s σ H D I #[a,q]=>
 thn `arg λf s' z=>SP.closing z)
omit z
omit L2
open X
def vb0(k:Nat):D:=`t `a7w
def rt0(k:Nat):s30 `a7w=`f_:=by
 show (`hu (("@" : Str) = "@") (k:Int).toNat)=_;rw[`a4];rfl
mutual
def nrf:`ey
 | `c5=>(`m').isNone&&`ac?
 | _=>`d
def ql0:`U6
 | []=>`d
 | `b1=>nrf d&&`ac?
end
section
variable{B:BS}{as:`aw}
def rq0:`q? [] xs=(`yZ):=by delta RpNs;rfl
def ub0{d:D}:`q? `m7 xs=`aWj:=by conv=>lhs;delta RpNs
def rb0:`aan `oP=(`aWi):=by conv=>lhs;delta RpN
def wz0:`ln (`iq↔`cu (RpN K H B as) ds xs):=by
 intro z;induction z with
 | nil=>
  intro xs
  rw[rq0];constructor
  ·rintro rfl;exact `ah
  ·intro h;cases h;rfl
 | cons d ds ih=>
  intro xs
  rw[ub0];constructor
  ·rintro⟨x,r,rfl,h1,h2⟩;exact `aE h1 (ih.mp h2)
  ·intro h;cases h with
   | cons h1 h2=>exact`hD h1 (ih.mpr h2)
mutual
theorem T30:`Hk (`l1->`lW->`dM)
 | `y,_,_,h=>`WS
 | `cL,_,_,h=>`WS
 | `cZ,_,_,h=>`WS
 | `co,_,_,h=>`WS
 | `c5,_,n,h=>by
  delta nrf at n;rw[`a?] at n;rw[rb0] at h;rw[wo0];skip;rcases h with⟨k,a,e,_⟩|⟨_,a,xs,e,q,r⟩
  ·rw[e] at n;cases n.1
  ·done;exact#[a,xs,e,q,g20 n.2 r]
 | `eH,_,_,h=>`arh
 | `lV,_,_,h=>`arh
 | `qp,_,_,h=>`arh
theorem g20:`ln (`ari->`iq->`bi)
 | [],_,_,h=>by rw[rq0] at h;rw[ze0];exact h
 | `b1,_,n,h=>by
  delta ql0 at n;rw[`a?] at n;rw[ub0] at h;apply `Hl;rw[O8];exact#[x,r,e,T30 n.1 h1,g20 n.2 h2]
end
mutual
theorem d10:`Hk (`l1->`dM->`lW)
 | `y,_,_,h=>`WT
 | `cL,_,_,h=>`WT
 | `cZ,_,_,h=>`WT
 | `co,_,_,h=>`WT
 | `c5,_,n,h=>by
  delta nrf at n;rw[`a?] at n;rw[wo0] at h;rw[rb0];apply `Uf;refine `u #[?_,a,xs,e,q,gq0 n.2 r];cases z:`m' with
  | none=>rfl
  | some k=>rw[z] at n;cases n.1
 | `eH,_,_,h=>`arj
 | `lV,_,_,h=>`arj
 | `qp,_,_,h=>`arj
theorem gq0:`ln (`ari->`bi->`iq)
 | [],_,_,h=>by apply `jW;rw[rq0];exact h
 | `b1,_,n,h=>by
  delta ql0 at n;rw[`a?] at n;rw[O8] at h;apply `Hl;rw[ub0];exact#[x,r,e,d10 n.1 h1,gq0 n.2 h2]
end
def RpN.same{d:D}(s:`bI)(h:`lW):`a7x:=(RpN.mono `xh (`NI) h)
def RpNs.same(s:`bI)(h:`iq):`aaC K H' B as ds xs:=(`any `xh (`NI) h)
open T in
def RpNs.atI{i:Int}{d:D}(r:`iq)(h:`aYw):∃v,`aYx/\`lW:=by
 have p:=`vS r;rw[J00];delta DL.atI at h ⊢;rw[← `CS p];cases e:ixN `b2 i with
 | none=>rw[e] at h;cases h
 | some j=>
  rw[e,`s] at h;rw[`s];exact `C7 p h
omit z
section
variable{B:BS}{as:`aw}{a:`f}
def Y30:∀{as:`aw} {sos:`Hm} {k:Nat} {c:`f} {so:`dW},`t4->`nv->`pZ->`a7y:=by
 intro z;induction z with
 | nil=>intro _ _ _ _ _ h _;simp at h
 | cons x as ih=>
  intro z1;cases z1 with
  | nil=>intro _ _ _ _ _ h;simp at h
  | cons y sos=>
   intro z2;cases z2 with
   | zero=>
    intro c so _ h1 h2
    simp at h1 h2;subst h1 h2;rw[`d!,`gP,`apK]
   | succ k=>
    intro c so nd h1 h2
    rw[`zW] at nd;have h1':`nv:=`aio
    have J:`a7z:=`m0 λz=>nd.1 (z▸C8 h1')
    rw[`d!,`gP,J];exact ih nd.2 h1' (`aip)
def to0:∀{as:`aw} {sos:`Hm} {c:`f},c∉as->`aHR=`g:=by
 intro z;induction z with
 | nil=>intro _ _ _;simp
 | cons x as ih=>
  intro z1;cases z1 with
  | nil=>intro _ _;simp
  | cons y sos=>
   intro c h
   rw[`it] at h;have hne:`a7z:=`m0 λz=>h `Iw
   rw[`d!,`gP,hne];exact ih λz=>h `Ix
def p60(hl:`Ur){c:`f}(h:c∈as)(nd:`t4):∃so,`a7y:=by
 let#[k,hk,e]:=`zo h;exact#[sos[k],Y30 nd (by rw[`fW hk,e]) (C9 `cK)]
def RpW.in0(h:`f'):a∈as:=(C8 h.hd)
def RpW.openOk(h:`f'):`P0 H a `eK:=by
 refine#[`zc,?_,λb C dx fs hm=>to0 ?_]
 ·let#[so,e]:=p60 `d7 h.in0 `d6
  rw[e];rfl
 ·let#[k,hk,e]:=`zo hm
  rw[`WE] at e;have J:`WU:=by rw[`ru] at hk;lia
  have e2:`KW=`rQ:=`k (`fW J) (D9 `c (Prod.mk.inj e).2)
  let#[n,_,hn]:=`NL `NJ e2;delta NodeOk at hn;split at hn
  ·let#[xs,z,_]:=hn;cases z
  ·let#[xs,z,_]:=hn;cases z
  ·skip;let#[C',M,O,xs,z,_,_,_,q,_]:=hn
   done;injection z with z1 z2 z3
   rw[z2];exact q
  ·exact hn.elim
def RpW.opAt(h:`f'){k:Nat}{c:`f}(h1:`nv)(h2:`pZ):`i8 H `eK c=`P1:=by
 delta opened;rw[Y30 `d6 h1 h2]
def ra0{b:`f}(h:`WV):`a7A=H b:=by
 delta opened;rw[to0 h]
def Wf0{Ho:Hp}(off:∀b,`WV->Ho b=H b)(own:∀b∈as,`aey)(hl:`Ur)(nd:`t4)(ha:a∈as):`g6 Ho a `eK=upd H a `aKu:=by
 funext b
 delta closed upd
 apply `tL
 ·rw[`l_,`l_]
 ·rw[`l0,`l0]
  by_cases hm:b∈as
  ·let#[so,e]:=p60 hl hm nd
   rw[e];rcases own b hm with z|z
   ·exact `a7B
   ·exact `i!
  ·rw[to0 hm]
   exact off b hm
def k30{Ho:Hp}(hd:`aWo)(nd:`t4)(hl:`Ur)(at':∀(k:Nat) c so,`nv->`pZ->Ho c=`P1)(ins:`aWp):`i6 Ho a `eK:=by
 have ge:∀p∈`b0,∃k,`aaq=`c p.1/\`KW=`w2:=λp hp=>by
  let#[k,hk,e]:=`zo hp;have J:=hk;rw[`ru] at J;rw[`WE] at e;exact#[k,`a7C,`a7C]
 refine#[?_,`lK,λp hp C dx fs e=>?_]
 ·let#[so,e]:=p60 hl (C8 hd) nd
  rw[e];rfl
 ·let#[k,e1,e2]:=ge p hp
  exact at' k _ _ e1 e2
 ·let#[k,e1,e2]:=ge p hp
  rw[e] at e2;rw[ins k _ _ _ e2,hd] at e1;exact(B4 e1).symm
def RpW.back(h:`f'):`i6 `x' a `eK/\`g6 `x' a `eK=H:=by
 refine#[`a7D `a7E,?_];rw[Wf0 (H:=H) (λb hb=>ra0 hb) `a7F `d7 `d6 h.in0]
 funext b
 delta upd
 apply `tL
 ·rw[`l_,hb,`zc]
 ·rw[`l0]
def RpW.same(s:`bI)(h:`f'):`aad K H':=(#[h.hd,`d6,s _ _ `zc,`aiF λz=>#[z.1,s _ _ z.2],`d7,`anC (`ei `xh),h.ins])
def RpW.put(h:`f')(hB:B a){k:Nat}{c:`f}{so':`dW}(h1:`nv)(h2:`pZ)(r:`k0 K H B as n' so')(hi:`a7G):
  `i6 `a7H a `agl/\`g6 `a7H a `agl=`a7I /\
   RpW K (`a7I) B `a7J a as (`Rn):=by
 have hl:`h!=(`o `Rn):=`k List.length_set `d7
 have hk:`WU:=(`c9 h2).1;have ins:∀(j:Nat) C dx fs,(`Rn)[j]?=`rQ->j=0:=λj C dx fs e=>by
  skip;rcases `h8 e with⟨rfl,e,_⟩|⟨_,e⟩
  ·done;exact hi C dx fs e
  ·done;exact h.ins j C dx fs e
 refine#[k30 h.hd `d6 hl (λj d s e1 e2=>?_) ins,Wf0 (`ju) `a7F hl `d6 h.in0,h.hd,`d6,yb0,`ju,hl,?_,ins]
 ·skip;rcases `h8 e2 with⟨rfl,e,_⟩|⟨n,e⟩
  ·rw[h1] at e1
   cases e1;done;rw[yb0,e]
  ·have:d≠c:=λz=>by
    let#[g1,g2]:=`c9 h1;let#[g3,g4]:=`c9 e1;exact n ((i7 `d6).mp (g2.trans (z▸g4.symm)))
   done;rw[`apd];exact h.opAt e1 e
 ·have:`z2:=λz=>hb (z▸C8 h1)
  rw[`apd];exact ra0 hb
 ·rcases `aNp with z|z
  ·exact `hd
  ·by_cases q:b=a
   ·exact `jn
   ·exact `u #[z.1,`k (zi0 q) z.2]
 ·exact `EI (`a7K) k (`anC `a7K)
omit z
def dpN(i:Nat)(δ:Ds):`q7:=`a7L λb=>match b.1 with
 | `t (`co::ns)=>`c ns
 | _=>`g
def setN(i k:Nat)(n:D)(δ:Ds):Ds:=match `pA with
 | `WW=>`E_ (`agm k n)
 | _=>δ
structure AtN(K:`C)(H:Hp)(B:BS)(σ:St)(δ:Ds)(i:Nat)(a:`f)(ns:`i)(as:`aw)(sos:`Hm):Prop where
 sl:`m8
 bad:B a
 dp:`RS
 w:`f'
section
variable{B:BS}{σ:St}{δ:Ds}{a:`f}{as:`aw}
open T in
def Env.atN(e:`bB)(h:`RS):∃a as sos,`ud:=by
 have h0:=h;delta dpN at h;cases eb:`pA with
 | none=>rw[eb] at h;cases h
 | some bm=>
  rw[eb,`s] at h;let#[d0,hi,J]:=`WX;let#[a,M,hB,ro]:=`afC;let#[h1,_]:=`Iy J;split at h
  ·rename_i x ns' hbm
   cases h;rw[hbm] at h1;let#[y,ms,e1,as,sos,w]:=h1;cases e1;exact#[a,as,sos,M,hB,h0,w]
  ·cases h
def AtN.same(s:`bI)(h:`ud):`aAA H':=(#[h.sl,h.bad,h.dp,h.w.same s])
open T in
def Env.setN(e:`bB)(h:`ud){k:Nat}{o:HO}{sos':`Hm}(w:RpW K `lk B `a7J a as' sos'):
  ∃d0 d,`H4/\`a7M=`aAu/\`aZ5:=by
 have dp:=h.dp;delta dpN at dp;cases eb:`pA with
 | none=>rw[eb] at dp;cases dp
 | some bm=>
  rw[eb,`s] at dp;let#[d0,hi,O]:=`WX;let#[a',M,hB,ro]:=`afC;let#[_,h2]:=`Iy O;split at dp
  ·rename_i x ns' J
   have dp:=B4 dp;subst dp;rw[h.sl] at M;cases M;let#[bd,mk]:=bm;have J:bd=`t (`cG::ns'):=J;subst J;refine#[d0,mk (`t (`cG::ns'.set k n')),hi,?_,e.mut hi h.sl (h2 _ _ _ #[x,_,rfl,as',sos',w])];delta DL.setN;rw[eb]
  ·cases dp
omit z
def tN(K:`C)(B:BS)(δ:Ds)(i:Nat)(g:GE):TE:=`ir (∃d a ns as sos,`bB/\`iG/\`ud/\∀v H',`bI->`a7x->`vC)
structure PN(X:Cx)(i:Nat)(e:`G)(g:GE):Prop where
 mk::go:`xi PE (tN X.K B δ i g)
def ge0(ns:`i):`Bb
 | `c5=>`aHS `aHT
 | _=>`g
def db0(ns:`i)(d y:D):`eC:=match d,y with
 | `c5,`fG=>(match `m' with
  | `f_=>(match `lh with
   | `l2=>atI es z
   | _=>`g)
  | `g=>atI ds z)
 | _,_=>`g
def vz0(i:Nat)(ga gb:GE):GE:=`T6 λd=>`anb λy=>`gI λns=>db0 ns d y
def yj0(i:Nat):GE:=fun δ=>(`gX).map λ_=>vb0 0
def plN(g:GE):GE:=`hH (`U1 `l1)
def up0(i:Nat)(g:GE):GE:=fun δ=>`ka λd=>`gI λns=>match `Iz with
 | `l2=>`c (`h `fh)
 | _=>`g
section
variable{B:BS}{σ:St}{δ:Ds}{a:`f}{as:`aw}
open T in
def RpW.node(w:`f'){d n:D}(r:`lW)(h:`Iz=`ND):∃(k:Nat) (c:`f) (so:`dW),v=`tq/\`nv/\`pZ/\`a7N/\`Uq:=by
 delta ge0 at h;split at h
 ·rename_i ds
  cases e:`m' with
  | none=>rw[e] at h;cases h
  | some k=>
   rw[e,`s] at h;rw[rb0] at r;apply `a7O
   ·rw[e] at e1
    cases e1;let#[so,hs,hn]:=`C7 w.all h;exact#[k,c,so,e3,e2,hs,h,hn]
   ·rw[e] at e1;cases e1
 ·cases h
def rl0{es:`i}(h:`abS `Bt):∃xs,`anA/\`q? es xs:=(h)
omit z
section
variable{a:`G}{p:Pos}{g ga gb:GE}
def z30(i:Nat)(hN:`ez)(hv:`iH)(hd:`a9)(hcd:`hB):
  PN X i `nc (yj0 i):=(.mk λB δ=>`aWM fun σ H Q hq162=>by
 skip;let#[d,a,ns,as,sos,en,h,at',k]:=hq162
 delta yj0 at h;rw[`z3] at h;cases h;done;refine#[_,`hx,`UV];delta vb0;rw[rb0];exact `n #[0,a,rt0 0,`xy,rfl])
def Z5(h:`WY)(hdp:∀δ d,`iG->`ark):PD X e (plN g):=(.mk λB δ=>(h.go B δ).imp fun σ H Q hq163=>by
 let#[d,en,e1,k]:=hq163
 delta plN at e1;cases e2:`aA with
 | none=>apply `as;cases e1
 | some d'=>
  apply `qE;split at e1
  ·rename_i hn
   cases e1;have:=hdp δ _ e2;cases e3:`gX with
   | none=>apply `ay e3;cases `w
   | some ns=>
    apply `a7P;exact#[d,a,ns,as,sos,en,e2,at',`Dq (k v H' s (T30 hn r))]
  ·cases e1)
open T in
def zr0{δ:Ds}{d:D}(h:vz0 i ga gb δ=`aQ):`ark:=by
 delta vz0 at h;let#[x,e1,h]:=`j3;let#[y,e2,h]:=`j3;cases e:`gX with
   | none=>rw[e] at h;cases h
   | some ns=>rfl
open T in
def yp0(ha:PN X i a ga)(hb:`dP)(hs:`UB):PN X i `G4 (vz0 i ga gb):=(.mk λB δ=>
 (vx0 (Og0 (Qg0.or Tz0) `aiG (wj0 (`P2 B δ)) hs)).imp fun σ H Q hq164=>by
  let#[d,ad,ns,as,sos,en,h,at',k]:=hq164
  delta vz0 at h;let#[dx,e1,h]:=`j3;cases e2:`d4 with
  | none=>rw[e2] at h;cases h
  | some y=>
  rw[e2,`s,`z3,`s] at h;refine#[dx,ad,ns,as,sos,en,e1,at',`aJ_];have J:=(`iL).same s2;apply `IA;apply `arl;have O:=`oH;have M:=`n8;delta db0 at h;split at h
  ·rename_i ds z
   rw[ys0] at r2;subst r2;cases e3:`m' with
   | some kk=>
    rw[e3] at h;apply `H';split at h
    ·rename_i es hes
     have hn:ge0 ns `oP=`l2:=`Rt `a7Q e3 hes
     apply `arm (`agn O hn);apply `qF;apply `a7R;refine `n (`a7S `acx);rw[c2];exact `a7T
    ·cases h
   | none=>
    rw[e3] at h;apply `H';rw[rb0] at O;rcases O with⟨k',c,f,_⟩|⟨_,c,xs,rfl,q,rx⟩
    ·rw[e3] at f;cases f
    ·apply `a7R
     have hc:c∉as:=λz=>by
      rcases J.w.own c z with z|z
      ·exact(`gk M).bad c (z▸`xz) |>.nt xs q.2
      ·rw[q.2] at z;cases z.2
     refine `u (`a7S (`n (`n (`k (ra0 hc) q.2))));rw[c2];exact `a7T
  ·cases h)
def O7(hm:`UW)(ha:`WY)(hg:`UY)(he:`d')(hpl:`ga):
  PD X `aYD (up0 i g):=(.mk λB δ=>(vx0 (gs0 e40 hg hm A9 (vv0 `a7U t00 he) `E `E he hpl)).imp fun σ H Q hq165=>by
 skip;apply `bo hq165
 delta up0 at h;let#[dx,e1,h]:=`j3;let#[ns,e2,h]:=`j3;let#[ad,as,sos,at']:=en.atN e2;done;apply `a7V;have J:=`iL;apply `IA;apply `arl;skip;split at h
 rotate_left
 ·cases h
 rename_i es hn;cases h;apply `arm `a7W;apply `qF;done;refine#[c,xs,rfl,`n (`acx),ad,`b0,c1,?_];rw[c2];exact k _ H1 s1 (by rw[ys0,`WZ]))
omit z
section
variable{B:BS}{σ σ':St}{δ:Ds}
def EnvS.takeL(en:`dr)(b1:`jZ)(b2:`j_)(e:`bB)(i:Nat){d:D}{p:`f}(hp:`lj)(s:`bI)
  (r:RpL K H' `ON d p):`a_l:=by
 apply `a_m
 have J:`anZ:=`ape;have live:`a_n:=λ{j d' b} h1 h2=>by
  apply `a_o;rw[h2] at q1;cases q1;apply `a_p
 apply `a_q
 ·apply `Vp
  ·exact b2 a z
  ·exact `u J
 ·refine `a_r r
  cases sl with
  | un=>trivial
  | ex c n=>apply `gS;apply `HG
  | sh d=>apply `gS;apply `HG
  | ow d=>apply `Vl;apply `a_s
 ·apply `Vp
  ·exact`a_t
  ·exact `t5
 ·skip;apply `Vq
  ·apply `Vr
   ·done;rfl
   ·apply `a_u
    ·cases e3
     apply `H5;done;exact `a_v
    ·done;exact `Vs
  ·apply `Vr
   ·apply `a_w
    ·cases e4
     rw[`qz] at h3;done;exact `a_x
    ·done;exact `a_y
   ·rw[`qz] at h3
    apply `H5;done;apply `Uv
 ·skip;apply `Vq
  ·apply `a_z
   ·cases e3;done;exact J
   ·done;exact `Vs
  ·rw[`qz] at h2
   done;apply `apf
omit z
def pa0:D->`Ty
 | `c5=>`m'
 | _=>`g
def kn0(i:Nat)(go gv:GE):GX:=fun δ=>`z4 λd=>`P5 λdv=>`gI λns=>`IB λk=>match `lh with
 | `l2=>`bL (`a7X/\`a7Y) (`y,`W_ `a7Z)
 | _=>`g
section
variable{B:BS}{σ:St}{δ:Ds}{a:`f}{as:`aw}
open T in
def Hi0{d:D}{k:Nat}(h:`a7_):`Iz=`lh:=by
 delta pa0 at h;split at h
 ·rename_i ds
  show `a7Q;rw[h];rfl
 ·cases h
open T in
def RpW.nodeK(w:`f'){d n:D}{k:Nat}(r:`lW)(h:`a7_)(hn:`a7N):∃(c:`f) (so:`dW),v=`tq/\`nv/\`pZ/\`Uq:=by
 delta pa0 at h;split at h
 ·rename_i ds
  rw[rb0] at r;apply `a7O
  ·rw[h] at e1
   cases e1;let#[so,hs,hn]:=`a70;exact#[c,so,e3,e2,hs,hn]
  ·rw[h] at e1;cases e1
 ·cases h
def EnvS.setN(en:`dr)(b1:`jZ)(b2:`j_)(env:`bB)(s:`bI)(h:`ud){k:Nat}{c:`f}{so':`dW}{n':D}(h1:`nv)(h2:`pZ)
  (r:`k0 K H' B as n' so') (hi:`a7G) {d:D} {v:V} (rv:`abf):
  ∃sub',`i6 `a71 a sub'/\`abY (`g6 `a71 a sub') (`a7M) d:=by
 have h':=`Ut s;let#[p1,p2,p3]:=h'.w.put h.bad h1 h2 r hi;refine#[_,p1,?_];rw[p2];let#[d0,d',M,e1,J]:=(`rf s).setN h' p3;rw[e1];exact `xB (`F8 s b1 b2 M h.sl J) J (`are (`K5 h.bad))
omit z
section
variable{f:`G}{go g1:GE}
open T in
def N8(ho:`IC)(h1:`Ws)
  (hbase:`a72)
  (hfew:`H ((`nI
  &&`zA)=`d) Aa)
  (hline:`gO) (hs:`d') (hplain:`qv):
  PX X (`tA `aKY [e]) (kn0 i go g1):=(.mk λH₀ B₀ δ pins s σ H Q I hq166=>by
 apply `bC hq166
 delta kn0 at e1;apply `bl;let#[d,e2,e1]:=`dL;let#[dv,e4,e1]:=`dL;let#[ns,e5,e1]:=`dL;let#[kk,e6,e1]:=`dL;split at e1
 rotate_left
 ·cases e1
 rename_i es hnode;split at e1
 rotate_left
 ·cases e1
 rename_i hz;cases e1;apply `arn;refine `a73 E70 E80 jd0;have J:=`iL;apply `W0;apply `qF;refine`a74;apply `IA;refine`a75;rw[c2];refine#[dv,`nh,e4,`w1];have O:=`n8;have M:=`rb O;have Z:=`aro;refine#[_,`a76,c,xs,v2,rfl,rfl,`a77,`bk `WZ hz.2,?_];have nk:`k0 X.K H2 B as `a7Z (`m (xs++[v2])):=#[_,rfl,`W1 (`W2 (`vS Z) (d10 hz.1 r2))];let#[Y,q1,q2]:=`arp O;exact#[a,Y,q1,k _ _ q2])
omit z
omit DL
open Y
section
variable{t:TA}{m:Str}{k:Nat}{f C:`f}{ps:`e}{E:XK}{ds:`am}
def Rc0(h:`yN):PA X es (`db t λvs H'=>`a7t vs):=(λpos pins s σ H Q I q=>
 thn (`abM h q) `a7u)
def Kl0(h:`yN):PA X es (`ir (∃a sub,`sr/\t σ `ss Q)):=(λpos pins s σ H Q I #[a,sub,c,q]=>h pos `z s σ _ Q (`Rr) q)
def K30{pl:`yG}(he:`S9)(c:`GT)(hm:`aR1)(F:`yO)(hr:`nA)(hb:`yP)(hd:`yQ)(hx:`yR)
  (ht:`H (`cs `a78 `N=(do
   let ov ← `vk
   `Tb
   let (f,`w') ← `Tc
   `a79)) Aa):
  PE X `a78 (`tS ta (∃a dx fs,`fa/\`S8/\`S7/\∃a' sub,`i6 H1 a' sub/\sp (x::([]++dvs)) (`g6 H1 a' sub) Q E)):=by
 apply `a';refine `aR4 λu s1 hq167=>?_;skip;let#[x,H1,I1,rx,a,dx,fs,ex,ea,l,a',sub,cl,q]:=hq167;subst ex;apply `tU;done;refine `aR5;exact `aR' (first:=`gH) I1.kIn hm.kp (R20 (us:=`gH) (vs:=`gH) F hr hb hd hx (I1.closed cl) (`aE rfl `ah) q)
omit z
omit L2
open X
def pn0:`i->`i->Str->`eC
 | `gq::fs,`b1,f=>`D (n=f) `aQ (pn0 fs ds f)
 | _,_,_=>`g
def gt0:`i->`i->Str->D->`i
 | `gq::fs,`b1,f,v=>`D (n=f) (v::ds) (d::gt0 fs ds f v)
 | _,ds,_,_=>ds
def fp0{B:BS}{as:`aw}:∀{ns:`e} {ds:`i} {xs:`P} {f:Str} {d:D},`iq->`a7'=`aQ->∃v,(`Ps).lookup f=`aX/\`lW:=by
 intro z;induction z with
 | nil=>intro _ _ _ _ _ h;apply `z5;cases h
 | cons n ns ih=>
  intro z1;cases z1 with
  | nil=>intro _ _ _ _ h;rw[`J] at h;apply `z5;cases h
  | cons d' ds=>
   intro xs f d r h
   rw[ub0] at r;apply `ap6;rw[`J] at h;apply `z5;rw[`d!,`gP]
   by_cases e:n=f
   ·rw[`cf] at h
    cases h;rw[show (f==n)=`d from W1.mpr e.symm];exact`Uj
   ·rw[`bW] at h
    rw[show `a7! from `m0 (C1 e)];exact ih h2 h
def Zm0:∀{ns:`e} {xs:`aV} {f:Str},f∉ns->(`Ps).lookup f=`g:=by
 intro z;induction z with
 | nil=>intro _ _ _;simp
 | cons n ns ih=>
  intro z1;cases z1 with
  | nil=>intro _ _;simp
  | cons x xs=>
   intro f h
   rw[`it] at h;rw[`d!,`gP,show `a7! from `m0 λz=>h `Iw];exact ih λz=>h `Ix
def ba0{B:BS}{as:`aw}{f:Str}{d:D}(rv:`lW):∀{ns:`e} {ds:`i} {xs:`P},`iq->`aGs->f∈ns ->
  ∃ys,s50 f v (`Ps)=`Me ns ys/\`jf=`bx/\`q? (gt0 (`Pt) ds f d) ys:=by
 intro z;induction z with
 | nil=>intro _ _ _ _ h;cases h
 | cons n ns ih=>
  intro z1;cases z1 with
  | nil=>intro xs r hl _;rw[rq0] at r;subst r;cases hl
  | cons d' ds=>
   intro xs r hl hf
   rw[ub0] at r;apply `ap6;rw[`d!,`J];delta s50 gt0
   by_cases e:n=f
   ·rw[`cf,`cf]
    refine#[v::r',rfl,hl,?_];rw[ub0];exact#[v,r',rfl,rv,h2]
   ·rw[`bW,`bW]
    let#[ys,e1,e2,e3]:=ih h2 `rS ((`bF hf).resolve_left (C1 e));refine#[x::ys,`ax e1,by rw[`ae,`ae,e2],?_];rw[ub0];exact#[x,ys,rfl,h1,e3]
structure ClsN(K:`C)(c:Str)(fs:`e):Prop where
 ok:∀C,`pq->`tT/\∀f∈fs,`yJ
def vr0{o:`R!}{f:`aNr}{r:β}(h:`aNs):`aNt:=by
 cases o with
 | none=>cases h
 | some a=>exact`aNu
def Ib0:`Hf
 | `t l=>`pD
 | _=>`g
def Of0:`Hf
 | `LF=>`pD
 | _=>`g
def N60:D->`aT Str
 | `p l=>`pD
 | _=>`g
def unL:`i->`aT (D×`i)
 | `iF=>`a7?
 | []=>`g
def Lw0{d:D}{l:`i}(h:Ib0 d=`pD):d=`t l:=by
 cases d<;>cases h
 rfl
def Ty0{d:D}{l:`i}(h:Of0 d=`pD):d=`LF:=by
 cases d<;>cases h
 rfl
def Q00{d:D}{l:Str}(h:N60 d=`pD):d=`p l:=by
 cases d<;>cases h
 rfl
def lc0{m:`i}{a:D}{l:`i}(h:unL m=`a7?):m=`iF:=by
 cases m<;>cases h
 rfl
def et0(d:D):`aT (Str×`i×`i):=`a8a λc=>`arq λp=>`a8b λf=>`arq λp=>`a8b λe=>`D (p.2.isEmpty=`d) `arr `g
def jx0{d:D}{c:Str}{f e:`i}(h:et0 d=`arr):d=`t [`dC,`m f,`m e]:=by
 skip;delta et0 at h;let#[l,w0,h]:=`qG;let#[#[x,l1],w1,h]:=`qG;let#[c,w2,h]:=`qG;let#[#[y,l2],w3,h]:=`qG;let#[f,w4,h]:=`qG;let#[#[z,l3],w5,h]:=`qG;let#[e,w6,h]:=`qG;have h:(`D (l3.isEmpty=`d) `arr `g)=`Sj:=h;split at h
 ·rename_i hz
  cases h;rw[List.isEmpty_iff.mp hz] at w5;done;rw[Lw0 w0,lc0 w1,Q00 (d:=x) w2,`a8c,Ty0 (d:=y) w4,lc0 (m:=l2) w5,Ty0 (d:=z) w6]
 ·cases h
def yg0(i:Nat)(c f:Str)(g:GE):GE:=`hH λd=>`gI λns=>((`Iz).bind et0).bind λr=>`D `z6 `ars `g
def ny0{B:BS}{as:`aw}{c:Str}{fs:`i}(h:`abS (`aWm)):`aWn:=(h)
section
variable{p:Pos}{g ga gb g1:GE}{c f:Str}{F:`e}
def J7{δ:Ds}{d:D}(h:yg0 i c f g δ=`aQ):`ark:=by
 delta yg0 at h;let#[x,e1,h]:=`j3;cases e:`gX with
  | none=>rw[e] at h;cases h
  | some ns=>rfl
def z10(ha:`WY)(hc:`ID)(hf:`IE)(hb:`H (`aRH) Aa):PN X i `alZ (yg0 i c f g):=(.mk λB δ=>
 (vx0 (zw1 `a7U hb)).imp fun σ H Q hq168=>by
  skip;let#[d,ad,ns,as,sos,en,h,at',k]:=hq168
  delta yg0 at h;cases e1:`aA with
  | none=>rw[e1] at h;cases h
  | some dx=>
  rw[e1,`s,`z3,`s] at h;done;apply `a7V;have J:=`iL;apply `IA;apply `arl;skip;let#[#[c',fs,ds],hn,h]:=`qG;let#[_,hn,hi]:=vr0 hn;cases jx0 hi
  done;try apply `H'
  skip;split at h
  rotate_left
  ·cases h
  rename_i hcc;subst hcc;let#[k',a,so,rfl,f1,f2,f3,f4]:=`a7W;let#[C,M,nm,xs,rfl,rfl,hl,hC,O,rx]:=ny0 f4;let#[v,hv,rv]:=fp0 rx h;apply `IF;done;refine#[a,C,M,_,v,rfl,`Ov,q1,`RD,hv,ad,`b0,c1,?_];rw[c2];exact k v H1 s1 rv)
omit z
def pb0(i:Nat)(c f:Str)(gv:GE):GS:=fun δ=>`a8d λr=>`bL (`z6/\`a7X/\`v9 `ars/\`agC) (.nx (`a8e dv))
def Un0(i:Nat)(c f:Str)(gv:GE):GS:=fun δ=>`P5 λdv=>`gI λns=>`agq λp=>`agr λr=>if `z6/\`agC then (match `ars,dv with
  | `c (`y2),`ki=>`ac (`a8e `a4r)
  | _,_=>`g) else `g
def fw0:∀{ns:`e} {ds:`i} {f:Str},`v9 `a7'->f∈ns:=by
 intro z;induction z with
 | nil=>intro _ _ h;apply `z5;cases h
 | cons n ns ih=>
  intro z1;cases z1 with
  | nil=>intro _ h;rw[`J] at h;apply `z5;cases h
  | cons d ds=>
   intro f h
   rw[`J] at h;apply `z5
   by_cases e:n=f
   ·rw[e];exact A8
   ·rw[`bW] at h
    exact `aq3
section
variable{gv:GE}{c f:Str}{F:`e}
open T in
def R0(i:Nat)(hv:`art)(hc:`ID)(hf:`IE)(hN:`ez)(hvis:`iH)(hd:`a9)(hcd:`hB)
  (hs:`aru):`arv pb0 gv:=(.mk λH₀ B₀ δ pins s σ H De I hq169=>by
 apply `nN hq169
 delta pb0 at e1;apply `bl;cases e2:`ML with
 | none=>apply `as;cases e1
 | some dv=>
 apply `qE;cases e3:`gX with
 | none=>apply `f?;cases e1
 | some ns=>
 apply `IG;apply `W3;clear e1;apply `W4;clear e0;cases `W5;apply `W6
 apply `W7
 split at e1
 rotate_left
 ·cases e1
 rename_i hq;let#[a2,hn,a3,M]:=hq;subst a2;cases e1;apply `W8;apply `a8f;have J:=`iL;apply `arw;apply `a8g;apply `IF;apply `a8h
 ·apply `EP
  rw[`x] at M;exact M
 ·let#[ys,y1,y2,y3]:=ba0 (d10 (as:=as) hn r1) rx hl (fw0 a3)
  rw[y1];let#[Z,z1,z2]:=`a8i (`a8j dv) (`i3 C O `a8k) (`a8l O);apply `W9)
open T in
def T4(i:Nat)(hv:`art)(hc:`ID)(hf:`IE)(hN:`ez)(hvis:`iH)(hd:`a9)(hcd:`hB):
  PSD X (`SO (`hV `mQ f tpos) .Add `gD pos) (Un0 i c f gv):=(.mk λH₀ B₀ δ pins s σ H De I hq170=>by
 apply `nN hq170
 delta Un0 at e1;apply `bl;cases e2:`ML with
 | none=>apply `as;cases e1
 | some dv=>
 apply `qE;cases e3:`gX with
 | none=>apply `f?;cases e1
 | some ns=>
 apply `IG;apply `W3;clear e1;apply `W4;clear e0;cases `W5;apply `W6
 apply `W7
 split at e1
 rotate_left
 ·cases e1
 rename_i hq;let#[a2,M]:=hq;subst a2;split at e1
 rotate_left
 ·cases e1
 rename_i n1 n2 hlk;cases e1;apply `W8;refine `aiH (Kf0 `ajb (bf0 `ajc) Al0) #[a,`cQ,`hx,a,`b0,at'.w.openOk,?_];let#[so,Y,nk]:=`adc `agx;let#[C,J,nm,xs,rfl,rfl,hl,hC,a1,rx]:=`P6;apply `IF;let#[v,a3,rv]:=fp0 rx hlk;delta RpN at rv;subst rv;let#[c1,c2]:=at'.w.back;refine#[a,C,J,_,`h n1,rfl,at'.w.opAt `xy Y,q1,`RD,a3,a,`b0,c1,?_];rw[c2];refine#[`h n2,env,e2,`w1];rw[ys0] at r2;subst r2;have O:=`rb s2;refine#[`b0,O.w.openOk,n1,n2,rfl,rfl,J,_,O.w.opAt O.w.hd Y,?_,?_]
 ·apply `EP
  rw[`x] at M;exact M
 ·let#[ys,y1,y2,y3]:=ba0 (d:=`arx) (v:=`arx) (f:=f) (by delta RpN;rfl) (`aro) hl (fw0 (`ax hlk))
  rw[y1];let#[Z,z1,z2]:=`ada b1 b2 env s2 at' `xy Y (n':=`a8j (`arx)) (so':=`i3 C J `a8k) (`a8l J) `ary (d:=`y) (v:=`y) `st;apply `W9)
omit z
def U40(i:Nat)(go gv:GE):GX:=fun δ=>`z4 λd=>`P5 λdv=>`gI λns=>`IB λk=>match `lh,dv with
 | `l2,`afi=>`bL (ql0 fs=`d/\`fh+`Nv<=`R) (`y,`W_ (`m (es++fs)))
 | _,_=>`g
def popS(i:Nat)(go:GE):GS:=fun δ=>`z4 λd=>`gI λns=>`IB λk=>match `lh with
 | `l2=>`D (es=[]) `g (`ac (`W_ `a8m))
 | _=>`g
section
variable{f:`G}{go g1:GE}
open T in
def De0(ho:`IC)(h1:`Ws)
  (hbase:`wu `VE)
  (hfew:`H ((`nI
  &&`zA)=`d) Aa)
  (hline:`gO) (hs:`d') (hplain:`qv):
  PX X (`HU o `VE [e]) (U40 i go g1):=(.mk λH₀ B₀ δ pins s σ H Q I hq171=>by
 apply `bC hq171
 delta U40 at e1;apply `bl;cases e2:go δ with
 | none=>apply `as;cases e1
 | some d=>
 apply `qE;cases e4:`rY with
 | none=>rw[e4] at e1;cases e1
 | some dv=>
 rw[e4,`s] at e1;cases e5:`gX with
 | none=>rw[e5] at e1;cases e1
 | some ns=>
 rw[e5,`s] at e1;cases e6:pa0 d with
 | none=>rw[e6] at e1;cases e1
 | some kk=>
 rw[e6,`s] at e1;split at e1
 rotate_left
 ·cases e1
 rename_i es fs hnode;split at e1
 rotate_left
 ·cases e1
 rename_i hz;cases e1;apply `arn;refine `a73 A01 A11 Ze0;have J:=`iL;apply `W0;apply `qF;refine`a74;apply `IA;refine`a75;rw[c2];refine#[`afi,`nh,e4,`w1];have Y:=`n8;have M:=`rb Y;have a1:=`aro;rw[w80] at r2;let#[b,zs,rfl,sq,rz]:=r2;let#[nb,hb]:=sq.at;have O:`WV:=λz=>by
  rcases M.w.own b z with q|q
  ·exact nb (q▸`xz)
  ·apply `a8n
   ·rw[hb] at q;cases q.2
   ·rw[hb] at q;cases q.2
 refine#[_,`a76,c,b,xs,zs,rfl,rfl,`a77,?_,by rw[← `WZ,rz.length];exact hz.2,?_]
 ·refine `ahM
  apply `a8n
  ·exact `n (`a8o)
  ·exact `u #[ob,`a8o]
 have nk:`k0 X.K H2 B as (`m (es++fs)) `UT:=#[_,rfl,`W1 (`vo (`vS a1) (`vS (gq0 hz.1 rz)))];let#[Z,q1,q2]:=`arp Y;exact#[a,Z,q1,k _ _ q2])
open T in
def U5(ho:`IC)
  (hbase:`wu "pop") (hline:`gO)
  (hsw:`su `a8p `g):
  PSD X (.Expr `a8p pos) (popS i go):=(.mk λH₀ B₀ δ pins s σ H De I hq172=>by
 apply `bC hq172
 delta popS at e1;apply `bl;let#[d,e2,e1]:=`dL;let#[ns,e5,e1]:=`dL;let#[kk,e6,e1]:=`dL;split at e1
 rotate_left
 ·cases e1
 rename_i es hnode;split at e1
 ·cases e1
 rename_i hne;cases e1;apply `arn;refine `a8q (Mk0 X1 A21 A31 L60 `ago `jx `jy);have J:=`iL;apply `W0;apply `qF;have pr:=`vS rx;obtain⟨dl,e7⟩:∃dl,es[`fh - 1]?=`c dl:=#[_,C9 (by have:=B91.mpr hne;omega)];let#[y,hy,ry]:=`C7 pr e7;refine#[a,`b0,`ni,`agp,c,xs,y,rfl,rfl,`Ov,`bk (`CS pr) hy,?_];have nk:`k0 X.K H1 B as `a8m `amS:=by
  refine`qa (`W1 ?_);have:∀{l:`i} {m:`P},`cu `a8r l m->`cu `a8r `aT3 m.dropLast:=by
   intro l m h
   induction h with
   | nil=>exact `ah
   | cons r t ih=>
    cases t with
    | nil=>exact `ah
    | cons r' t'=>exact `Gl
  exact `w pr
 let#[M,q1,q2]:=`arp s1;exact#[a,M,q1,k _ _ q2.s])
omit z
def RpW.backS{B:BS}{a:`f}{as:`aw}(h:`f')(s:`cP `x' H'):`i6 H' a `eK/\`cP H (`g6 H' a `eK):=by
 refine#[`a7D (s _ _ (`a7E)),`HP,`a8s]
 ·apply `li
  apply `tL
  ·rw[`l_]
   rw[hb,`zc] at e;exact e
  ·rw[`l0]
   by_cases hm:b∈as
   ·let#[so,q]:=p60 `d7 hm `d6
    rw[q];rcases h.own b hm with z|z
    ·exact `a7B
    ·rw[z.2] at e;exact e
   ·rw[to0 hm]
    exact s b o (`k (ra0 hm) e)
 ·delta closed at e
  apply `tL
  ·rw[`l_] at e;cases e
  ·rw[`l0] at e
   by_cases hm:b∈as
   ·let#[so,q]:=p60 `d7 hm `d6
    rw[q] at e;cases e
   ·rw[to0 hm] at e
    have:=s.nf b o xs e;apply `ay (ra0 hm);exact `w
def fnN(i:Nat)(go:GE)(gA:GA)(f:`r):GE:=fun δ=>`z4 λd=>`Lj λds=>`gI λns=>match `Iz with
 | `l2=>`zY (`W'/\`zX) ((f (`mC::ds)).bind `a8t)
 | _=>`g
def li0:∀{ds:`i},`zX->`ari:=by
 intro z;induction z with
 | nil=>intro _;exact rfl
 | cons d ds ih=>
  intro h
  delta flats at h;rw[`qf,`a?] at h;delta ql0;rw[`a?];refine#[?_,ih h.2];cases d<;>first|rfl|(cases h.1)
section
variable{p:Pos}{go:GE}{gA:GA}
open T in
def X6{k m:Nat}{ps:`e}{f:`r}(C:`aYM)(hr:`qw)(hk:k<=m)(ho:`IC)(ha:`Hx)(hg:`f!)(hdb:`a9)
  (he:`oL (o::es) ((`q,`vk)::`Be)) (hpl:`f9):PD X (`gt `vg (o::es)) (fnN i go gA f):=by
 apply `aoG;exact .mk λB δ=>(vx0 (`afW `ah (vv0 (ho.go B δ) (Rc0 `bK) he))).imp fun σ H Q hq173=>by
  let#[r,en,h,k]:=hq173
  delta fnN at h;let#[d,e1,h]:=`j3;let#[ds,e2,h]:=`j3;let#[ns,e3,h]:=`j3;split at h
  rotate_left
  ·cases h
  rename_i ls hn;split at h
  rotate_left
  ·cases h
  rename_i hfl;cases e4:f (`a8u) with
  | none=>rw[e4] at h;cases h
  | some r'=>
  rw[e4,`s] at h;split at h
  rotate_left
  ·cases h
  rename_i hfr;cases h;apply `a7P;refine#[d,a,ns,as,sos,en,e1,at',`LM #[ds,`hc,e2,`afy]];have M:=`n8;have J:=`rb M;apply `arm (`agn `NT hn);apply `qF;refine#[a,`b0,`ni,?_];show spD X.K f ((`tq::vs)++[]) (`i8 H2 `eK) _ E0;rw[`du];refine#[`Lm,`a8u,r,`a8v,?_,e4,`aqD]
  ·rw[O8]
   refine#[`tq,vs,rfl,?_,qk0 hfl.2 r2];rw[w80];exact#[c,xs,rfl,`a8w,qk0 hfl.1 (g20 (li0 hfl.1) rx)]
  ·let#[c1,c2]:=`arz s3
   exact#[a,`b0,c1,k v _ (M.trans c2) (lw0 hfr r3)]
omit z
structure FnT(P:`av)(w:`T)(K:`C)(mg:`cd)(base:`aa)(c m:Str)(k:Nat)(ps:`e)(F:`e)(f:`bX):Prop where
 ex:∃C fa fd,`a8x/\`pq/\`tT/\Meth K C m fa/\`Gj/\m∉F
def k40(c:Str)(F:`e)(d:D):`aj:=match `a8a λ_=>`arq λq=>et0 q.1 with
 | `fj=>`an (`z6)&&r.2.1.all λn=>match n with|`cG=>F.contains x|_=>`q
 | `g=>`q
def wa0(i:Nat)(c:Str)(F:`e)(gA:GA)(f:`bX):GX:=fun δ=>`a7L λb=>`zY (k40 c F b.1=`d) (`Lj λds=>(f b.1 ds).map λr=>(r.1,`gy i (.ow (b.2 r.2))))
open T in
def Wp0{B:BS}{d:D}{a:`f}{c m:Str}{F:`e}(h:k40 c F d=`d)(r:`nF)(hm:m∉F):∃x ns as sos C dx fs,d=`CR/\`f'/\`arA/\`pq/\`S7:=by
 delta k40 at h;split at h
 ·rename_i r w
  let#[c',fs,ds]:=r;let#[l,w0,w]:=vr0 w;let#[#[n0,l1],w1,w]:=vr0 w;let#[x,w2,w]:=vr0 w;let#[#[n1,rest],w3,w]:=vr0 w;cases Lw0 w0;cases lc0 w1;cases Q00 (d:=n0) w2;cases `a8c;cases jx0 (d:=n1) w
  try apply `H'
  rw[`a?,`z7] at h;let#[hc,J]:=h;subst hc;let#[x',ns,e,as,sos,w]:=r;cases e;let#[so,O,nk]:=`adc w.all;let#[C,M,nm,xs,rfl,rfl,hl,hC,Y,rx]:=`P6;refine#[x,_,as,sos,C,M,_,rfl,w,O,hC,Zm0 λz=>hm ?_];rw[`gT] at J;have:=J (`p m) (Y1 z);exact List.contains_iff_mem.mp `w
 ·cases h
section
variable{gA:GA}{c m:Str}{F:`e}
def V0(i:Nat){pl:`yG}{k:Nat}{ps:`e}{f:`bX}(C:`a8y)(hr:`W!)(hk:k<=n)(ha:`jY)(hN:`HI)(hv:`arB)(hd:`arC)(hcd:`arD)
  (hst:`d9) (hpl:`f9)
  (ht:`H (`cs `a8z `N=(do
   let ov ← `a8A
   `Tb
   let (f,`w') ← `Tc
   `aR3)) Aa):
  PX X `a8z (wa0 i c F gA f):=(.mk λH₀ B₀ δ pins s σ H Q I hq174=>by
 skip;apply `nN hq174
 delta wa0 at e1;apply `bl;let#[Ca,fa,fd,Fo,hC,cl,a2,hb,a5]:=C.ex;let#[bm,eb,e1]:=`dL;split at e1
 rotate_left
 ·cases e1
 rename_i hfl;let#[d0,hi,Z]:=`WX;let#[ds,e2,e1]:=`dL;cases e3:f bm.1 ds with
 | none=>apply `f?;cases e1
 | some q=>
 apply `f?;cases e1;apply `a8B;let#[h1,h2]:=`Iy Z;let#[x,ns,as,sos,C',dx,fs,a7,w,a6,Y,a4]:=Wp0 hfl h1 a5;have a1:C'=Ca:=by rw[hC] at Y;cases Y;rfl
 subst a1;let#[c1,c2]:=w.back;done;refine`di (Ep0 (pl:=pl) (E:=E0) (wj0 `qA) cl a2 Fo `Db hb `ah lj0 (Kl0 `bK) hst hpl ht) Q (`a8C a6 a4);rw[c2];refine#[ds,env,e2,`aJ2];show spB X.K 0 f (`cQ::`anX) H1 _ _;rw[`du];refine#[B,ds,vs,a,bm.1,q.2,q.1,(`nh).bad,hB,rfl,`bP,r1,h1.same s1,e3,λv H' hh a3 rv=>?_];have O:`aqP:=#[λb o n e=>hh b o n (s1 b o e),λb o xs n e=>s1.nf b o xs (hh.nf b o xs n e)];have M:`a8D:=`arE hi J O (h2 H' B q.2 a3);exact `a8E O)
def Z9(i:Nat){pl:`yG}{k:Nat}{ps:`e}{f:`bX}(C:`a8y)(hr:`W!)(hk:k<=n)(hN:`HI)(hv:`arB)(hd:`arC)(hcd:`arD)
  (ht:`H (`cs `a8F `N=(do
   let ov ← `a8A
   `Tb
   let (f,`w') ← `Tc
   `a79)) Aa):
  PX X `a8F (wa0 i c F v5 f):=(.mk λH₀ B₀ δ pins s σ H Q I hq175=>by
 skip;apply `nN hq175
 delta wa0 at e1;apply `bl;let#[Ca,fa,fd,Fo,hC,cl,a1,hb,a4]:=C.ex;let#[bm,eb,e1]:=`dL;split at e1
 rotate_left
 ·cases e1
 rename_i hfl;let#[d0,hi,Y]:=`WX;rw[`bz (v5 δ=`qm),`s] at e1;cases e3:f bm.1 [] with
 | none=>apply `f?;cases e1
 | some q=>
 apply `f?;cases e1;apply `a8B;let#[h1,h2]:=`Iy Y;let#[x,ns,as,sos,C',dx,fs,a6,w,a5,O,a3]:=Wp0 hfl h1 a4;have Z:C'=Ca:=by rw[hC] at O;cases O;rfl
 subst Z;let#[c1,c2]:=w.back;done;refine`di (K30 (pl:=pl) (E:=E0) (wj0 `qA) cl a1 Fo `Db hb `ah lj0 ht) Q (`a8C a5 a3);rw[c2];show spB X.K 0 f `gH H _ _;refine#[B,[],[],a,bm.1,q.2,q.1,env.bad,hB,rfl,`bP,`jg,h1,e3,λv H' hh a2 rv=>?_];have M:`a8D:=`arE hi J hh (h2 H' B q.2 a2);exact `a8E hh)
omit z
def Env.unset{B:BS}{σ:St}{δ:Ds}(e:`bB)(i:Nat)(o:`ep):Env K H B (`B9 i o) `a8G:=by
 refine#[`EI `sl i `k8,`m1,`ai7];skip;apply `a8H
 ·cases z
 rcases `MH with⟨_,z,_⟩|⟨n2,h2⟩
 ·cases z
 rw[`qz] at h3;apply `H5;done;apply `Uv
def nh0(i:Nat)(n:D)(δ:Ds):Ds:=match `pA with
 | `WW=>`E_ (ns++[n])
 | _=>δ
structure PartAt(K:`C)(H₀:Hp)(B₀:BS)(H:Hp)(σ:St)(δ:Ds)(i j:Nat)(dp:D):Prop where
 en:`dr
 ex:∃B a ns as sos v,(`jZ)/\(`j_)/\`bB/\`ud/\`am7/\`aan dp
def N20{δ:Ds}{mk:`hF}(h:`pA=`WW)(ms:`i):dpN i (`E_ ms)=`c ms:=by
 have hl:i<`o5:=by
  cases q:`c6 with
  | none=>rw[q] at h;cases h
  | some s=>exact(`c9 q).1
 delta dpN;rw[`Hp];delta om0 at h;split at h
 ·cases h
 ·cases h
 ·cases h;rfl
 ·cases h;rfl
 ·cases h
open T in
def Pw0{δ:Ds}(h:`RS):∃x mk,`pA=`WW:=by
 delta dpN at h;cases eb:`pA with
 | none=>rw[eb] at h;cases h
 | some bm=>
  rw[eb,`s] at h;let#[b,mk]:=bm;split at h
  ·rename_i x ns' hb
   cases h;have hb:b=_:=hb;subst hb;exact#[x,mk,rfl]
  ·cases h
def NodeOk.ext{B:BS}{as:`aw}{L:`f}(g:`eT){n:D}(hdx:∀C dx fs,so=`ms->dx≠L)(h:`Uq):`k0 K H' B' `pB n so:=by
 have l:`aGq `pB:=λk a e=>`k (`h' (`c9 e).1) e
 delta NodeOk at h ⊢;split at h
 ·apply `qq;exact#[xs,e,`arF]
 ·let#[xs,e,z,r]:=h;exact#[xs,e,z,`arF]
 ·skip;let#[C,dx,ns,xs,e,f,z,c,q,r]:=h
  done;exact#[C,dx,ns,xs,e,f,z,c,λw=>(`c7 w).elim q λw=>hdx _ _ _ e (`DC w),`arF]
 ·exact `rR
def EnvS.unset{σ:St}{δ:Ds}(e:`dr)(i:Nat)(o:`ep):`iT H (`B9 i o) `a8G:=by
 let#[B,b1,b2,env]:=e.ex;refine#[e.same,#[B,b1,b2,env.unset i o],`aiz,e.b0];skip;apply `a8H
 ·cases z
 rw[`qz] at h2;done;exact e.fr j ds a h1 h2
section
variable{lp tp:Pos}{gk go:GE}
def Pp0{x1}(i j:Nat)(nd:`fp)(hk:PD X ke gk)(hi:`ua)(hy:`nG)
  (hs:`oL `arG ((`lg ke)::`a8I)) (hs2:`Bf `a8I (`lg (`add)))
  (hsw:`su (`lB `arG x1 tp) `Mz)
  (hf:`lT):
  PS X (`nj `s6 (`lB `arG x1 tp) pos) `a8J:=by
 intro pins s σ H D I #[`bg,`bh,δ,dk,ns,en,e1,b7,e2,b6,kk];skip;apply `bl;let#[a,as,sos,at']:=`MN e2;have jl:j<`wr:=by
  apply `akD;have h1:=`SA;have:=`hm;lia
 done;refine St0 nd hi hy (vx0 (wj0 (M90 (vv0 (hk.go B δ) (vv0 (Ss0 t00) t00 hs2) hs)))) hsw hf `z s σ H D I #[dk,env,e1,`LM #[`bP,λL hL=>#[`abj,λt ht=>?_]]];apply `a8K;have Y:H L=`g:=`sI hL;obtain⟨H2,a8⟩:∃H2,H2=upd H1 L `q3:=`al;rw[← a8] at ht ⊢;have s2:`TW:=`k a8 (yw0 hL)
 have b5:`aqw:=`a1B ht;obtain⟨H3,a2⟩:∃H3,H3=upd H2 t `arH:=`al;rw[← a2];have s3:`a8L:=`k a2 (yw0 ht)
 have a3:`cP H H3:=`zL;have c1:H2 L=`a8M:=`yM a8
 have c9:H3 L=`a8M:=s3 _ _ c1;have e4:H3 t=`c `arH:=`yM a2
 have c3:∀b∈as,`a8N:=λb hb z=>by
  rcases `acI b hb with q|q
  ·rw[q,hH] at z;cases z
  ·rw[q.2] at z;cases z
 have La:L∉as:=λz=>c3 L z Y
 have ta:t∉as:=λz=>c3 t z b5
 apply `a8O
 have b4:=`rb a3;have M:`a8P=(`o `abC):=`a8Q
 have a6:`a8R:=by
  rw[`aoX];apply `a8S;rw[`RX] at z;exact `a8T
 have a1:`a8U:=`a8V
 have d4:`a8W `NY (so=`u9):=λk c so q1 q2=>by
  by_cases hk':k<`h!
  ·rw[`W?] at q1
   apply `a8X;exact `a8Y
  ·have hl1:=`a8Z
   rw[`S] at hl1;have d2:`agv:=`a8_
   subst d2;rw[`xA,`pC] at q1;rw[`EZ,`xA,`pC] at q2;apply `a80
 have Z:`afj (`NY[k]?):=λk C dx fs e=>by
  by_cases hk':`WU
  ·rw[`W?] at e
   exact `a81
  ·rw[`Iv] at e
   cases q:k - `MC with
   | zero=>rw[q] at e;cases e
   | succ n=>rw[q] at e;cases e
 have cl:`i6 `P' a `arI:=k30 a1 a6 M (λk c so q1 q2=>by
  skip;rcases d4 k c so q1 q2 with⟨q1,q2⟩|⟨_,rfl,rfl⟩
  ·done;exact `a82
  ·done;rw[ra0 La];exact c9) Z
 refine#[a,`b0,b4.w.openOk,a,_,cl,kk _ _ ?_];obtain⟨Hc,O⟩:∃Hc,Hc=`g6 `P' a `arI:=`al;rw[← O];skip;have ca:Hc a=`c (`oy `arI):=`a83
 have a4:∀b∈`mq,`a84:=λb hb n=>by
  rw[O];apply `li;let#[so,q]:=p60 M hb a6;rw[`ap n,q]
 have J:`a85:=λb hb=>by
  rw[O];apply `li;rw[`a86 (`k z (C8 a1)),to0 hb,`a87]
 have but:`a88:=#[λb u n z=>by
  apply `Xa
  ·apply `Xb
   ·rcases `ajg with w|w
    ·exact `K w n
    ·rw[`arJ,← w.2,z]
   ·rw[`IH,Y] at z;cases z
  ·rw[J b hb];exact a3 _ _ z,λb u xs n z=>by
  apply `Xa
  ·rw[`arJ] at z;cases z
  ·rw[J b hb] at z;exact a3.nf _ _ _ z]
 apply `a89;have e3:¬B L:=`II Y;have hw:RpW X.K Hc B (`P9) a `pB `NY:=by
  refine#[a1,a6,ca,`ju,M,`W2 ?_ #[[],rfl,`arK],Z]
  ·by_cases n:b=a
   ·exact `n n
   ·refine `u #[?_,`arJ]
    apply `Xb
    ·exact`a8'
    ·rw[`IH];exact e3
  ·apply `a8!
   intro z;skip;subst e;have d3:=`a8?;subst d3;apply `aq9 `b0 hH;have hm:`a9a:=by
    refine `a9b;rw[`a9c];exact#[`xy,q2]
   let#[_,w,_]:=(all _ hm).2;rw[z,Y] at w;cases w
 let#[x,mk,b0]:=Pw0 e2;let#[d0,a5,c6]:=lr0 b0;let#[a',c2,hB,ro]:=`LB a5;rw[`hx] at c2;cases c2;have c5:`aKt=`a9d:=by delta nh0;rw[b0]
 have a7:`s5 Hc `a9d:=`a9e a5 c6;have e5:=`agu b1 b2 a5 `hx but a7;done;rw[c5];have b3:=N20 b0 (`P9);refine#[EnvS.unset e5 j _,B,a,`P9,`mq,`abC,`KU,b1,b2,a7.unset j _,#[?_,hB,?_,hw],`Cd jl,?_]
 ·rw[`a9f];exact `hx
 ·delta dpN at b3 ⊢
  rw[`a9f];exact b3
 ·rw[rb0]
  have d1:Hc t=`c `arH:=by
   rw[J t (λz=>`a9g ta λz=>by
    rw[`gb,c1] at ht;cases ht)]
   exact e4
  refine `u #[?_,t,`aDF,rfl,#[`II b5,d1],?_]
  ·cases dk<;>rfl
  ·rw[ub0]
   refine#[v1,[`OB],rfl,d10 ?_ (lw0 b7 r1),?_]
   ·cases dk<;>first|rfl|(cases b7)
   ·rw[ub0]
    refine#[`OB,[],rfl,?_,`arK];delta vb0;rw[rb0];have c4:`a9h:=`a9i
    exact `a9j c4
omit z
def mx0(i:Nat)(go:GE)(dp:D)(δ:Ds):`aT Ds:=`z4 λd=>`gI λns=>`IB λk=>match `lh with
 | `l2=>`bL `a7Y (`W_ `Xc)
 | _=>`g
section
variable{o2:`G}{lp tp:Pos}{gk go go2:GE}
open T in
def bq0(i j:Nat)(ho:`IC)(hN:`ua)(hv:`arB)(hd:`arC)(hcd:`arD)
  (hbase:`a72)
  (hfew:`H ((`KR (`u7 `a9k)
  &&`aaY `s6)=`d) Aa)
  (hline:`gO) (hs:`Bf `a9k (`lg `L!)) (hplain:`qv)
  (hsw:`su `a9l `g):
  `arL (.Expr `a9l pos) go:=by
 intro pins s σ H De I #[`bg,`bh,δ,dp,δ',pt,e1,kk];let#[en,B,a,ns,as,sos,v,b1,b2,env,at',hj,rv]:=pt;delta mx0 at e1;cases e2:go δ with
 | none=>apply `as;cases e1
 | some d=>
 rw[e2,`s,`z3,`s] at e1;let#[k,e6,e1]:=`dL;split at e1
 rotate_left
 ·cases e1
 rename_i es hnode;split at e1
 rotate_left
 ·cases e1
 rename_i hz;cases e1;refine `a8q (jj0 X1 E70 E80 jd0 `ago (vv0 (`adV j hv) t00 hs) `jx hfew `jy hs `sY);have J:=`iL;apply `W0;apply `qF;refine#[a,`b0,`ni,`agp,v,hj,c,xs,v,rfl,rfl,`Ov,`bk `WZ hz,?_];have nk:`k0 X.K H1 B as `Xc `a_V:=#[_,rfl,`arM `aqa];let#[p1,p2,p3]:=J.w.put `xz f1 f2 nk `aDB;refine#[a,_,p1,kk _ ?_];rw[`bz ((HO.lst `PK)=(`acm `PK).ho),p2];let#[d0,d',Z,q1,M]:=(`nh).setN J p3;let#[x,mk,Y]:=Pw0 `z3;have O:dpN i (DL.setN i k `Xc δ)=`c (`agm k `Xc):=by
  delta DL.setN;rw[Y];exact N20 Y _
 rw[q1] at O ⊢;exact#[`F8 s1 b1 b2 Z `hx M,B,a,_,as,_,v,b1,b2,M,#[`hx,`xz,O,p3],hj,(`aDr).mono (`K5 `xz) `NI]
def kg0(i j:Nat)(gk ga gb:GE):GSB:=fun δ=>`a5? λdk=>`gI λns=>if `ajf then
 (`a9m).bind fun δ2=>(`a9n).map fun δ3=>.nx δ3 else `g
open T in
def Ti0{st1 st2 st3:`a0}{rest:`d8}{G:GSB}{ga gb:GE}(i j:Nat)(hij:`F!)
  (h1:PS X st1 `a8J)
  (h2:`arL st2 ga)
  (h3:`arL st3 gb)
  (h:`lr X `bG G):`lr X (st1::st2::st3::`bG) (z80 (kg0 i j gk ga gb) G):=(.mk λH₀ B₀ δ pins s σ H D I hq176=>by
 apply `zg hq176
 delta z80 kg0 at e;cases e1:`PX with
 | none=>rw[e1] at e;cases e
 | some dk=>
 rw[e1,`s] at e;cases e2:`gX with
 | none=>rw[e2] at e;cases e
 | some ns=>
 rw[e2,`s] at e
 by_cases hf:`ajf
 rotate_left
 ·rw[`Vx] at e;cases e
 rw[`H6] at e;cases e3:`a9m with
 | none=>rw[e3] at e;cases e
 | some δ2=>
 rw[e3,`s] at e;cases e4:`a9n with
 | none=>rw[e4] at e;cases e
 | some δ3=>
 rw[e4] at e;refine uw0 h1 (uw0 h2 (uw0 h3 (h.go `bg `bh δ3))) `z s σ H D I #[`bg,`bh,δ,dk,ns,en,e1,hf,e2,hij,fun σ1 H1 p1=>#[`bg,`bh,_,_,δ2,p1,e3,λH2 p2=>#[`bg,`bh,δ2,_,δ3,p2,e4,λH3 p3=>#[r,p3.en,e,k]]]])
omit z
omit DL
open Y
def Oy0(h:`eS):PE X e (`ir (∃a sub,`a60/\te σ `a61 Q)):=(λpins s σ H Q I #[a,sub,o,q]=>h `z s σ _ Q (I.opened o) q)
omit L2
open X
mutual
def tr:`ey
 | `c5=>trs ds
 | `eo=>`q
 | `t9=>`q
 | `zq=>`q
 | _=>`d
def trs:`U6
 | []=>`d
 | `b1=>tr d&&trs ds
end
section
variable{B:BS}
mutual
theorem Gx0(g:`a9o):`Hk (`l3->`aV?)
 | `y,_,_,h=>`IJ wh0
 | `cL,_,_,h=>`IJ xz0
 | `cZ,_,_,h=>`IJ ys0
 | `co,_,_,h=>`IJ w40
 | `c5,_,n,h=>by
  delta tr at n;rw[wo0] at h ⊢;apply `Uf;exact#[a,xs,e,g a xs q.1 q.2,c00 g n r]
 | `eH,_,n,h=>by delta tr at n;cases n
 | `lV,_,n,h=>by delta tr at n;cases n
 | `qp,_,n,h=>by delta tr at n;cases n
theorem c00(g:`a9o):`ln (trs ds=`d->`anu)
 | [],_,_,h=>`IJ ze0
 | `b1,_,n,h=>by
  delta trs at n;rw[`a?] at n;rw[O8] at h ⊢;apply `Hl;exact#[x,r,e,Gx0 g n.1 h1,c00 g n.2 h2]
end
omit z
def pe0(ns:`i):`Bb
 | `t [k,`t r]=>(s30 r).bind λn=>match ns[n]? with
  | `l2=>`bL (`cV k=`d/\trs es=`d/\ql0 es=`d) (`t [k,`mC])
  | _=>`g
 | _=>`g
def S00{d:D}(h:`HW):`l1:=by cases d<;>first|rfl|(cases h)
section
variable{B:BS}{a:`f}{as:`aw}
def RpW.off_tup(w:`f'){t:`f}(h:H t=`i?):t∉as:=(λz=>by
 rcases w.own t z with q|q
 ·rw[q,w.at'] at h;cases h
 ·rw[q.2] at h;cases h)
open T in
def RpW.part(w:`f'){d d':D}(r:`lW)(h:`arN=`c d'):Rp K `x' `zZ d' v:=by
 delta pe0 at h;split at h
 rotate_left
 ·cases h
 rename_i k rr;let#[n,er,h]:=`j3;split at h
 rotate_left
 ·cases h
 rename_i es hn;split at h
 rotate_left
 ·cases h
 rename_i hq;cases h;let#[h1,h2,h3]:=hq;rw[rb0] at r;rcases r with⟨k',c,e,_⟩|⟨_,t,xs,rfl,q,rs⟩
 ·exfalso
  cases k<;>cases e
 rw[ub0] at rs;let#[vk,r1,rfl,rk,rs]:=rs;rw[ub0] at rs;let#[vc,r2,rfl,rc,rs]:=rs;rw[rq0] at rs;subst rs;rw[rb0,er] at rc;rcases rc with⟨k',c,e,hc,rfl⟩|⟨e,_⟩
 rotate_left
 ·cases e
 cases e;let#[so,J,nk]:=`a70;let#[ys,rfl,ry]:=rl0 nk;have gt:`aH1 (λ_:`f=>`cx) `a7A:=λb xs _ z=>#[`D3,`k (ra0 (w.off_tup z)) z]
 rw[wo0];refine`zT t (gt t _ q.1 q.2);rw[O8];refine`zT vk (lw0 h1 (T30 (S00 h1) rk));rw[O8];refine`Ul `tq ?_;rw[w80];exact#[c,ys,rfl,`n #[`D3,`n (w.opAt hc J)],c00 gt h2 (g20 h3 ry)]
omit z
def Env.blank{σ:St}(h:`wr=n):Env K H `zZ σ (`aVw):=by
 subst h;refine#[?_,λa z=>`xx,`a_D]
 ·induction σ with
  | nil=>exact `ah
  | cons o σ ih=>exact `aE `sl ih
 ·rw[`tW] at h1
  split at h1<;>cases h1
def Vh0(i j:Nat)(g g2:GE):GSB:=fun δ=>`ka λd=>`gI λns=>(`arN).bind λd'=>(g2 `a9p).bind λr=>match r with
 | `mC=>`bL `W' (.rt `Bt δ)
 | _=>`g
section
variable{e2:`G}{g g2:GE}
open T in
def Z1(i j:Nat)(nd:`fp)(he:`WY)(h2:PDF X e2 g2)(hi:`ua)(hy:`nG)
  (hsw:`su e `Mz)
  (hf:`lT):
  `lr X [`nj `s6 e pos,`acR (`c e2) pos2] (Vh0 i j g g2):=(.mk λH₀ B₀ δ pins s σ H D I hq177=>by
 apply `nN hq177
 delta Vh0 at e1;apply `bl;let#[d,q1,e1]:=`dL;let#[ns,q2,e1]:=`dL;cases q3:`arN with
 | none=>rw[q3] at e1;cases e1
 | some d'=>
 rw[q3,`s] at e1;let#[rr,q4,e1]:=`dL;split at e1
 rotate_left
 ·cases e1
 rename_i es;split at e1
 rotate_left
 ·cases e1
 rename_i hfl;cases e1;apply `a9q;refine uw0 (St0 nd hi hy (he.go B δ) hsw hf) (uw0 (i00 (vx0 (Oy0 (h2.go `zZ `a9p)))) Y00) `z s σ H D I `a9r;have J:=`iL;refine#[a,`b0,`ni,`mC,?_,q4,`a9s]
 ·exact(`a9t).set j (J.w.part r1 q3)
 ·let#[c1,c2]:=`arz s2
  refine#[a,`b0,c1,kk _ σ _ ?_];have M:p∉as:=λz=>by
   let#[so,l]:=p60 J.w.len z J.w.nd;delta opened at hp;rw[l] at hp;cases hp
  have O:`a9u:=by rw[ra0 M] at hp;exact hp
  have sm:=`mo c2;refine `a9v;let#[xs,o1,rx]:=ro;rw[w80];refine#[p,xs,rfl,`n #[`II (`sI O),`ahM],`a9w];apply `li;rw[`z8 (M `a9x),to0 M];exact o1)
omit z
omit DL
namespace L2
open Spec PyProof.Rows DL
section
variable{P:`av}{w:`T}{h:`aa}{a:`f}{o:HO}
def ObjOk.stayF(x:`Si)(ho:`aj0)(ht:`Go)(hf:∀b ob vs,ob.data=`Er->H b=`a9y->`hY=`a9y):`g7 P w H' h a o:=by
 induction o with
 | lst xs=>exact x
 | tup xs=>exact x
 | dK kvs=>exact x
 | dT kvs=>
  skip;apply `aN3;done;exact`Sk xs `aN4 e
 | dX kvs=>exact `fM x
 | set S n=>exact x
 | ins C dx fs=>exact#[ho _ x.1,x.2]
 | own y=>exact x
 | xd fs=>exact x
 | rng lo hi=>exact x
 | frz ob u ih=>exact#[x.1,ih x.2]
 | tbl ps=>
  apply `aN5;exact#[cont,e,t,λpos cv q=>by
   skip;let#[c',oc,vs,tq,z1,z2,z3,z4]:=`aN8;done;exact#[c',oc,vs,tq,z1,hf _ _ _ z3 z2,z3,z4]]
 | met f y=>exact x
 | ext φ=>exact x
 | deep sub=>exact#[x.1,λp hp=>#[(`arO).1.imp id (ho _),(`arO).2.stay (`arO).1 (`tw) ho]]
omit z
def nk0(H:Hp)(c:`f):Hp:=λb=>`D (b=c) `g (H b)
def e00{c:`f}:nk0 H c c=`g:=(`a4)
def p80{b c:`f}(h:`z2):`aH3=H b:=(`bV)
def nl0{b c:`f}{o:HO}(h:`a9z):`z2/\`D5:=by
 by_cases e:b=c
 ·rw[e,e00] at h
  cases h
 ·rw[p80 e] at h
  exact#[e,h]
def ic0{b c:`f}{o u:HO}(e:H c=`bS)(h:`D5)(n:o≠u):`a9z:=by
 rw[p80 λy=>n (by rw[y,e] at h;exact`V?)];exact h
def HOk.off{P:`av}{w:`T}{h:`aa}{c:`f}{v:`iR}(x:`fo)(e:`aV2)(hd:oC.data=`q! v):HOk P w (nk0 H c) h:=(λa o z=>by
 let#[ne,z]:=nl0 z;refine(x a o z).stayF (λb q=>`a9A) (`yr `a9A) λb ob vs d q=>ic0 e q λy=>?_
 injection y with y1 y2
 rw[y1,hd] at d;cases d)
omit L2
open X
def Iw0(i:Nat)(n:Int)(f:`r):GE:=fun δ=>match `c6 with
 | `c (.sh `Bt)=>(f `arP).bind (`U1 `l3)
 | _=>`g
section
variable{σ:St}{H3:Hp}{s s2 s3:`v}{c p f cd:`f}{oF oK:Obj}
def Pg0(I:`B)(hf:`uU)(hc:`h9):(`Gt `z2)/\∀b∈`yt,`z2:=by
 have ge:=`aC0 x c hf hc;refine#[λb o e z=>?_,λb hb z=>?_]
 ·have:=B6 `akk
  apply `ay z;exact `a9B
 ·rcases `bF (`akn b hb) with e|hb
  ·skip;let#[m,#[o,es,ep,h1,h2,h3],_]:=`jl
   let#[v,o',h4,h5]:=`aO3;rw[← e,z,h4] at h1;cases h1;rw[h5] at h2;cases h2
  ·apply `akl
   have:=B6 ho;apply `ay z;exact `a9B
def Cx0(I:`B)(hc:`h9)(L:`a6z s2):`a9C:=by
 have hn:=`SC;have up:∀b o,`D5->`a9D=`aF:=λb o e=>by
  rw[p80 (wp0 e hn)];exact `a9E
 refine I.call' (ch:=[]) L.os #[λb o e n _ _=>`a9F,λb o e n _ _=>#[`akw,`a9F],λb o e n _=>?_,λb o e _=>L.there b o e,λb xs e=>`arQ,λb o u e=>`arQ,λb ps e=>#[⟨⟩,`k Array.append_empty `arQ]] (L.hok.off L.hc L.cell) (`k L.gens `k4) `al5
 apply `z_
 ·rw[bc,e00]
 ·rw[p80 bc]
  cases z:H2 b with
  | none=>rfl
  | some o'=>
   rcases L.new b n (by rw[z];apply `agh) with q|q
   ·exact `K q bc
   ·exact `K `mL (F40.mpr q)
def G10{k:Nat}{fw:`f0}{ps:`e}{us:`am}{vs:`P}{Q:VK}(F:`anW fw sp)(hr:`nA)(hb:`BY X.K fw ps [])(J:`a9C)(hf:`uU)(hc:`h9)
  (h2:`mX H2 `aeI) (e2:`a6q) (hd:`ant) (r:`pY) (h:sp vs H2 (λv H'=>Q v (`arR)) E0):`p! (`f1 `vV us) `f7 s2:=by
 let#[a1,a2]:=Pg0 J hf hc;have e0:=J.env0;have hl:`al6:=`bk `a2 `aR_
 have nn:∀{b},`z2->`a9D=`g->H2 b=`g:=λ{b} n e=>`QG (p80 n) e
 have e1:`aRW s2 H2:=#[e0.frames,e0.mod,`hZ #[(`aeX).1,nn (a1 b o e) (`aeX).2],e0.bsz,e0.funs,λb hb=>nn (a2 b hb) (e0.frf b hb),h2,e0.bare];have bi:=hb s2 us J.kIn (`k `du hl);rw[`du] at bi;refine i8 (P6 (F.run X.A `h0 s2 H2 `GX us vs _ E0 hr e1 bi r h) `Ta);skip;cases r with
 | error e=>done;exact lj0 (X:=X) `z σ `aH4 s2 e s' J hq
 | ok fl=>
  cases fl with
  | next=>done;exact `yS
  | brk=>done;exact `yS
  | cont=>done;exact `yS
  | ret u=>
   let#[v,H',os,bare,un,hok,rv,q]:=hq;have e':=`WK _ _ _ e2;done;refine#[v,`arR,J.call' (ch:=[]) os #[`Ef,λb o e n hb hx=>`Ny un.slot (nn (a2 b hb) n),`aOE,λb o e hx=>un.there b o e hx,λb xs e=>?_,λb o u e=>?_,`aOG] (hok.off e' hd) bare `al5,rv,q]
   ·apply `z_
    ·subst bc
     have h3:=(h2 _ _ e2).1;rw[e] at h3;cases h3;exact(hok _ _ e').1
    ·exact `Ny `aq2 (nn bc n)
   ·apply `z_
    ·rw[bc,e00]
    ·rw[p80 bc]
     exact un.free b o e (nn bc n) hx
   ·exact ic0 e' (un.tups b xs `Xd) λy=>nomatch y
   ·rw[`a9G]
    exact `WK b o u `Xd
   ·let#[more,e3]:=`aq1 b ps `Xd
    exact#[more,`k `a9G e3]
omit z
section
variable{g q:Str}{lp:`Tj}{p1 gp:Pos}{Pt:`f}{k m:Nat}{n:Int}{ps:`e}{f:`r}
open T in
def yh1(i:Nat)(C:`PD FnD g)(hr:`qw)(hkm:k<=m)(hT:TQ `O9 Pt `aei)(hC:`a6w)(hB:`a6x)(hcode:`a6v)
  (hcl:∀c,`h9->`a6t)
  (hfd:∀(c:`f) (pm ctv:`A) (cd:`f),`a6y)
  (hkl:`uV=`ib) (hk:`akg) (hN:`ez) (hfn:`H (`uU) Aa) (hdef:`H (`a6u) Aa)
  (hg:`hf g) (hdb:`ES g)
  (he:`oL `a9H (`a9I::`agz))
  (he2:`Bf `agz `a9J)
  (hpl:`q5 `a9K):
  PD X (`gt (`dA g gp) `a9H) (Iw0 i n f):=by
 let#[fa,fw,F,hm,kp,hb]:=C;refine .mk λB δ=>?_
 apply `a';let#[d,en,h,kk]:=h;delta Iw0 at h;split at h
 rotate_left
 ·cases h
 rename_i es hi;cases ef:f `arP with
 | none=>rw[ef] at h;cases h
 | some d'=>
 rw[ef,`s] at h;split at h
 rotate_left
 ·cases h
 rename_i ht;cases h;let#[o,ho,v,hv,rv]:=en.sh_at hi;rw[w80] at rv;let#[pa,xs,rfl,hq,M]:=rv;subst hv;let#[c,hc]:=`SB x (`n hk);let#[t,tp,Y]:=wq1 I hT;apply `al7;refine `aR0 kp ?_;rw[he];show `b6 (`CK (`a9I::`a9K)) s;refine F3 (thn (yf1 (i:=i) (c:=c) (c0:=c0) (Pt:=Pt) (p:=pa) I hN ho hk hkl hc (hcl c hc) hdef hcode hC hB Y (Eu0 _ _ _) λpm ctv cd=>hfd c pm ctv cd) λu s2 z=>?_);let#[f',cd,oF,oC,oK,Z,H2,rfl,L]:=z;rw[he2];show `b6 (`VY `a9J) s2;refine F3 (`aO? ?_);have J:=(Cx0 I hc L).tok (`xd+1);refine M0 #[J.kIn,?_];have O:=`gk L.same;have nB:∀{z:`f} {o:Obj},H2 z=`c (`fT o (`go z))->¬B z:=λe z=>by
  let#[_,y]:=(O.bad _ z).nf _ _ e;cases y
 refine G10 (p:=pa) F (hr.mono hkm) hb J hfn hc L.hok L.hc L.cell (vs:=[`ag f',`gz]) (`aE rfl (`aE `al `ah)) #[B,`arP,d,O.bad,?_,ef,λv H' sm r=>?_]
 ·rw[O8]
  refine`hD ?_ ?_
  ·rw[Vr0]
   refine#[f',xs,rfl,#[oF,oC,oK,Z,c,cd,pa,x,y,#[nB L.hf,L.hf],L.fn,#[nB L.hc,L.hc],L.cell,#[nB L.hcd,L.hcd],L.code,`u #[xs,hq.mono (`BU L.same),by rw[`F5]]],?_,M.mono (`BU L.same)];delta rk;rw[`x,`d?,`F5]
  ·rw[O8]
   exact`hD `B2 `jg
 ·have e':=sm.old _ _ L.hc
  refine kk v (`arR) #[`HP,`a8s] (Gx0 (λb xs nb e=>#[nb,ic0 e' e λy=>nomatch y]) ht r)
  ·rw[p80 (wp0 e (`SC))]
   exact sm.old _ _ (`a9E)
  ·exact L.same.nf _ _ _ (sm.nf _ _ _ `Xd)
omit z
section
variable{P:`av}{w:`T}{Pt:`f}{q:Str}
def vj1{st:`a0}{N ps:`e}{k:Nat}{f:`r}{G:`gR}(F:FunL K x `fK st fa fd c0)(S:`qg)
  (body:∀(A:`aq) (outer:`aEp) (s:`v) (H:Hp) (E:XK),`aqW->`Pl `u5 fa `WG->`mN (`ae7 fa `WG) `Lv G)
  (hf:`aoo):
  `bt `fZ ps (spT Pt q (spD K f)):=by
 skip;let#[oc,od,kV,doc,pm,an,ct,osl,rfl,lk,hcd]:=F.ex;done;refine Pf0 lk hcd S `aJ1 (λA outer s H vs Q E hr zQ=>?_)
 ·skip;let#[_,B,ds,d,_,r,h,_]:=zQ;done;rw[`a2];exact`HK
 ·skip;let#[hT,B,ds,d,hb,r,h,q]:=zQ;done;refine#[_,(`dm A `dK s H E hT hr H B `BG).nox,?_]
  skip;have en:`HL:=by
   apply `HM;apply `HN;rw[`a2];apply `HO
  apply `aop
  ·done;apply `aoq
  ·done;apply `aor
  ·done;apply `aos
omit z
omit DL
namespace L2
open Spec PyProof.Rows DL
def Ge0{l:W.OpenLaw}{n k:Nat}{qp:`av}{loose:`e}{XP:`a4F}{d:DefRec}{K:`G9->`C}{as:`aw}{ee:∀P,as=`pk (K P)}{Pt c0:`f}{q:Str}{CX:CXT}{sp:`C->Sp}{x:Str}
  (hn:`amV) (hn2:`G8) (hdf:`a4G) (hr:`a6K)
  (hKP:∀P:`G9,(K P).lookup Pt=`g) (hC:∀P:`G9,W.codeHdIn (K P) c0 Pt=`d)
  (F:∀(w:`T) (mg:`cd) (fa:`f) (h:`aa),`a9L h->`arS->`a4H ->
   ∃fd:`f0,(`a6M) /\
    ∀base:`aa,`a9L `aJ->`Sn->`aqY->`WH->`me `j9 w `Xe mg `aJ CX k fa fd [x] (spT Pt q (sp `Xe)))
  (hsp:∀(w:`T) (H:Hp) (a:`f) (ns:`ai),`TU->SqL `Xe H a `xv->sp `Xe `gH H `aqZ `xw)
  (hCX:∀(H:Hp) (s:`v) (e:`A) (s':`v),`a6O s):
  W.WalkO qp loose XP (W.kmHook K as ee [Pt]).says `amX d [] `a4L:=by
 refine Att.U20 hn hdf λw s₀ s₁ mg mb fa o pm cd doc a vs ns G Y ho hd hcd Z O M J hw hg=>?_
 have KX:=W.km_in_of Y;have hP:=W.km_tabs_of Y Pt `CU;let#[fd,hb,hF]:=F w mg fa _ KX G.T.g Z;have hB:`a6L:=by
  skip;let#[bm,ob,b1,b2,b3,b4,b5,b6]:=G.T.bmain;done;refine#[bm,ob,b1,b2,`lA,`lA,b3,b4,b5,b6]
  ·skip;let#[o',es,ep,e',d',_]:=G.T.g
   rw[z,e'] at b3;cases b3;rw[d'] at b6;cases b6
  ·rw[z,hP] at b3
   cases b3;cases b4
 exact Nv0 KX G.T.g G.T.b G.T.builtins G.T.nolimit hg O M (C3 J hn2) hr hP (hKP _) (W.codeHd_of_K KX (hC _)) hB hF hb (λH hS=>hsp w H a ns J hS) λH e s'=>hCX H `gF e s'
omit L2
open X
def partsOf(ns:`i):`anf
 | []=>`qm
 | p::ps=>(pe0 ns p).bind λd=>`Fi `Xf d
def bs0(i:Nat)(go:GE)(n:Nat)(caps:`j)(f:`aR)(ge:GE):GX:=fun δ=>`z4 λd=>`gI λns=>`IB λk=>match `lh with
 | `c (`m ps)=>(`Xf).bind λitems=>(yh0 n `dF (`a9M) f noT ge (`aiJ)).bind λr=>match r with
  | `m rs=>`bL (trs rs=`d) (`t rs,δ)
  | _=>`g
 | _=>`g
theorem RpW.parts{B:BS}{a:`f}{as:`aw}(w:`f'):∀{ps items:`i} {xs:`P},`q? ps xs->`Xf=`Pp->Rps K `x' `zZ `bJ xs
 | [],_,_,r,h=>by
  rw[rq0] at r;cases h;rw[ze0];exact r
 | p::ps,_,_,r,h=>by
  skip;rw[ub0] at r;let#[x,xs,rfl,r1,r2]:=r;delta partsOf at h;let#[d,e1,h]:=`j3;cases e2:`Xf with
  | none=>rw[e2] at h;cases h
  | some ds=>
  rw[e2] at h;cases h;done;rw[O8];exact#[x,xs,rfl,w.part r1 e1,w.parts r2 e2]
def Ha0{B:BS}{a:`f}(q:`Es)(rs:`q0 `bJ):ItD K B (Itl K a) `bJ H:=by
 refine`aeq
 ·have:`y0:=`NM
  apply `an6
 ·let#[e3,y]:=y
  apply `an7;have:=`an8;apply `ay e4;cases `w;subst e3;apply `an9
 ·exact`an'
section
variable{p:Pos}{go:GE}
open T in
def Iz0(i:Nat){sc scope:`ev}{elt iter:`G}{N N':`e}{n:Nat}{caps:`j}{idx:`j}{f:`aR}{ge:GE}
  (hm:`ct `dg=`g) (hbt:`a9N) (ok:`HV) (hidx:∀j∈idx,j<n) (hi:PN X i `j? go)
  (hg:`t7) (he:`t8)
  (hc:`fv) (hsc:`t!) (hN:`t?) (hs:`f8) (hgl:`hf `dg)
  (hst:`PO `arT (`lg (`arT))) (hpl:`ga):
  PX X (`pS `dg [`arT]) (bs0 i go n `dF f ge):=(.mk λH₀ B₀ δ pins s σ H Q I hq178=>by
 apply `nN hq178
 delta bs0 at e1;apply `bl;let#[d,q1,e1]:=`dL;let#[ns,q2,e1]:=`dL;let#[k,q3,e1]:=`dL;split at e1
 rotate_left
 ·cases e1
 rename_i ps hn;let#[items,q4,e1]:=`dL;let#[rr,q5,e1]:=`dL;split at e1
 rotate_left
 ·cases e1
 rename_i rs;split at e1
 rotate_left
 ·cases e1
 rename_i htr;cases e1;apply `a9q;refine vx0 (mo0 m9 hgl hm hbt (vv0 (Qi0 hc hsc `U0 (Ql0 (wj0 (hi.go B δ))) (g:=`Pw) (tt:=`Dr tDT X.K noT) (te:=`aog)
  `aoh
  (`ah8 (Q5 B δ `z s' σ H Q I h))
  `aoi hs) t00 hst) `E `E hst hpl) `z s σ H Q I `a9r
 have J:=`iL;let#[c,so,rfl,f1,f2,f4]:=`aB_ r1 q3 hn;apply `qF;have sq:SqL' X.K (`a9O) `zZ c xs:=`a8w;refine#[a,`b0,`ni,c,rfl,#[xs,sq.to],?_];have key:=eb0 (K:=X.K) (B:=`Lm) (δ:=`aiJ) (σ:=σ) (H:=`a9O) (n:=n) (caps:=`dF) (gi:=`a9M) (idx:=idx) (f:=f) (gt:=noT) (ge:=ge) hidx
  (Q:=λv H'=>Yb0 σ H' λxs H2=>`aTR (v::xs) H2 `a7v) #[`m rs,`a9t,q5,`a9s]
 ·let#[O,_,e',fk]:=key
  cases e';exact fk (Itl X.K c) _ `FX (Ha0 sq (J.w.parts rx q4))
 ·let#[zs,o1,rz]:=ro
  refine#[p,zs,rfl,`n #[`n (`n o1),`a9P]];obtain⟨H3,M⟩:∃H3,H3=upd H2 l (`t zs):=`al;rw[← M];have s3:`a8L:=`k M (yw0 hl)
  let#[c1,c2]:=`arz (`HH s3);have sm:=`mo c2;refine#[a,`b0,c1,kk _ _ (`a9v)];have mw0:∀b xs,`a9Q->`WV:=λb xs z m=>by
   let#[so,l]:=p60 J.w.len m J.w.nd;have:`i8 H1 `eK b=`P1:=by delta opened;rw[l]
   rw[(`HH s3) _ _ `w] at z;exact `aq8 so xs (B4 z)
  have gt:∀b xs,`a9Q->`Ey/\`a9R:=λb xs z=>by
   have hb:=mw0 b xs z;have e:`a9R:=by
    apply `li;rw[`z8 (hb `a9x),to0 hb];exact z
   exact#[λw=>((`rf sm).bad b w).nt xs e,e]
  rw[wo0];exact#[l,zs,rfl,gt l zs (`yM M),c00 (λb xs _ z=>gt b xs (s3 _ _ z)) htr rz])
omit z
def Oo0(gx:GX):GS:=`HX `aoK (.rt r.1)
def S9(h:`zC):`HC Oo0 gx:=(.mk λH₀ B₀ δ pins s σ H D I hq179=>by
 apply `bC hq179
 delta Oo0 at e1;cases e2:`k9 with
 | none=>apply `as;cases e1
 | some q=>
  apply `as;cases e1;refine `HD `DB `a9S;apply `a9T;exact k v H' `ard (`are (`pe c1)))
def hf0(f:`aR)(G:GSB):`i->Ds->`It
 | [],δ=>`xf
 | `b1,δ=>`aVs fun δ1=>match `NH with
  | `aDb=>hf0 f G ds δ2
  | r=>r
def Tf0(gi:GA)(f:`aR)(G:GSB):GSB:=`and (hf0 f G `bJ δ)
open Classical in
def J5{body:`d8}{pos:Pos}{G:GSB}{f:`aR}(hp:`GH)(hc:`dV)(hi:`j0)(hg:`HA)(hb:`lr X `dm G)
  (hs:`f8):PSB X `alx (Tf0 gi f G):=(.mk λH₀ B₀ δ pins s σ H D I hq180=>by
 apply `bC hq180
 delta Tf0 at e1;apply `bl;cases e2:`Eq with
 | none=>apply `as;cases e1
 | some items=>
  apply `as;apply `fu;apply `aXg
  have a8:`aXh (`aGw tDB):=`aXj (`afr `P2 h)
  apply `aXl;apply `aXm
  apply `aXn
  apply `aXo
  apply `aXp
  have a3:`aXq:=#[λb o h=>by
   by_cases z:`B'
   ·rw[`aXr] at h;cases h
   ·rw[O] at h
    have h':(`Ex)=`aF:=h;rw[`qu] at h';exact h',λb o xs h=>by
   by_cases z:`B'
   ·apply `aXs
    apply `aXt;cases h0
   ·rw[O]
    show (`Ex)=_;rw[`qu];exact h]
  have hS:`aXu:=#[λb o h=>by
   have h1:=`aXv
   by_cases z:B b
   ·rcases b2 b z with q|q
    ·rw[a4 b q];exact h1
    ·rw[h] at q;cases q
   ·rw[Y b z];exact h1,`aXw]
  have Z:=`nh;have start:`aXx:=by
   apply `aXy
   ·by_cases q:`n6
    ·exact `jn
    ·exact `aXz
   ·have hn:=`aXA
    have nb:¬`n6:=λz=>`jw a z hn
    apply `aXB;rw[h2] at e3;cases e3;cases e4;exact `aXC
   ·rw[a4 a z]
    exact `aXD
  refine#[λi m σ H=>`aXE hf0,#[_,rfl,`bP,δ,`kO,e1],?_];rintro i m σi Hi ⟨rfl,b4,δi,M,ei⟩;apply `aXH
  by_cases hlt:`HE
  ·refine `aXI hf0 #[`UJ,`ch,rfl,hlt,δn,en',e']
   apply `aXJ;apply `aXK;have a6:`aXL:=rd B' (λb o n h=>by
    have h':Hh b=`aF:=`ai5
    apply `aXM;rcases c2 b z with q|q
    ·exact `aXN
    ·rw[h'] at q;cases q) env0.bad
   have a5:=`aXO
   replace M:=M.grow sm
   have a2:`aXP:=by
    rw[`an?];congr 1;rw[`aoa] at hd;exact B4 hd
   rw[a2] at ei;delta hf0 at ei;cases e3:f d δi with
   | none=>rw[e3] at ei;cases ei
   | some δ2=>
    rw[e3] at ei;simp only[`s] at ei;apply `aXQ;apply `aXR;cases e4:G δ2 with
    | none=>rw[e4] at ei;cases ei
    | some rb=>
     rw[e4] at ei;apply `aXS;cases rb with
     | nx δn=>apply `aob
     | rt d' δn=>
      cases ei;exact λv σ' H' ev=>k v σ' H' #[`aoc `ard,by
       let#[Bx,x1,x2,ex,rx]:=ev.ex;exact(`a9U).ex.elim λBy hy=>#[Bx,x1,λa z=>(x2 a z).imp id λq=>hS.free q,ex,rx],(`a9U).fr,`jw]
  ·have e:i=`jb:=`ch
   subst e;apply `aXT;rw[`UK] at ei;cases ei;exact `aXU)
abbrev GTX:=Ds->`aT (`aj×Ds)
def tTX(K:`C)(H₀:Hp)(B₀:BS)(δ:Ds)(gt:GTX):TT:=`ir (∃r,`dr/\`hw=`fj/\∀H',`iT H' σ r.2->Q r.1 H')
structure PTX(X:Cx)(e:`G)(gt:GTX):Prop where
 mk::go:`sW PT e `a9V
structure PWX(X:Cx)(e:`G)(gt:GTX):Prop where
 mk::go:`sW PW e `a9V
def liftT(gt:GB):GTX:=fun δ=>`a9W λb=>(b,δ)
def uc0(gx:GX):GTX:=fun δ=>`aoJ λr=>match r.1 with
 | `e5=>`c (b,r.2)
 | _=>`g
def o50(gt:GTX):GTX:=`HX `a9W (!r.1,r.2)
def N80(gt gu:GTX):GTX:=`arU (gu r.2) (`c (`q,r.2))
def orT(gt gu:GTX):GTX:=`arU (`c (`d,r.2)) (gu r.2)
def ifX(gt:GTX)(Ga Gb:GSB):GSB:=`arU (Ga r.2) (Gb r.2)
def S90(ga:GE)(gx:GX)(f:`bA):GX:=`T6 λda=>`zY `a9X (`aoJ λr=>(f da r.1).map λd=>(d,r.2))
section
variable{a c:`G}{rest:`d3}{as bs:`d8}{gt gu:GTX}{gb:GB}{ga:GE}
def y00(h:PTD X e gb):PTX X e (liftT gb):=(.mk λH₀ B₀ δ pins s σ H Q I hq181=>by
 skip;apply `bC hq181
 apply `bl;delta liftT at e1;cases e2:`d4 with
 | none=>apply `as;cases e1
 | some t=>
  apply `as;cases e1;done;exact `H7 h #[t,env,e2,λH' s'=>k H' (`ah5)])
open T in
def N5(h:`zC)(he:`akN):PTX X e (uc0 gx):=(.mk λH₀ B₀ δ pins s σ H Q I hq182=>by
 apply `bC hq182
 delta uc0 at e1;cases e2:`k9 with
 | none=>apply `as;cases e1
 | some q=>
  apply `qE;split at e1
  rotate_left
  ·cases e1
  rename_i t hq;cases e1;refine K80 `DB he `z s σ H Q I `a9S;apply `a9T;rw[hq,xz0] at rv;exact#[t,rv,k H' ev.s])
def M5(h:`IK):PTX X `GE (o50 gt):=(.mk λH₀ B₀ δ pins s σ H Q I hq183=>by
 apply `bC hq183
 delta o50 at e1;cases e2:`hw with
 | none=>apply `as;cases e1
 | some q=>
  apply `as;cases e1;exact Md0 `DB `z s σ H Q I (`xC k))
def R5(h:`IK):PWX X `akP gt:=(`arV Qr0)
def M8(h:`IK):PWX X `akQ gt:=(`arV Lf0)
def J2(ha:`IK)(hb:PWX X `GA gu):PWX X `GB (N80 gt gu):=(.mk λH₀ B₀ δ wh pins s σ H Q I hq184=>by
 apply `bC hq184
 delta N80 at e1;apply `arW;refine `a9Y Lc0;cases hq:q.1 with
  | true=>rw[hq,`a4] at e1;apply `Xg
  | false=>rw[hq,`fm] at e1;cases e1;exact k H' J)
def zw0(ha:`IK)(hb:PWX X `GC gu):PWX X `GD (orT gt gu):=(.mk λH₀ B₀ δ wh pins s σ H Q I hq185=>by
 apply `bC hq185
 delta orT at e1;apply `arW;refine `a9Y Fc0;cases hq:q.1 with
  | true=>rw[hq,`a4] at e1;cases e1;exact k H' J
  | false=>rw[hq,`fm] at e1;apply `Xg)
def PWX.pt(h:PWX X e gt):PTX X e gt:=(`arV L2.PW.pt)
def M4(hc:PTX X c gt)(ha:`a7a)(hb:`a7b):`an1 PSB ifX:=(.mk λH₀ B₀ δ pins s σ H D I hq186=>by
 apply `bC hq186
 delta ifX at e1;apply `arW;refine Nf0 (`kE hc.go) (ha.go `bg `bh q.2) `aH8 `z s σ H D I `aH9;cases hq:q.1 with
  | true=>rw[hq,`a4] at e1;apply `Xg
  | false=>rw[hq,`fm] at e1;apply `Xg)
open T in
def R3{op:`jN}{rr:R2}{f:`bA}(ho:`h1 op rr)(hf:Op2 X.K rr f)(ha:`c0)(hb:PX X b gx)(hm:`anO):PTX X `tP (uc0 (S90 ga gx f)):=(.mk λH₀ B₀ δ pins s σ H Q I hq187=>by
 apply `bC hq187
 apply `bl;delta uc0 S90 at e1;cases e2:`dO with
 | none=>apply `as;cases e1
 | some da=>
 apply `qE
 by_cases hfl:`a9X
 rotate_left
 ·rw[`ap hfl] at e1;cases e1
 rw[`I hfl] at e1;cases e3:`k9 with
 | none=>apply `f?;cases e1
 | some q=>
 apply `IG;cases e4:f da q.1 with
 | none=>rw[e4] at e1;cases e1
 | some d=>
 rw[e4,`my,`s] at e1;split at e1
 rotate_left
 ·cases e1
 rename_i t hd;have hd:d=.bl t:=hd;subst hd;cases e1;refine Qb0 ho `aiG `a7c hm `z s σ H Q I #[da,env,e2,λx H1 s1 r1=>#[q,`Nr s1,e3,λy H2 ev=>?_]];apply `a7n;refine hf H2 B' x y da q.1 _ _ J.bad (lw0 hfl r1) rv e4 `aqD
 rw[xz0] at r3;exact#[t,r3,k H3 (ev.s.grow s3)])
omit z
omit DL
open Y
section
variable{a:`f}{sub:`nx}
def CloseOk.other(c:`sr){b:`f}{u:`yo}(q:H b=u)(n:`a62):`a9Z=u:=by
 apply `a63
 apply `li;have hb:`ps:=λz=>by
  cases l:`v' with
  | none=>have:=`WO;apply `ay l;cases `w
  | some so=>exact `a64
 rw[`l0];cases l:`lq with
 | none=>exact q
 | some so=>exact `a65
omit z
def FnOk.closing{P:`av}{w:`T}{k:Nat}{f:`f}{ps:`e}(F:`ae8 k sp):
  `ae8 k (λvs H Q E=>∃a sub,`sr/\sp vs `ss Q E):=by
 refine #[λvs H Q E #[a,sub,c,q]=>F.len vs _ Q E q,λA outer s H J us vs Q E hr e hb hv hq188=>?_];let#[a,sub,c,q]:=hq188;have no:∀b,`dp->`a9Z=`g:=λb z=>`Xh z λso z=>nomatch z
 refine P6 (F.run A `dK s `ss J us vs Q E hr #[`al4,e.mod,λb o z=>#[(`a9_).1,no b (`a9_).2],e.bsz,e.funs,λb z=>no b (e.frf b z),e.hok.closed `WO c.at' c.ins,e.bare] hb hv q) `Ta
 skip;cases r with
 | error er=>done;exact hq
 | ok fl=>
  cases fl with
  | ret u=>
   let#[v,H',h1,h2,un,h3,h4,h5]:=hq;done;exact#[v,H',h1,h2,#[`arX `aq2,`arX un.slot,`arX un.free,un.there,λb xs e1=>un.tups b xs (`Xh e1 `a66),λb o u e1=>`WK b o u (`Xh e1 `a67),λb ps e1=>`aq1 b ps (`Xh e1 `a68)],h3,h4,h5]
  | next=>done;exact hq
  | brk=>done;exact hq
  | cont=>done;exact hq
omit L2
open X
def adopt{H3:Hp}{B:BS}{σ:St}{δ:Ds}{a L:`f}{as:`aw}{es:`i}{xs:`P}(en:`dr)(b1:`jZ)(b2:`j_)(env:`bB)(at':`ud)
  (hdx:∀C dx fs,`arA->`a90) (s13:`cP H H3) (hLH:H L=`g) (hL3:H3 L=`My) (hfl:`W') (rx:Rps K H3 B es xs):
  `a91/\∃Hc,`a92/\`iT Hc σ `Xi/\`q1 Hc `Xi /\
   AtN K Hc B σ `Xi i a `agB `pB `FJ/\RpN K Hc B `pB (`ajd) (`OB):=by
 apply `a8K;have c1:∀b∈as,`a8N:=λb hb z=>by
  rcases `acI b hb with q|q
  ·rw[q,hH] at z;cases z
  ·rw[q.2] at z;cases z
 have La:L∉as:=λz=>c1 L z hLH
 apply `a8O
 have b4:=`rb s13;have J:`a8P=(`o `aA1):=`a8Q
 have Z:`a8R:=by
  rw[`aoX];apply `a8S;rw[`RX] at z;exact `a8T
 have a4:`a8U:=`a8V
 have c2:`a8W `FJ `anA:=λk c so q1 q2=>by
  by_cases hk':k<`h!
  ·rw[`W?] at q1
   apply `a8X;exact `a8Y
  ·have hl1:=`a8Z
   rw[`S] at hl1;have b3:`agv:=`a8_
   subst b3;rw[`xA,`pC] at q1;rw[`EZ,`xA,`pC] at q2;apply `a80
 have a2:`afj (`FJ[k]?):=λk C dx fs e=>by
  by_cases hk':`WU
  ·rw[`W?] at e
   exact `a81
  ·rw[`Iv] at e
   cases q:k - `MC with
   | zero=>rw[q] at e;cases e
   | succ n=>rw[q] at e;cases e
 have cl:`a91:=k30 a4 Z J (λk c so q1 q2=>by
  skip;rcases c2 k c so q1 q2 with⟨q1,q2⟩|⟨_,rfl,rfl⟩
  ·done;exact `a82
  ·done;rw[ra0 La];exact hL3) a2
 obtain⟨Hc,M⟩:∃Hc,`a92:=`al;refine#[cl,Hc,M,?_];skip;have ca:Hc a=`c (`oy `agA):=`aH_ M
 have a5:∀b∈`mq,`a84:=λb hb n=>by
  rw[M];apply `li;let#[so,q]:=p60 J hb Z;rw[`ap n,q]
 have O:`a85:=λb hb=>by
  rw[M];apply `li;rw[`a86 (`k z (C8 a4)),to0 hb,`a87]
 have but:`a88:=#[λb u n z=>by
  apply `Xa
  ·apply `Xb
   ·rcases `ajg with w|w
    ·exact `K w n
    ·rw[`arY,← w.2,z]
   ·rw[`IH,hLH] at z;cases z
  ·rw[`Xj];exact s13 _ _ z,λb u xs n z=>by
  apply `Xa
  ·rw[`arY] at z;cases z
  ·rw[`Xj] at z;exact s13.nf _ _ _ z]
 apply `a89;have b7:¬B L:=`II hLH;have hw:RpW K Hc B `agB a `pB `FJ:=by
  refine#[a4,Z,ca,`ju,J,`W2 ?_ #[xs,rfl,gq0 (li0 hfl) (`a9w)],a2]
  ·by_cases n:b=a
   ·exact `n n
   ·refine `u #[?_,`arY]
    apply `Xb
    ·exact`a8'
    ·rw[`IH];exact b7
  ·apply `a8!
   intro z;subst e;have b5:=`a8?;subst b5;exact hdx C dx fs q2 (z▸hLH)
 let#[x,mk,a3]:=Pw0 `z3;let#[d0,Y,b0]:=lr0 a3;let#[a',a6,hB,ro]:=`LB Y;rw[`hx] at a6;cases a6;have a8:`aB1=`a93:=by delta nh0;rw[a3]
 have a1:`q1 Hc (`a93):=`a9e Y b0;have b6:=`agu b1 b2 Y `hx but a1;done;rw[a8];refine#[b6,a1,#[`hx,hB,N20 a3 _,hw],?_];delta vb0;rw[rb0];have a7:`a9h:=`a9i
 exact `a9j a7
def Vi0(f:Str)(fs:`i):`aj:=fs.all λn=>match n with
 | `cG=>`an (x≠f)
 | _=>`d
def Zs0(i:Nat)(c f:Str)(gv:GE):GS:=fun δ=>`a8d λr=>`bL (`z6/\`cV dv=`d/\`a94) (`a95 dv δ)
def dz0(i:Nat)(c f:Str)(g:GE):GS:=`hH λd=>`gI λns=>(Of0 d).bind λes=>`agq λp=>`agr λr=>`bL (`z6/\`W'/\`a94) (`a95 `ajd `Xi)
def Wm0{f:Str}(h:Vi0 f `agt=`d):f∉nm:=(λz=>by
 delta Vi0 at h;rw[`gT] at h;have:=h (`p f) (Y1 z);simp at this)
def b20{f:Str}:∀{nm:`e} {xs:`P},`ff=`aB->f∉nm->`a96:=by
 intro z;induction z with
 | nil=>
  intro z1;cases z1 with
  | nil=>intro _ _;exact rfl
  | cons _ _=>intro h _;cases h
 | cons n nm iq=>
  intro z1;cases z1 with
  | nil=>intro h _;cases h
  | cons x xs=>
   intro h hn
   rw[`it] at hn;have ih:`a96:=iq `fX λz=>hn `Ix
   show (`D (n=f) _ ((n,x)::`aH'))=_;rw[`z8 (hn (`n `i!)),ih];rfl
def zb1{σ:St}{s:`v}{B:BS}{a:`f}{as:`aw}(I:`B)(w:`aad X.K H){C:`f}{fs:`jL}(h:`arA):`a90:=by
 apply `aq9 `b0 w.at';have hm:`a9a:=by
  refine `a9b;rw[`a9c];exact#[w.hd,h]
 let#[_,w,_]:=(all _ hm).2;rw[w];apply `agh
section
variable{gv g:GE}{c f:Str}{F:`e}
open T in
def T5(i:Nat)(hv:`art)(hc:`ID)(hf:`IE)(hN:`ez)(hvis:`iH)(hd:`a9)(hcd:`hB)
  (hs:`aru):`arv Zs0 gv:=(.mk λH₀ B₀ δ pins s σ H De I hq189=>by
 apply `nN hq189
 delta Zs0 at e1;apply `bl;cases e2:`ML with
 | none=>apply `as;cases e1
 | some dv=>
 apply `qE;cases e3:`gX with
 | none=>apply `f?;cases e1
 | some ns=>
 apply `IG;apply `W3;clear e1;apply `W4;clear e0;cases `W5;apply `W6
 apply `W7
 split at e1
 rotate_left
 ·cases e1
 rename_i hq;let#[a2,hn,a3,M]:=hq;subst a2;cases e1;apply `W8;apply `a8f;have J:=`iL;apply `arw;apply `a8g;apply `IF;apply `a8h
 ·apply `EP
  rw[`x] at M;exact M
 ·rw[b20 hl (Wm0 a3)]
  let#[Z,z1,z2]:=`a8i (`a97 [dv]) (`a98 [v1]) #[C,O,`P!,xs++[v1],rfl,`a99,`a9',hC,a1,`arM (d10 (S00 hn) r1)];apply `W9)
open T in
def Y4(i:Nat)(hv:PDF X `gD g)(hc:`ID)(hf:`IE)(hN:`ez)(hvis:`iH)(hd:`a9)(hcd:`hB)
  (hs:`aru):`arv dz0 g:=(.mk λH₀ B₀ δ pins s σ H De I hq190=>by
 apply `nN hq190
 delta dz0 at e1;apply `bl;cases e2:`aA with
 | none=>apply `as;cases e1
 | some d=>
 apply `qE;cases e3:`gX with
 | none=>apply `f?;cases e1
 | some ns=>
 apply `IG;let#[es,w2,e0]:=vr0 e1;clear e1;have e1:=e0;clear e0;cases Ty0 w2;apply `W3;clear e1;apply `W4;clear e0;cases `W5;apply `W6
 apply `W7
 split at e1
 rotate_left
 ·cases e1
 rename_i hq;let#[a4,hn,a6,M]:=hq;subst a4;cases e1;apply `W8;refine `aiH (Uf0 `ajb (vx0 (wj0 `ajc)) hs) #[a,`mC,env,e2,λp H1 hp s1 ro=>?_];let#[ys,o1,ry]:=ro;let#[cl,Hc,a3,a5,a1,J,rn]:=adopt (es:=es) en b1 b2 env at' (λC dx fs h=>zb1 I at'.w h) s1 hp o1 hn (qk0 hn ry);refine#[a,`b0,(`iL).w.openOk,a,_,cl,?_];rw[← a3];apply `arw;let#[C,O,nm,xs,rfl,rfl,hl,hC,a2,rx]:=`P6;apply `IF;refine#[`cQ,`hx,a,_,`ni,a,C,O,_,rfl,`aKW,q1,`RD,?_,?_]
 ·apply `EP
  rw[`x] at M;exact M
 ·rw[b20 hl (Wm0 a6)]
  let#[Z,z1,z2]:=a5.setN b1 b2 a1 `FX J `aes Y (n':=`a97 [vb0 (`o (`cb [`ags,`aHW,`eH]::`bG))]) (so':=`a98 `BW) #[C,O,`P!,xs++`BW,rfl,`a99,`a9',hC,a2,`arM rn] `ary (d:=`y) (v:=`y) `st;apply `W9)
omit z
def N10(c:Str):D:=`t [`op,`a9!]
def Zl0(j:Nat)(c:Str)(f:`bX):GS:=fun δ=>match f (N10 c) [] with
 | `c (`y,`CR)=>`ac (`gy j `a7r)
 | _=>`g
section
variable{p:Pos}{c:Str}
open T in
def Kx0(j:Nat){k:Nat}{C:`f}{ps:`e}{f:`bX}(nd:`fp)(M:Mk X.K C fa)(F:`anW fd (spB X.K 0 f))(hb:`aWY)(hC:`Kv X.K `hP c=`c (`BB))(hr:`W!)(hk:k+1<=n)(hm:`ct c=`BB)(hg:`a9?)
  (hi:`ua) (hy:`nG) (hdb:`a'a)
  (hf:`lT) {spos:Pos} (hsw':`a'b):
  `a'c:=(.mk λH₀ B₀ δ pins s σ H De I hq191=>by
 apply `nN hq191
 delta Zl0 at e1;apply `bl;split at e1
 rotate_left
 ·cases e1
 rename_i xx ns hq;cases e1;refine St0 nd hi hy (In0 (E:=E0) M F.closing `Db hg hm hb `ah lj0 hdb) hsw' hf `z s σ H De I λx dx hx a1 Z=>?_
 obtain⟨H1,J⟩:∃H1,H1=`aR9:=`al;rw[← J];have a3:H1 x=`c `aEJ:=`yM J
 have cl:`i6 H1 x `arZ:=k30 rfl (`aiI) rfl (λk c so e1 e2=>by
  match k with
  | 0=>cases e1;cases e2;exact a3
  | k+1=>simp at e1) (λk C dx fs e=>by
  match k with
  | 0=>rfl
  | k+1=>simp at e)
 obtain⟨Hc,O⟩:∃Hc,Hc=`g6 H1 x `arZ:=`al;refine#[x,_,cl,?_];rw[← O];have cx:Hc x=`c (`oy `arZ):=`a83
 have Y:∀b,b≠x->Hc b=H1 b:=λb hb=>by
  rw[O];apply `li;rw[`l0,to0 (`k `EM hb)]
 have sm:`cP H Hc:=#[λb o z=>by
  have n1:b≠x:=wp0 z hx;rw[Y b n1,J,zi0 n1,zi0 (wp0 z a1)];exact z,λb o xs z=>by
  by_cases n1:b=x
  ·rw[n1,cx] at z;cases z
  rw[Y b n1,J,zi0 n1] at z
  by_cases n2:b=dx
  ·rw[n2,yb0] at z;cases z
  rw[zi0 n2] at z;exact z]
 have a4:¬B x:=`II hx;have w:RpW X.K Hc (`a'd) [`a9!] x [x] `aKe:=by
  refine#[rfl,`aiI,cx,λb hb=>`n (`ar_),rfl,`aE #[C,dx,[],[],rfl,rfl,rfl,hC,λz=>Z `ar0,`arK] `ah,λk C dx fs e=>by
   match k with
   | 0=>rfl
   | k+1=>simp at e]
 refine#[`a'd,[],[],x,N10 c,`t (`p xx::ns),`y,`aiw,`Mx,rfl,`bP,`jg,#["",_,rfl,_,_,w],hq,λv H' but rg rv=>#[by rw[wh0] at rv;exact rv,kk _ _ ?_]]
 ·rcases z with z|z
  ·exact(env.bad b z).same sm
  ·rw[z];exact .of cx (λ_ _ q=>nomatch q) λ_ q=>nomatch q
 ·have a2:`bI:=#[λb o z=>but b o (wp0 z hx) (sm b o z),λb o xs z=>by
   by_cases n1:b=x
   ·rw[n1] at z;exact `K z (rg.plain o xs)
   ·exact sm.nf b o xs (but.nf b o xs n1 z)]
  exact en.takeL b1 b2 env j hx a2 rg.toL)
omit z
open B
def Sb0(K:`C)(C:`f)(F:`e):`aj:=`aRx&&W.hasDictIn K C&&W.plainOver K C&&(match `aFH with
 | `z9 (`cW s)=>s == `aLG
 | _=>`q)&&F.all (λf=>match `alT with
 | `cN=>`d
 | _=>`q)&&`aC9&&`aFP
open T in
def ko0{C:`f}{F:`e}(h:`a'e):`tT/\(∀f∈F,`yJ)/\`alP/\`aR6:=by
 delta Sb0 at h;simp only[`a?] at h;let#[#[#[#[#[#[h1,h2],h3],h4],h5],h6],h7]:=h;refine#[#[h1,h2,h3,?_],λf hf=>?_,h6,h7]
 ·split at h4
  ·rename_i s e
   rw[e,`yW h4]
  ·cases h4
 ·have:=`Xk h5 f hf
  split at this
  ·rename_i e;exact e
  ·cases `w
def Cu0{c:Str}{C:`f}{F:`e}(a:`pq)(h:`a'e):ClsN K c F:=(#[λC' e=>by
 rw[a] at e;cases e;exact#[(ko0 h).1,(ko0 h).2.1]])
structure FnI(P:`av)(w:`T)(K:`C)(mg:`cd)(base:`aa)(c:Str)(k:Nat)(ps:`e)(f:`bX):Prop where
 ex:∃C fa fd,`a8x/\`pq/\Mk K C fa/\`Gj/\mg c=`BB
section
variable{p:Pos}{c:Str}
def X7(j:Nat){k:Nat}{ps:`e}{f:`bX}(nd:`fp)(M:`PD FnI c)(hr:`W!)(hk:k+1<=n)(hg:`a9?)
  (hi:`ua) (hy:`nG) (hdb:`a'a) {spos:Pos}
  (hsw:`a'b)
  (hf:`lT):
  `a'c:=by
 skip;let#[C,fa,fd,F,hC,mk,hb,hm]:=M.ex;done;exact Kx0 j nd mk F hb hC hr hk hm hg hi hy hdb (hf:=hf) (hsw':=hsw)
omit z
def atC(ys:`e):`Bb
 | `b9=>`a'f `bH
 | _=>`g
section
variable{a0 ix:`G}{gi gb:GE}{gA:GA}{posg p pg p5 rp:Pos}
def Jy0(ys:`e)(i:Int):`aec `yk i=`a'f `o_:=by
 delta L2.atI;rw[`x];cases L2.ixN `bx i with
 | none=>rfl
 | some j=>simp
open T in
def y60{ys:`e}(hK:`a4A)(hb:`dP)(hg:`f!)(hd:`a9)(hs:`UB):
  PD X (`kC `PV b pos) (unG (atC ys) gb):=(.mk λB δ=>by
 let#[p,o,its,n,hm,hk,hc,O,J,M,hv]:=hK;refine (Og0 Tz0 `a4C `fl hs).imp fun σ H Q hq192=>?_;apply `bo hq192
 delta unG at h;cases e2:`d4 with
 | none=>rw[e2] at h;cases h
 | some dk=>
  rw[e2,`s] at h;delta atC at h;split at h
  ·rename_i i
   cases e3:`aH? with
   | none=>rw[e3] at h;cases h
   | some y=>
    rw[e3] at h;cases h;refine#[_,en,e2,`PC];rw[ys0] at r1;subst r1;exact#[p,`aaT,i,`pQ,rfl,rfl,`a4D M,`eO Jy0 e3,k _ H1 s1 `ME]
  ·cases h)
omit z
def vu0{α:Type}(xs:`aV)(lo hi st:`bw):`aV:=(`ar1 `ar2 `ar2 `ar2).filterMap (xs[·]?)
def Uv0{B:BS}(r:`bi):∀l:`j,`nE (`DD (ds[·]?)) (`ar3):=by
 intro z;induction z with
 | nil=>rw[`a'g,`a'g,ze0]
 | cons i l iq=>
  have ih:=iq;cases e:`Ui with
  | none=>
   have e2:`afZ:=x5.mpr (`k `a2 (x5.mp e));rw[`Xl e,`Xl e2];exact ih
  | some d=>
   let#[x,ex,rx]:=`nB e;rw[`IL e,`IL ex,O8];exact`hD rx ih
def Wi0(r:`eq):∀l:`j,`b_ (`ar3) (`DD (us[·]?)):=by
 intro z;induction z with
 | nil=>exact `ah
 | cons i l iq=>
  have ih:=iq;cases e:`aax with
  | none=>
   rw[`Xl e,`Xl (r.none_of e)];exact ih
  | some d=>
   let#[u,eu,ru]:=`nB e;rw[`IL e,`IL eu];exact `aE ru ih
section
variable{lo hi st:`yX}{tl th ts:TO}
def wh1(K:`C)(te:TE)(tl th ts:TO):TE:=`aS4 (ts σ H3 λc H4=>`TF (`K4 H4/\c≠`c 0/\`WC (H4 p=`g) H4 (`a'h)))
def Ex0(he:`eS)(hl:`aS5)(hu:`aS6)(hst:PO X st ts)(hsub:`a'i):PE X `a'j (wh1 X.K te tl th ts):=by
 apply `a';refine k0 (thn `hs λv s1 hq193=>?_);apply `fk hq193;refine `amj (thn `aS8 λvl s2 hq194=>?_);let#[l,H2,I2,pl,q2]:=hq194;refine thn `aS9 λvu s3 hq195=>?_;let#[u,H3,I3,pu,q3]:=hq195;refine thn (hst `z s3 σ H3 _ I3 q3) λvc s4 hq196=>?_;skip;let#[c,H4,I4,pc,a,xs,ex,hx,hc,q]:=hq196;subst ex;cases r1;have I5:`aW H4 `a'k:=I4.kept (t':=s4.toks) `NV
 apply `Pf I5.list;have M:=`a2;have hg:`p! (`pl `ci (`a'l)) `f7 `a'k:=by
  refine E10 `TH `aml pl pu pc hc ?_ `TB;refine#[`ag _,_,`abQ I5.laid s4.toks `a'h,rfl,q _ (I5.hok.fresh `bq)];have hp:`amy `bj l u c=(`hr `Xm):=by
   delta slicePick vu0;simp
  have O:(`o `Xm)<=`ne:=by
   have:=slicePick_size_le `bj l u c;apply `ay hp
   apply `tm
  have J:`b_ `agD (`Xm):=by
   delta vu0;rw[M];exact Wi0 r _
  exact#[`d1 `aLA,`Xm,0,J,`k hp `e7]
 done;exact `Tr (ops:=[`cQ,`a'l]) `TG `G6 hg (hsub _ _)
def j40(g:GE)(gl gh gs:`t2):GE:=fun δ=>`ka λd=>`aZa λlo=>`aZb λhi=>(gs δ).bind λc=>match d with
 | `dx=>`bL (c≠`c 0) (`m (vu0 xs lo hi c))
 | _=>`g
open T in
def J9{g:GE}{gl gh gs:`t2}(he:`b7)(hl:`a05)(hh:`a06)(hs:PDO X st gs)(hsub:`a'i):
  PD X `a'j (j40 g gl gh gs):=(.mk λB δ=>(Ex0 `zK (hl B δ) (hh B δ) (hs B δ) hsub).imp fun σ H Q hq197=>by
 apply `bo hq197
 delta j40 at h;cases e1:`aA with
 | none=>rw[e1] at h;cases h
 | some x=>
  rw[e1,`s] at h;cases e2:gl δ with
  | none=>rw[e2] at h;cases h
  | some l=>
   rw[e2,`s] at h;cases e3:gh δ with
   | none=>rw[e3] at h;cases h
   | some u=>
    rw[e3,`s] at h;cases e4:gs δ with
    | none=>rw[e4] at h;cases h
    | some c=>
     rw[e4,`s] at h;split at h
     ·rename_i xs
      split at h
      ·rename_i hc
       cases h;refine`Hy _ (`a07 (`gk `kR) #[c,`gk (`zL),(`aiA e4),λH4 s4=>?_]);have r4:=((`oH).same s3).same s4;rw[w80] at r4;let#[a,ys,rfl,hq,rr]:=r4;have J:=(`zL).trans s4;refine#[a,ys,rfl,`j1,hc,λp hp=>k _ _ (J.trans `js) ?_];rw[w80];refine`zT p (`n #[(`gk J).free hp,`anT]);have:Rps X.K H4 B `agD (vu0 ys l u c):=by
        delta vu0;rw[`PB];exact Uv0 rr _
       exact this.same `js
      ·cases h
     ·cases h)
omit z
omit DL
namespace W
open DL
def hasAll(x s:Str):`aj:=x.cps.toList.all λc=>`an (c∈`e6)
def nameS:Str:= `vZ
def d70:Str:= `Ec
def isName(x:Str):`aj:=(`an (`ar4<=8)&&hasAll x nameS)&&`an (0<`ar4)
def isWord(x:Str):`aj:=`an (`ar4<=20)&&hasAll x d70
def marks(x:D)(m:Str):`aj:=match x with
 | `pQ=>`an (y=m)
 | _=>`q
def H30:`ey
 | `y=>`d
 | `cZ=>`d
 | `t [x,`b9]=>marks x "at"&&`an (0<=i)
 | _=>`q
def vo1:D->Str
 | `t (`gq::_)=>n
 | _=> ""
def H70(l:`e)(y:Str):b80 l y=`d↔y∈l:=by
 delta b80;rw[`Xn];constructor
 ·rintro⟨z,hz,e⟩
  have:=E2 e;subst this;exact hz
 ·intro h;exact#[y,h,`E4]
inductive Pt where
 | text (w:Str)|row (vs:`i)|table (ps:`_)|rcd (c:Str) (ps:`_)
variable{ps:`ao W.Pt}
def pr(p:`gh):D:=`t `a'm
def Pt.d:Pt->D
 | `iM=>`t [`sx,`pI]
 | `nO=>`t [`Cs,`t vs]
 | `l4=>`t [`mD,`tv]
 | `ue=>`t [`n9,`dC,`tv]
def Pt.vals:`Xo
 | `Xp=>[]
 | `nO=>vs
 | `l4=>`ky
 | `ar5=>`ky
def Pt.pnames:Pt->`e
 | `Xp=>[]
 | .row _=>[]
 | `l4=>`g?
 | `ar5=>`g?
def Pt.cls:Pt->`e
 | `hQ c _=>[c]
 | _=>[]
def Pt.all(p:Pt):`e:=p.pnames++p.cls
structure PsOk(ps:`_):Prop where
 len:`V<=12
 names:∀p∈ps,`CV p.1=`d
 vals:∀p∈ps,H30 p.2=`d
 nd:(`g?).Nodup
def Pt.Ok:Pt->Prop
 | `iM=>`a'n
 | `nO=>`c8<=12/\∀v∈vs,`a'o
 | `l4=>PsOk ps
 | `ue=>`CV c=`d/\PsOk ps
def Nk0{n:Str}(h:`CV n=`d):`Bx<=8:=by
 delta isName at h;simp only[`a?,`VK] at h;lia
def U30(ps:`_):`nk `jE `mv=`c (`ky):=by
 rw[u10 `a'p (λd hd=>by
  apply `Xq;exact`a'q),`M]
 rfl
def Ta0(ps:`_):`nk `gB `mv=`c (`le `g?):=by
 rw[u10 (λd=>`p (vo1 d)) (λd hd=>by
  apply `Xq;exact`a'q),`M,`M]
 rfl
def Pt.few(p:Pt):Prop:=`k!<=`R
def ones(l:`j):`e:=`aH λc=>`aau
def strOf(l:`j):Str:=#[l.toArray]
def join_ones(l:`j):`ais "" (`C!)=`wc:=by
 have key:∀(l:`j) (J:`j),`a'r (λa p=>a++`agE++p.cps) `E0=(`hr (J++l)):=by
  intro l
  induction l with
  | nil=>intro J;simp[ones]
  | cons c l ih=>
   intro J;show `a'r _ (`a's)=_;have e:`a's=(`hr (J++[c])):=by
    have:`agE=⟨⟩:=rfl;rw[`w];simp
   rw[e,ih];simp
 cases l with
 | nil=>rfl
 | cons c l=>
  show `a't=_;delta strOf;congr 1;exact key l [c]
def fl0:∀l:`j,`a'u=`aC:=by
 intro z;induction z with
 | nil=>exact rfl
 | cons c l ih=>show 1+`a'u=`aC+1;rw[ih];lia
def W00:`a'v:=by
 intro z;induction z with
 | nil=>intro m _ _;exact `bP
 | cons a l ih=>
  intro m h hs
  apply `ar6;have ha:=hs a A8;let#[m1,m2,rfl]:=F50 ha;have:=ih (m:=`Sw) h2 λb hb=>by
   have:=`ar7;apply `ar8
   ·exact `ar9
   ·apply `IM
    ·exact `ar'
    ·exact `ar!
  apply `ar?;lia
def Zk0:∀(ys acc:`e),acc.Nodup->(`a'w).Nodup/\∀a∈`a'w,a∈acc∨a∈ys:=by
 intro z;induction z with
 | nil=>intro acc h;exact`a'x
 | cons y ys ih=>
  intro acc h
  rw[`G7];have hi:(jv0 acc y).Nodup/\∀a∈jv0 acc y,a∈acc∨a=y:=by
   delta jv0
   by_cases q:`aY3
   ·rw[`GV];exact`a'x
   ·rw[`yK]
    have hm:y∉acc:=λz=>q ((H70 acc y).mpr z)
    refine#[`IN h ?_,`asa]
    ·intro a ha b hb e
     have:=`ar_;subst this;subst e;exact hm ha
    ·rcases `c7 ha with z|z
     ·exact `hd
     ·exact `u `ar0
  let#[q1,q2]:=ih _ hi.1;refine#[q1,`asa];rcases q2 a ha with z|z
  ·rcases hi.2 a z with z|rfl
   ·exact `hd
   ·exact `u A8
  ·exact `u `z'
def Fy0(ys L:`e)(h:∀y∈ys,y∈L):`pt<=`oD:=by
 let#[h1,h2]:=Zk0 ys [] E8;exact W00 h1 λa ha=>by
  rcases h2 a ha with z|z
  ·cases z
  ·exact h a z
omit W
variable{ps:`ao W.Pt}
namespace Pn
open DL W
def uo0:GS:=v7 (ifD `Xr
 (v7 `hJ
 u6)
 u6)
 (v7 `Xs
 u6)
def we0:`e:=`cj
def xi0:`r:=`Xt
def m00:GS:=v7 (ifD `hh
 (v7 `hJ
 u6)
 u6)
 (v7 (ifD `kS
 (v7 `z!
 u6)
 u6)
 (v7 `asb
 u6))
def nq0:`e:=`cj
def m_values:`r:=`asc
def s70:GS:=v7 (ifD `hh
 (v7 `asd
 u6)
 u6)
 (v7 (ifD `kS
 (v7 `IO
 u6)
 u6)
 (v7 `ase
 (v7 (ifD `asf
 (v7 `asg
 u6)
 u6)
 (v7 `ash
 u6))))
def sd0:`e:=`asi
def ua0:`r:=`asj
def jl0(p:Pt)(h:`z?):`a'y:=by
 cases p with
 | text w=>kernel_rfl
 | row vs=>
  refine `gc [`ask] `eI (xn0 `a'z)
 | table ps=>
  refine `gc `RE `eI `a'A;apply `a'B
 | rcd c ps=>
  refine `gc `RF `eI `a'C;apply `a'B
def my0(p:Pt)(h:`z?):`a'D:=by
 cases p with
 | text w=>kernel_rfl
 | row vs=>kernel_rfl
 | table ps=>
  refine w50 rfl `a'A;apply `a'E
 | rcd c ps=>
  refine w50 rfl `a'C;apply `a'E
def put:Pt->`i->Pt
 | `iM,_=>`iM
 | .row _,vs=>`nO
 | `l4,vs=>`n! (`D2 vs)
 | `ue,vs=>`hQ c (`D2 vs)
def ek0(ns:`e)(vs:`i):l90 [`m (`Pt),`wl]=`vG ((ns.zip vs).map pr):=by
 apply `aM l90;rw[List.zip_map_left,`M];rfl
def Db0(p:Pt)(h:`z?)(vs:`i):`a'F=`c (put p vs).d:=by
 have e:=my0 p h;cases p with
 | text w=>kernel_rfl
 | row us=>kernel_rfl
 | table ps=>
  apply `cp `a'G `eI (`tB `a'G (p6 `a'H `g2))
  ·rw[d9 (`O (`l5 (`Lx).d e) `e')]
   exact ek0 _ _
  ·rw[`E2]
   rfl
 | rcd c ps=>
  refine z70 rfl (p6 (δ':=`a'I) `eI (p6 (δ':=`a'I) `eI (p6 `a'H
   (`tB [`oK,`agG,.sh (`aIf)] ?_))))
  ·rw[d9 (`O (`k `a'J e) `e')]
   exact ek0 _ _
  ·rfl
omit Pn
namespace W
open DL StrLaws Builtin.Str
def lo0(l:`j):(`wc).cps.toList=l:=`en `bR
def sg0(l:`j):(`o `wc)=`aC:=by show l.toArray.size=_;simp
def he0(sep:`j):`l6->`j
 | []=>[]
 | [p]=>p
 | p::q::r=>`a'K
omit W
namespace Gw
open DL W
def p30:GS:=v7 (ifD `a'L
 (v7 `a'M
 u6)
 u6)
 (v7 `Aa
 u6)
def qw0:`e:=`np
def ug0:`r:=`a'N
open DL W StrLaws
def mul_r(i j:Int)(h:`aeO):`asl:=`a'O
def qi0(i j:Int)(h:`aFB):`asl:=`aIg `SK
def rw0(i j:Int)(h:0<j):xb0 `ho `NZ=`c (`aeQ):=`a'P xb0
def pj0(i j:Int)(h:`S1):yx0 `ho `NZ=`c (`aeP):=`a'P yx0
def qj0{g:GE}{δ:Ds}{l:`i}{d:D}(h1:`a'Q)(h2:`iG)(h3:`aC<`R):R9 (v20 i g) δ=`ac (`ED `ahx):=by
 delta R9 v20;rw[h1,h2];apply `aM `s;rw[`VJ];rfl
def Yx0(ns:`ai)(k:Int)(h0:0<=k):`a'R:=by
 by_cases h:k<`jf
 ·have J:`eM<`jf:=`ch
  refine#[ns[k.toNat],`nP];rw[wr0 (by
   apply `a'S;rw[`bn `IP])]
  apply `l7;show atI (`ajh) k=_;rw[q50 h0 `IP `y];simp[`cU,J]
 ·refine#[0,`eA (`bU [.sh (`sC),`k_] rfl)]
  rw[yd0 (by
   apply `a'S;rw[`bZ `IP])]
  rfl
def w41(a b:`j):`a'T:=by
 show `a't=#[_];simp[`bR]
def wz1(a b:`j)(h:`asm):yf0 (`p (`bR a)) (`p (`bR b))=`c (`p (`aIi)):=by
 apply `aM yf0;rw[`I (`ii sg0 sg0 h),w41]
def k70(xs:`i)(x:D):atI (`anv) (-1)=`c4:=by
 delta atI ixN;apply `a'U;rw[`a'V (`o `anv) `aB];simp
omit Gw
namespace Bw
open DL W
def tg0:GS:=v7 `asn
 (v7 `aso
 (v7 (xw0 `Xu
 (v7 `Xv
 (v7 `Xw
 u6)) 100000)
 (v7 `asp
 u6)))
def ti0:`e:=`asq
def yc0:`r:=`asr
def n90:GS:=v7 (ifD `ass
 (v7 `ast
 u6)
 u6)
 (v7 `asu
 u6)
def nz0:`e:=`e!
def tp0:`r:=`asv
def ss0:GS:=v7 `asw
 u6
def sz0:`e:=`wR
def wf0:`r:=`asx
def sb0:GS:=v7 `asy
 u6
def sa0:`e:=`cj
def v70:`r:=`asz
def sv0:GS:=v7 (ifD `hh
 (v7 `asA
 u6)
 u6)
 (v7 `hJ
 u6)
def rc0:`e:=`cj
def vh0:`r:=`asB
def rh0:GS:=v7 (ifD `hh
 (v7 `hJ
 u6)
 u6)
 (v7 (ifD `kS
 (v7 `z!
 u6)
 u6)
 (v7 `qH
 (v7 (ifD `asC
 (v7 `asD
 u6)
 u6)
 (v7 (vc0 `rW `bp
 (v7 `Xx
 u6))
 (v7 `uf
 u6)))))
def rf0:`e:=`asE
def wy0:`r:=`asF
def qz0:GS:=v7 (ifD `Xy
 (v7 `Aa
 u6)
 u6)
 (v7 (ifD `tc
 (v7 `a'W
 u6)
 u6)
 (v7 `a'X
 u6))
def p10:`e:=`IQ
def tf0:`r:=`a'Y
def oc0:GS:=v7 (ifD `a'Z
 (v7 `a'_
 u6)
 u6)
 (v7 `a'0
 u6)
def o60:`e:=`IR
def tu0:`r:=`a'1
def od0:GS:=v7 `a'2
 (v7 (vc0 `a'3 `bp
 (v7 `asG
 u6))
 (v7 `uf
 u6))
def oq0:`e:=`a'4
def sy0:`r:=`a'5
def g50:GS:=v7 `a'6
 (v7 `a'7
 (v7 (vc0 `qI `cy
 (v7 `asH
 u6))
 (v7 (vc0 `qI `cy
 (v7 `asI
 u6))
 (v7 `asJ
 u6))))
def gp0:`e:=`a'8
def pw0:`r:=`a'9
def xr0{g:GE}{δ:Ds}{b:`aj}(h:`aA=`SJ):`a'':=by
 delta ob;rw[h];rfl
def dgf:Nat->Nat->`ai
 | 0,_=>[]
 | f+1,r=>`a'!
def dg(r:Nat):`ai:=dgf r r
def Kq0:∀(f g r:Nat),r<=f->r<=g->dgf f r=dgf g r:=by
 intro z;induction z with
 | zero=>
  intro z1;cases z1 with
  | zero=>intro _ _ _;exact rfl
  | succ g=>
   intro r h _
   have:r=0:=`a'?;subst this;rfl
 | succ f ih=>
  intro z1;cases z1 with
  | zero=>
   intro r _ h
   have:r=0:=`a'?;subst this;rfl
  | succ g=>
   intro r h1 h2
   show (`a'!)=`aIj g
   by_cases z:r=0
   ·rw[`I z,`I z]
   ·rw[`qu,`qu,ih g `s8 `l `l]
def By0:dg 0=[]:=(rfl)
def ys1(r:Nat)(h:r≠0):dg r=`j4::dg `s8:=by
 obtain⟨n,rfl⟩:∃n,r=n+1:=#[r - 1,`U];show (`D (n+1=0) [] ((`ak (128+`lm%128))::dgf n (`lm/128)))=_;rw[`bV,Kq0 n (`lm/128) (`lm/128) `l `bq];rfl
def hi(r:Nat):`ai:=`jk (dg r)
def bi0:hi 0=[]:=by delta hi;rw[By0];rfl
def O90(r:Nat)(h:r≠0):hi r=hi `s8++[`j4]:=by delta hi;rw[ys1 r h,`eP]
def bs(n:Nat):`ai:=hi `IS++[`wF]
def y01:∀(m r:Nat),r<2 ^ m->(`o (hi r))<=m:=by
 intro m
 induction m with
 | zero=>
  intro r h;have h2:r=0:=by
   simp at h;exact h
  subst h2;rw[bi0];exact `fA
 | succ m ih=>
  intro r h
  by_cases h0:r=0
  ·subst h0;rw[bi0];exact `bP
  ·rw[O90 r h0,`S]
   have:`a!a:=F60 2 m;have:=`a!b;apply `xD;lia
def rd0(n:Nat)(h:`Ab):`a!c:=by
 delta bs;rw[`S];have:=y01 2600 `IS (`a!d);apply `xD;lia
noncomputable def WT:GB:=`Xu
def WB:GS:=v7 `Xv
 (v7 `Xw
 u6)
def wt(a b:Sl)(r:Nat):WT [a,b,`fN `jo]=`bs (0<r):=by
 show `bs (`f5<`jo)=_
 by_cases h:0<r
 ·rw[`eU,`qJ]
 ·rw[`fn,`ds]
def wh(a:Sl):∀(m r:Nat) (o:`ai) (f:Nat),r<2 ^ m->m<f->`tH+m<`R ->
  ∃s,xw0 WT WB f `a!e=`ac [a,`ls (o++dg r),s]:=by
 intro m
 intro r
 intro o
 intro z3;induction z3 generalizing m r o with
 | zero=>intro _ hf _;apply `IT
 | succ f ih=>
  intro hr hf hl
  by_cases h0:r=0
  ·subst h0
   delta xw0;rw[wt,By0,`du];exact`al
  ·cases m with
   | zero=>simp at hr;lia
   | succ m=>
    have hb:WB `a!e=`ac [a,`ls (o++[`j4]),`fN `Xz]:=by
     have e1:(128:Int)+`jo%128=`j4:=`U
     have e2:`jo/128=`Xz:=`U
     refine p6 (`vq (l:=`aCy) (d:=`h (128+`jo%128)) rfl rfl `em) ?_;rw[`au,← e1,← e2];rfl
    have h2:`KX<2 ^ m:=by
     have:`a!a:=F60 2 m;lia
    let#[s,e]:=ih m `s8 (o++[`j4]) h2 `l `aK_;refine`a!f;delta xw0;rw[wt,`qJ];apply `aM hb;rw[e,ys1 r h0,`be];rfl
def p00(n:Nat)(h:`Ab):`a!g:=by
 apply `asK
 have h2:`LT<`os:=`a!d;let#[s,e]:=wh (`he) 2600 `IS [`wF] 100000 h2 `E (`bE (1+2600<_));refine `a!h;have e1:`bm%128=`wF:=`U
 have e2:`bm/128=`ag_:=`U
 refine p6 (δ':=[`he,`bb [`asL],.un]) (`UL e1) ?_;refine p6 (yr0 (d:=`h `ag_) (`UL e2)) ?_;refine p6 e `lC;show `IU ((`jk ((`wF::dg `IS).map `de)));rw[← `ug,`eP];rfl
inductive Vb:`XA
 | non:Vb `y
 | lk (j:Nat) (h:j<1000):Vb `mm
 | int (z:Int) (h:`asM):Vb `ov
def fold(z:Int):Nat:=`D (z<0) (`XB).toNat (2*z).toNat
def vn:D->Nat
 | `Ac=>(2*j+2).toNat
 | `fG=>`asN
 | _=>0
def fold_lt(z:Int)(h:`asM):`uR<2 ^ 2502:=by
 delta fold;have e:`XC=4*`adh:=`aU
 generalize (2:Nat) ^ 250=w at h e;split<;>lia
def Vk0{v:D}(h:`a3):vn v<`os:=by
 cases h with
 | non=>show 0<_;decide +kernel
 | lk j h=>
  show `aIk<_;have:`a!i<`os:=`aU
  have e:`a!i=4096:=`a5
  generalize `asO=w at this;omega
 | int z h=>
  show `asN<_;have:=fold_lt z h;have e:`XC+2 ^ 2502<`os:=`aU
  generalize `asO=w at e;generalize `XC=w at e this;omega
def ji0(z:Int):`a!j:=by
 by_cases h:z<0
 ·refine `nP
  rw[wr0 (`pW `a!k `eU)];apply `l7;rw[`X (`h (-2*z)) `dl (`k (`l8 (-2) `fG) `hy)];have:`a!l=`XB:=`a!m `bM
  rw[`w];rfl
 ·apply `cp [`Fa] (`ax (yd0 (`pW `a!k `fn))) `ec
  rw[`X `gj `fG rfl,`hy];have:`a!l=2*z:=`a!m `bV
  rw[`w]
def Dl0{v:D}(h:`a3):tf0 [v]=`c (`N4):=by
 cases h with
 | non=>rfl
 | lk j h=>
  apply `cp [`kX] rfl `g2;rw[wr0 rfl];apply `l7;rw[`X `a!n `gj `a!o];have:`a!p:=`a!q
  rw[`w];rfl
 | int z h=>
  apply `cp [`Fa] rfl (`eB [`Fa] `ec);rw[`X (`h (2*`kA)) `dl (`k (`iv `gj `E3 (`k `a!r (ji0 z))) `hy)];have:(`ak (vn `ov))=2*`kA+1:=`bE ((`ak (`asN))=_)
  rw[`w];rfl
def sg(s:Str):`ai:=s.cps.toList.map `a!s
def ml0(s:Str):(`o (sg s))=`eG:=by delta sg;rw[`x];rfl
def It0(s:Str):`nk `aL5 (`y' s)=`c `aCz:=by
 delta signs;rw[u10 (`iK `cG (`oJ (x.cps.toList.headD 0))) (λd hd=>by
  let#[c,hc,rfl]:=`gC;exact`nM [.sh `TA] rfl)]
 delta sg;rw[`M,`M];rfl
def Zi0(s:Str)(h:`asP):`a!t:=(
 `uh (`vN (`gK (`y' s) (by delta signs;rw[`x];exact h) (It0 s))))
def add_l(a b:`ai)(h:`asm):yf0 `a!u `a!v=`a!w:=by
 apply `aM yf0;apply `a!x
def Nb0(a b:`ai)(h:`asm):jr0 `a!u `a!v=`a!w:=by
 apply `aM jr0;apply `a!x
def ay0{g:GE}{δ:Ds}{l e:`ai}(h1:`sk=`c `vy)(h2:`aA=`dN (e.map `h))(h3:`a!y):`a!z=`ac (`gy i (`ls (l++e))):=by
 delta R9 v60;rw[h1,h2];apply `aM `s;rw[`I (`ii `x `x h3),`au];rfl
def Pv0{g:GE}{δ:Ds}{l e:`i}(h1:`a'Q)(h2:`aA=`c (`m e))(h3:`a!y):`a!z=`ac (`ED (l++e)):=by
 delta R9 v60;rw[h1,h2];apply `aM `s;rw[`VJ];rfl
def io0(f:α->`ai)(c:Nat):`nD ((∀d∈l,(`o (f d))<=c)->(`o (`sw f))<=`aC*c):=by
 intro z;induction z with
 | nil=>intro _;simp
 | cons a l ih=>
  intro h
  rw[`cO,`S,`ae,`a!A];have h1:=`XD;have h2:=ih λd hd=>h d (A7 _ hd)
  lia
def is0(f:α->`ai){l:`aV}{d:α}(h:l[j]?=`aQ):`a!B f++f d=(`asQ).flatMap f:=by
 rw[`jB,h,`ui];simp
def ib:D->`ai
 | `dh=>`O5
 | v=>`N5
def Ib(d:D):Prop:=`a!C∨Vb d
def Vb.ib{d:D}(h:Vb d):ib d=bs (vn d):=`a!D
def small(h:n<=100000000):`Ab:=(`a!E)
def Sz0{d:D}(h:Ib d):(`o (ib d))<=2630:=by
 apply `a!F
 ·show `aLn<=_
  have:=`a!G;rw[`S,ml0];lia
 ·rw[h.ib]
  have:=rd0 _ (Vk0 h);lia
def el0{g:GE}{δ:Ds}{s:Str}(h:`aA=`a!H)(hs:`asP):`ap1=`c (`sK):=by
 rw[d9 (ds:=`P?) `a1L];apply `aM xh0;rw[`I hs]
def Mq0{v:D}(h:`a3):`x! v=`q:=`a!D
def yy1{d:D}(h:Ib d):tu0 [d]=`xE (ib d):=by
 apply `nQ
 apply `a!F
 ·refine `nP
  rw[wr0 rfl];apply `l7;have hb:=`a!G;rw[j4 (x:=`De `abF) (y:=`agJ) (by
   rw[`cC [`sK] (`a!I)];exact `asR) (by
   rw[`a!J];exact `a!K),add_l _ _ (`d1 ml0)]
  rfl
 ·rw[h.ib]
  apply `cp `XE (`ax (yd0 (`pW (`c (`x! d)=_) (Mq0 h)))) `ec;rw[`cC [`kN (vn d)] (`k `a!L (Dl0 h))];exact p00 _ (Vk0 h)
def cnt:Pt->Nat
 | `iM=>`ik
 | `nO=>`c8
 | `l4=>`V
 | `ar5=>`V
def kn:Pt->Nat
 | `Xp=>0
 | .row _=>1
 | `n! _=>2
 | `hQ _ _=>3
def two(p:`gh):`i:=`a'm
def its:`Xo
 | `Xp=>[]
 | `nO=>vs
 | `l4=>`fH
 | `ue=>`ag5
def tx:Pt->`ai
 | `iM=>sg w
 | _=>[]
open A
def pb(p:Pt):`ai:=`asS++`a!M
structure Gp(p:Pt):Prop where
 cnt:`nR
 len:`Qc<=50
 it:∀d∈`fU,Ib d
def Sd0{p:Pt}(h:Gp p):(`o (tx p))<=20:=by
 cases p with
 | text w=>show (`o (sg w))<=20;rw[ml0];exact `tE
 | _=>exact `bP
def dt0(p:Pt):`fJ<=3:=by cases p<;>simp[kn]
def Sh0{p:Pt}(h:Gp p):(`o `adi)<=2601:=(rd0 _ `a!N)
def pg0{p:Pt}(h:Gp p):`a!O:=by
 delta pb;have h1:=Sd0 h;have h2:=Sh0 h;have h3:=io0 ib 2630 `OY λd hd=>Sz0 (h.it d hd)
 have h4:=`d7;rw[`S,`S];have:`a!P:=m4 _ h4;lia
def Fq0{p:Pt}(h:`nR)(δ:Ds):oA `aL6 xh0 (`ek::δ)=`c (`asT):=by
 apply `nQ
 cases p with
 | text w=>
  have h:`asU:=h;exact `a!I
 | row vs=>rfl
 | table ps=>
  apply `a!Q;rw[`x];rfl
 | rcd c ps=>
  apply `a!Q;rw[`x];rfl
def vk1(p:Pt)(δ:Ds):oA `aL7 `aL8 (`ek::δ)=`c (`asV):=by
 cases p<;>kernel_rfl
def wy1(a b:Nat):4*`g_+`iY=(`ak (4*a+b)):=`U
def kv0{p:Pt}(h:`nR):`a!R:=by
 refine `iN
 change o2 _ _ _ `XF=_
 rw[j4 (x:=`h (4*`adj)) (y:=`asV) (by
  rw[`iv `od `asT (Fq0 h _)];exact `hy) (vk1 p _),← wy1]
 rfl
def Vo0{p:Pt}(h:`nR):`a!S:=by
 apply `nQ
 cases p with
 | text w=>
  have h:`asU:=h;refine `IV;rw[`E2];refine `KM;rw[`aG [`pI]];exact Zi0 w `l
 | row vs=>exact `gc [`ask] `eI `lD
 | table ps=>exact `gc `RE `eI `lD
 | rcd c ps=>exact `gc `RF `eI `lD
def HB:GS:=v7 `Xx
 u6
def vf0:`l9 (`Ad=2*`V):=by
 intro z;induction z with
 | nil=>exact rfl
 | cons p ps ih=>rw[`cO,`S,ih,`ae];show 2+_=_;lia
def Gd0{ps:`_}{p:`gh}(h:`Ik):`xG two++two p=(`mA `ji).flatMap two:=by
 rw[`jB,h,`ui];simp
def Xf0(a:Sl)(pre:`i)(ps:`_)(hl:`dI+2*`V<=`R)(s:Sl):∃s',w90 `bp HB `mv `a!T=`ac [a,`bb (pre++`fH),s']:=by
 let#[δ',l1,l2]:=u60 (f:=gN 2) (G:=HB) (`XG [a,`bb (pre++`Qo two),s]) `mv 0 `a!T (by
  apply `XH;apply `uj;cases hp:`LR with
  | none=>rw[hp] at hj;cases hj
  | some p=>
   rw[hp] at hj;cases hj;have J:=`XI;rw[`b4];refine#[_,_,rfl,p6 (Pv0 (l:=pre++`xG two) (e:=two p) rfl rfl (by
    rw[`S,vf0,`fb];show _+2<=_;lia)) rfl,`aIc,?_]
   rw[`be,Gd0 hp];rfl) `a!U
 let#[s',rfl]:=l2;refine`XJ;rw[l1,`b4,`x,`oz]
def Vp0{p:Pt}(h:Gp p):`a!V:=by
 apply `nQ
 have hc:=`tE;cases p with
 | text w=>kernel_rfl
 | row vs=>
  refine `gc [`ask,.un,.un] `eI `abl;rw[`E2];rfl
 | table ps=>
  apply `XK;let#[s',e]:=Xf0 (`CD) [] ps `aHA .un;refine `gc `a!W `eI (`tB `a!W (`eB `a!X (`tB `a!X `a!Y)))
 | rcd c ps=>
  apply `XK;let#[s',e]:=Xf0 (`oK) [`dC] ps `asW .un;refine `gc `a!Z `eI (`tB `a!Z (`eB [`oK,`et,.un] (p6 (δ':=[`oK,`bb [`dC],.un]) `a'z `a!Y)))
def PB2:GS:=v7 `asG
 u6
def Or0(a:Sl)(pre:`ai)(l:`i)(hi:∀d∈l,Ib d)(hl:`dI+`a!_<=`R)(s:Sl):∃s',w90 `bp PB2 l `a!0=`ac [a,`ls (pre++`sw ib),s']:=by
 let#[δ',l1,l2]:=u60 (f:=gN 2) (G:=PB2) (`XG [a,`ls (pre++`Qb (`Lf i)),s]) l 0 `a!0 (by
  apply `XH;have M:=`aqE;have hd:=hi d `aqm;have O:=Sz0 hd;have J:=io0 ib 2630 (`xF) λd hd=>Sz0 (hi d (n5 hd))
  rw[`b4];refine#[_,_,rfl,p6 (ay0 (l:=pre++`a!B ib) (e:=ib d) rfl (`k `a!L (yy1 hd)) (by
   rw[`S];rw[`fb] at J;have:(`a!1)*2630+2630<=`a!_:=by
    have:`a!1=j:=`U
    rw[`w];lia
   lia)) rfl,`kp,?_]
  rw[`be,is0 ib hj];rfl) `a!U
 let#[s',rfl]:=l2;refine`XJ;rw[l1,`b4,`oz]
def xj1{p:Pt}(h:Gp p):sy0 `hS=`dN `asX:=by
 apply `nQ
 have h1:=Sd0 h;have h2:=Sh0 h;have h3:=`d7;have hm:`a!P:=m4 _ h3;let#[s',e]:=Or0 (`ek) (`asS) `OY h.it `Ae .un;refine `uh (`bU [`ek,`ls `asS,.un] (p6 (v40 (items:=`fU) ?_ e) `lD))
 ·delta wu0
  rw[j4 (x:=`De `adi) (y:=`agL) (by
   rw[`cC [`agK] (`k `l' (kv0 `tE))];exact p00 _ `a!N) (`k `l' (Vo0 `tE)),Nb0 _ _ `l]
  rfl
 ·show `BN _ _=_
  rw[`l',Vp0 h];rfl
structure Gq(p:Pt):Prop where
 cnt:`nR
 vals:∀v∈`dE,`a3
 names:∀s∈`iO,`nl
 few:`asY
def Qs0{ps:`_}(h1:∀v∈`ky,`a3)(h2:∀s∈`g?,`nl):∀d∈ps,`a!2:=(λd hd=>#[h2 _ `a!3,h1 _ `a!3])
def Nx0{ps:`_}(h:∀d∈ps,`a!2):∀d∈`fH,Ib d:=(λd hd=>by
 skip;apply `a!4;let#[q1,q2]:=h p hp;delta two at hm;rcases `Qr with rfl|hm
 ·done;exact `n #[_,rfl,q1]
 ·done;rw[`asZ];exact `u q2)
def Gq.gp{p:Pt}(h:Gq p):Gp p:=by
 let#[h1,h2,h3]:=h;cases p with
 | text w=>exact#[h1,`bP,λd hd=>by cases hd]
 | row vs=>exact#[h1,by have:`c8<=20:=h1;show `c8<=50;lia,λd hd=>`u (h2 d hd)]
 | table ps=>
  apply `a!5
  exact#[h1,by have:`ab6:=h1;show `Ad<=50;rw[vf0];lia,Nx0 hp]
 | rcd c ps=>
  apply `a!5
  refine#[h1,by have:`ab6:=h1;show `XL<=50;rw[`ae,vf0];lia,`qK];apply `IW
  ·exact `n #[_,rfl,h3 c `XM]
  ·exact Nx0 hp d hd
def web(ps:`aD):D:=`iu
def body(p:Pt):D:=`m (`asX)
def ix(ps:`aD):`ai:=`C5++`q4 `pF
def bun(ps:`aD):`ai:=`pE++`as_
structure Gw'(ps:`aD):Prop where
 len:`ahc
 it:∀p∈ps,Gq p
def af0(h:`uk):`a!6<=160000:=by
 delta ix;have h1:=rd0 `V `a!7;have h2:=`a!8 ps (`cX (pg0 `as0))
 have h3:=`d7;rw[`S];have:`V*2601<=60*2601:=m4 _ h3;lia
def X30(h:`uk)(j:Nat):`a!9<=8400000:=by
 have h2:=io0 pb 140000 (`mA j) λp hp=>`a!'
 have h3:=`d7;rw[`fb] at h2;have:`a!!*140000<=60*140000:=`a!?;lia
def Kk0{m:`r}(h:∀p∈ps,`a?a)(hl:`ahc)(δ:Ds):`IX `lF `aIn (`xH::δ)=`c (`abI):=by
 apply `nQ
 refine `gK `aao `em ?_;have key:∀l:`aD,(∀p∈l,`a?a)->`a?b=`c (`aH `dm):=by
  intro l
  induction l with
  | nil=>intro _;rfl
  | cons p l ih=>
   intro h;rw[`J];delta wl0;show `XN (oA `ca m `XF) `a?b;rw[`l',h p A8];simp only[];rw[ih `a3T];rfl
 exact key ps h
def G80(p:Pt){g:GE}{δ:Ds}(h:`aA=`aIm):`ap1=`c (`N6):=by
 rw[ad0 (ds:=`asX) h,`x]
def Up0{d:D}(h:`M8[j]?=`aQ):∃p,`Ik/\d=`dm p:=by
 rw[`cH] at h;cases hp:`LR with
 | none=>rw[hp] at h;cases h
 | some p=>rw[hp] at h;cases h;exact`a?c
def B1:GS:=v7 `asH
 u6
def B2:GS:=v7 `asI
 u6
def Ah0(h:`uk):`a?d:=by
 skip;have z:`mf 10000000:=`a5
 have hl:=`d7;have h1:=rd0 `V `DH;have hx:=af0 h;let#[δ',l1,l2]:=u60 (f:=gN 3) (G:=B1) (`XG [`xH,`Qd,`ls (`C5++`Qo `pF),s]) `M8 0 `a?e (by
  apply `XH;apply `DK Up0;have M:=`XI;have J:=`a?f;have hb:=rd0 `oZ `DH;have h2:=`a!8 (`mA j) (`cX `a!')
  rw[`b4];refine#[_,_,rfl,p6 (ay0 (l:=`C5++`xG `pF) (e:=`aaA) rfl (by
   rw[`cC [`N6] (G80 p rfl)];exact `asR) (by
   rw[`S];rw[`fb] at h2;have:`a!!*2601<=60*2601:=`a!?;lia)) rfl,.sh (`dm p),?_]
  rw[`be,is0 (`pF) hp];rfl) #[.un,`a_]
 let#[s1,rfl]:=l2;let#[δ',l3,l4]:=u60 (f:=gN 3) (G:=B2) (`XG [`xH,`Qd,`ls (`pE++`Qo pb),s]) `M8 0 [`xH,`Qd,`ls `pE,s1] (by
  apply `XH;apply `DK Up0;have J:=`a?f;have h2:=X30 h j;rw[`b4];refine#[_,_,rfl,`l! (ay0 (l:=`pE++`xG pb) (e:=pb p) rfl rfl `Ae),.sh (`dm p),?_];rw[`be,is0 pb hp];rfl) #[s1,`a_]
 let#[s2,rfl]:=l4;rw[`b4,`x,`oz] at l1 l3;done;refine `uh (p6 (yr0 (d:=`abI) (Kk0 (λp hp=>xj1 `as0) hl _)) (`bU `a?e (p6 (`gL `Ma l1) (p6 (`gL `Ma l3) `lD))));delta wu0;rw[`cC [`h `RW] (by rw[ad0 (ds:=`Ma) rfl,`x]),`asR];rfl
def bg(ps:`aD)(j:Nat):Nat:=`a!6+`a!9
def sts(ps:`aD)(n:Nat):`i:=`ans λj=>`Qg
def Fg0(ps:`aD)(j:Nat):`a?g=`a?h:=by
 delta sts;rw[`as1,`au];rfl
def Zx0(ps:`aD)(j:Nat):(`o `Qf)=j:=by delta sts;rw[`x,`d?]
def Lk(m:Nat)(v:D):Prop:=∀j:Nat,v=`rd->j<m
def Vg0{m:Nat}(h:i<m):Lk m `aM?:=(λj e=>by
 apply `Af
 injection e with _ e
 injection e with e _
 apply `Af
 lia)
def Gs(p:Pt):Prop:=(∀s∈`iO,`XO)/\∀w,p=`iM->∀c∈`E!,`as2
omit Bw
namespace Mk
open DL W
def uo0:GS:=v7 (ifD `Xr
 (v7 `hJ
 u6)
 u6)
 (v7 `Xs
 u6)
def we0:`e:=`cj
def xi0:`r:=`Xt
def pk0:GS:=v7 `qH
 (v7 (vc0 `lF `bp
 (v7 `as3
 (v7 (ifD `as4
 (v7 `as5
 u6)
 u6)
 u6)))
 (v7 `a?i
 u6))
def pq0:`e:=`a?j
def s90:`r:=`a?k
def qg0:GS:=v7 `a?l
 (v7 `Ag
 (v7 (vc0 `qI (`IY)
 (v7 (ifD `as6
 (v7 re0
 u6)
 u6)
 (v7 (ifD `as7
 (v7 re0
 u6)
 u6)
 (v7 `as8
 u6))))
 (v7 `as9
 u6)))
def qd0:`e:=`a?m
def sh0:`r:=`a?n
def tj0:GS:=v7 `as'
 (v7 `as!
 (v7 `as?
 (v7 `ata
 u6)))
def tm0:`e:=`atb
def vo0:`r:=`atc
def nv0:GS:=v7 `XP
 (v7 (vc0 `lF `cy
 (v7 (ifD `XQ
 (v7 `XR
 (v7 `XS
 u6))
 (v7 `qL
 u6))
 u6))
 (v7 `XT
 u6))
def ng0:`e:=`atd
def rz0:`r:=`ate
def mc0:GS:=v7 `a?o
 u6
def m40:`e:=`cj
def te0:`r:=`a?p
open Bw (Vb xr0)
structure Ent where
 make ::
 n:Str
 ms:`ao (`e)
 fl:`_
def Ent.d(e:Ent):D:=`t [`ah6,`IZ,`FM]
structure GE'(nm:`e)(e:Ent):Prop where
 n:e.n∈nm
 mk0:0<`oT
 mk1:`oT<=6
 mks:∀l∈e.ms,`aC<=8/\∀s∈l,s∈nm
 fl:e.fl.length<=20
 fls:∀p∈`ck,p.1∈nm/\`f3
structure GP(nm:`e)(p:Pt):Prop where
 cnt:`atf
 txt:∀w,p=`iM->`asU
 vals:∀v∈`dE,`a3
 names:∀s∈`iO,s∈nm
def ap(x:`j'):D:=`t [`C8,`XU]
structure GA'(es:`aI)(as:`a!):Prop where
 nd:`atg
 it:∀x∈as,∃e∈es,e.n=x.1/\`XV
def dkv:`a1->`i->`_->`zt
 | ks,vs,[]=>(ks,vs)
 | ks,vs,p::r=>`a?q
def dkf:`XW (vw0 ks vs `mv=`c (`sc)):=by
 intro z;induction z with
 | nil=>intro ks vs;exact rfl
 | cons p r ih=>intro ks vs;exact ih _ _
def vl0{k:Q3}:`a?r:=by
 delta xo0;rw[`Xn];constructor
 ·rintro⟨q,hq,h⟩
  rw[← `aqF h];exact hq
 ·intro h
  exact`a?s
def Yn0{vs:`i}{k:Q3}{v:D}(h:`wG):`a?t=(`o `ath)/\`a?t<=`dY+1:=by
 delta xt0 xy0;cases hk:`o3 with
 | true=>simp[h]
 | false=>simp[h]
def da0:`XW (`wG->`a?u=(`sc).2.length/\`a?u<=`dY+`V):=by
 intro z;induction z with
 | nil=>intro ks vs h;exact#[h,`fA]
 | cons p r ih=>
  intro ks vs h
  let#[h1,h2]:=Yn0 (k:=`La) (v:=p.2) h;let#[h3,h4]:=ih _ _ h1;refine#[h3,?_];show (`a?q).1.length<=_;rw[`ae];lia
def Vw0:∀(ps:`_) (ks:`a1) (vs:`i) (k:Q3),k∈`agU->`s9∨∃p∈ps,k=`La:=by
 intro z;induction z with
 | nil=>intro ks vs k h;exact `CF
 | cons p r ih=>
  intro ks vs k h
  rcases ih _ _ k h with h|⟨q,hq,e⟩
  ·delta xt0 at h
   split at h
   ·exact `CF
   ·rcases `c7 h with h|h
    ·exact `CF
    ·exact `u #[p,A8,`DC h]
  ·exact `u #[q,`D_,e]
def ni0(P:`XA):`XW ((∀v∈vs,P v)->(∀p∈ps,P p.2)->∀v∈(`sc).2,P v):=by
 intro z;induction z with
 | nil=>intro ks vs h _ v hv;exact h v hv
 | cons p r ih=>
  intro ks vs h hp v hv
  refine ih `Qh `agM (λu hu=>?_) `ati v hv;delta xy0 at hu;split at hu
  ·let#[q,hq,rfl]:=`c2 hu
   split
   ·exact `XX
   ·exact h _ (x9 hq).2
  ·rcases `c7 hu with hu|hu
   ·exact h u hu
   ·rw[`eb hu];exact `XX
def get_mem:∀{ks:`a1} {vs:`i} {k:Q3},`wG->`s9->∃v∈vs,`Ah=`aX:=by
 intro z;induction z with
 | nil=>intro vs k _ h;cases h
 | cons q ks ih=>
  intro z1;cases z1 with
  | nil=>intro k hl _;simp at hl
  | cons v vs=>
   intro k hl h
   delta yz0
   by_cases e:q=k
   ·rw[`cf];exact#[v,A8,rfl]
   ·rw[`bW]
    rcases `Ni with h|h
    ·exact `K h.symm e
    ·let#[u,h1,h2]:=ih (vs:=vs) `rS h
     exact#[u,A7 _ h1,h2]
def ia0:∀{ks:`a1} {vs:`i} {k:Q3} {v:D},`Ah=`aX->v∈vs:=by
 intro z;induction z with
 | nil=>intro vs k v h;simp[yz0] at h
 | cons q ks ih=>
  intro z1;cases z1 with
  | nil=>intro k v h;simp[yz0] at h
  | cons u vs=>
   intro k v h
   delta yz0 at h;split at h
   ·cases h;exact A8
   ·exact `aq3
def cx0:∀ys:`e,`sp (`pz)=`c ys:=by
 intro z;induction z with
 | nil=>exact rfl
 | cons y ys ih=>show `Fi (`sp (`pz)) y=_;rw[ih];rfl
def keys_str(ps:`_):∃ys:`e,`ajj=`pz/\(∀y∈ys,∃p∈ps,y=p.1)/\`bx<=`V:=by
 have key:∀ks:`a1,(∀k∈ks,∃p∈ps,k=`La)->∃ys:`e,ks=`pz/\∀y∈ys,∃p∈ps,y=p.1:=by
  intro ks
  induction ks with
  | nil=>intro _;exact#[[],rfl,λy hy=>by cases hy]
  | cons k ks ih=>
   intro h;let#[ys,e,hy]:=`aqs
   let#[p,hp,rfl]:=h k A8;refine#[p.1::ys,`alv,λy J=>?_];rcases `bF J with rfl|J
   ·exact`aCe
   ·exact hy y J
 let#[ys,e,hy]:=key `ajj λk hk=>by
  rcases Vw0 ps [] [] k hk with h|h
  ·cases h
  ·exact h
 refine#[ys,e,hy,?_];have:=(da0 ps [] [] rfl).2;rw[e,`x,`rp] at this;lia
def mb0{ps:`_}(h:`ajF):v80 [`tv]=`a?v:=by
 delta v80;simp only[];rw[`I `IP,dkf];rfl
def Y50{ps:`_}(h:`ajF):v80 [`m `mv]=`a?v:=by
 delta v80;simp only[];rw[`I `IP,dkf];rfl
def gb0(ys:`e)(s:Str):s∈`sG↔s∈ys:=by delta s00;exact List.mem_mergeSort
def I20(ys:`e):(`o `sG)=`bx:=by delta s00;exact List.length_mergeSort _
def val(ks:`a1)(vs:`i)(n:Str):D:=(`a?w).getD `y
def oth(fields:`e)(hk:`a1)(hv:`i)(fk:`a1)(fv:`i)(n:Str):`aj:=
 if `atj=`d then !deq (`a?x) `XY else `q
def mv0(hk:`a1)(hv:`i)(fk:`a1)(fv:`i)(n:Str):`gh:=(n,`D (xo0 hk `h3=`d) `a?x `ab7)
def np(l:`_)(fields:`e)(fk:`a1)(fv:`i)(ys:`e):`_:=
 `aIp++`aIq
def lu0{v:D}(h:`a3)(n:Nat):`cI v `lm=`d:=by
 cases h with
 | non=>simp[`cI]
 | lk j h=>simp[`cI,`ej]
 | int z h=>simp[`cI]
structure GL(l:`_)(fields:`e)(fk:`a1)(fv:`i):Prop where
 ll:`atk
 fl:fields.length<=20
 lv:∀p∈l,`f3
 vf:∀v∈fv,`a3
section
variable{fields:`e}{fk:`a1}{fv:`i}(h:GL l `Qi fk fv){ys:`e}(hy:`e8=`pz)(hyl:`bx<=`aC)
include h
def yw1(n:Str):Vb `XY:=by
 delta val;cases e:yz0 fk fv `h3 with
 | none=>exact `y
 | some v=>exact h.vf v `atl
def wk1(n:Str):Vb `I_:=by
 delta val;cases e:`atm with
 | none=>exact `y
 | some v=>exact ni0 Vb l [] [] `I0 h.lv v `atl
def Yr0{n:Str}(hn:`ul):xg0 `I1 `rs=`c `I_:=by
 let#[v,_,e]:=get_mem (da0 l [] [] rfl).1 (`I2 hn);show yz0 `e8 `kw `DS=_;delta val;rw[e];rfl
def yz1(n:Str):rp0 `I_ `XY=`t1 (!deq `I_ `XY):=by
 apply `aM rp0;rw[`I #[lu0 (wk1 h n) 49,lu0 (yw1 h n) 49]]
omit h in
def y31(n:Str):vi0 `d `rs (`XZ)=`t1 (`atj):=by
 apply `aM vi0;rw[`FB (by rw[`zF,`gT];intro x _;rfl)]
def z31{ga gb gc gd:GE}{δ:Ds}{n:Str}(hn:`ul)(h1:`dO=`a?y)(h2:`d4=`c (`XZ))(h3:gc δ=`c `I1)(h4:gd δ=`c (`X_)):
  ws0 (ob (`zO `aji)) (ob (o2 (o2 gc ga xg0) (sq0 gd (z8 ga v5) ln0) rp0)) δ=`c (`a?z):=by
 delta ws0 oth;rw[xr0 (b:=`atj) (`k (j4 h1 h2) (y31 n)),`s];split
 ·refine xr0 ?_
  rw[j4 (x:=`Cl) (y:=`ab7) (`k (j4 h3 h1) (Yr0 h hn)) (`ax (Dz0 h4 (`O h1 rfl)))];exact yz1 h n
 ·rfl
include hy hyl
def Lo0{g:GE}{δ:Ds}(hg:`aA=`c `I1):oA `Ci kc0 δ=`a51:=by
 rw[`cC [`Cm] hg];delta kc0;simp only[];rw[hy,cx0];apply `aM `s;rw[`I (`cX h.ll)]
omit h hyl in
def O80{n:Str}(hn:n∈`sG):`ul:=by
 rw[vl0,hy];exact `jq n ((gb0 ys n).mp hn)
def xo1:vo0 [`I3,`XZ,`X_]=`c (`t `a?A):=by
 apply `Ai
 have hl:=h.ll;have hf:=h.fl;have hs:=I20 ys;refine `um (yr0 (d:=`Cm) (`l5 `I3 (mb0 `l))) (`gd `a?B (`gd `a?C `ec))
 ·refine `gK `aB5 `em ?_
  rw[u10 (`iK `gq (pr (mv0 `e8 `kw fk fv n))) (λd hd=>by
   apply `atn;refine`nM [`Aj,.sh (`X_),.sh `I1] ?_;refine `X0;delta ifG;rw[xr0 (b:=`BL) (by
    rw[`X `gq `Cm rfl];show `Ak `q `BL;rw[`pv]),`s]
   delta mv0;simp only[];cases hh:`BL with
   | true=>
    rw[`a4,`a4,`a?D];exact Yr0 h hh
   | false=>
    rw[`cB,`cB];rfl),`M,`M]
  rfl
 ·refine `ato `aHD (by delta vs0;rw[Lo0 h hy hyl (by rfl)];rfl)
  rw[r00 (`QP `gq `a?z) (`iK `gq (pr (n,`Cl))) (λd hd=>by
   let#[n,hn,rfl]:=`gC;have hh:=O80 hy hn;refine#[[`Aj,.sh (`XZ),.sh (`X_),.sh `I1],rfl,z31 h hh rfl rfl rfl rfl,`Ic];refine `X0;rw[`a?D];exact Yr0 h hh),`X1,`M,`M]
  rfl
 ·rw[d9 (ds:=[`m `a?A]) (`O (by
   rw[`X `a?B `a?C rfl];apply `aM yf0;rw[`I (by
    apply `aM `x;have:=Bb1 `aEW (`sG);lia),← `au]
   rfl) rfl)]
  rfl
omit z
theorem get_find(key:`Hh)(val:α->D)(c:Str):`nD (yz0 `agO (`aH val) `agP=(`a?E).map val)
 | []=>rfl
 | `iF=>by
  rw[`J,`J,`pr];delta yz0
  by_cases e:key a=c
  ·rw[`I4,`H_];rfl
  ·rw[`ap (`ajN),`ym]
   exact `atp key val c l
theorem ga0(key:`Hh)(c:Str):`nD (`a?F=(`a?E).isSome)
 | []=>rfl
 | `iF=>by
  rw[`J,`pr];show (`an (`aMf=(`dB c:Q3))||`a?F)=_
  by_cases e:key a=c
  ·rw[`H_,`bn `LU];rfl
  ·rw[`ym,`bZ (`ajN),ga0 key c l];rfl
theorem nu0(key:`Hh):∀{l:`aV} {x:α},`a?G->x∈l->(`E5 λa=>`an (key a=key x))=`c4
 | `iF,x,hn,hx=>by
  rw[`pr];apply `y4
  ·rw[`yb]
  ·have hn':=E3.mp hn
   rw[`bZ (λe=>hn'.1 (`k e (`jq x hx)))];exact nu0 key hn'.2 hx
def j20{k:Q3}(h:`I5):`a?H:=by
 cases e:`o3 with
 | false=>rfl
 | true=>exact `K (`I2 e) h
theorem ev0:`a?I ((`a?J).Nodup->`Oh=(`a?J,vs++`iy))
 | [],ks,vs,_=>`en dkv
 | p::l,ks,vs,h=>by
  have hp:`aIr ∉ks:=λq=>`atq h A8
  show dkv `Qh `agM l=_;delta xt0 xy0;rw[j20 hp,`cB,`cB,ev0 l _ _ `fX];simp
def ed0{key:`Hh}{l:`aV}(h:`a?G):(`aCB).Nodup:=by
 have:`agO=(`aH key).map `dB:=`ax `M
 rw[`w];exact `QQ (`QR (`a?K λJ q=>J (P4 q)))
def kys(l:`_):`e:=(`sp `e8).getD []
def S50(l:`_):`e8=(`mI).map `dB/\(∀y∈`mI,∃p∈l,y=p.1)/\(`o `mI)<=`aC:=by
 let#[ys,h1,h2,h3]:=keys_str l;have e:`mI=ys:=by delta kys;rw[h1,cx0];rfl
 rw[e];exact`aZD
def sr0(e:Ent):D:=`dy (`n `aid) `aie
def ent(es:`aI)(c:Str):`aT Ent:=es.find? λe=>`adL
def shp(es:`aI)(x:`j'):D:=match `aIs with
 | `g3=>`I6
 | `g=>`y
def book(es:`aI):D:=`dy (`n `atr) `u3
def shapes(es:`aI)(as:`a!):D:=`yi (`mt `oI) (`mt `wU)
structure GB'(nm:`e)(es:`aI)(as:`a!):Prop where
 es6:`fh<=6
 ge:∀e∈es,GE' nm e
 nd:`I7
 ga:GA' es as
 as6:`h!<=6
section
variable{es:`aI}{as:`a!}(h:`X2)
include h
def Z60{x:`j'}(hx:x∈as):∃e,`a?L/\`nS/\`XV:=by
 let#[e,he,hn,hk]:=h.ga.it x hx;refine#[e,?_,he,hk];delta ent;rw[← hn];exact nu0 `M6 `d6 he
def Sq0{x:`j'}(hx:x∈as):∃e,`a?L/\`nS/\`XV/\xg0 (book es) (`C8)=`ats:=by
 let#[e,h1,h2,h3]:=Z60 h hx;refine#[e,h1,h2,h3,?_];show yz0 `atr `u3 (`u x.1)=_;rw[`atp `M6 `K0 x.1 es];delta ent at h1;rw[h1];rfl
def Y60{e:Ent}(he:`nS):v80 [`FM]=`c (`Ng):=(mb0 (C3 (`att).fl `E))
def WB:GS:=v7 (ifD `as6
 (v7 re0
 u6)
 u6)
 (v7 (ifD `as7
 (v7 re0
 u6)
 u6)
 (v7 `as8
 u6))
omit h in
def e50{δ:Ds}(h1:`X3)(h2:`a?M):`a?N:=by
 delta wt0;rw[h1,`s,`fm,h2]
def mr0:sh0 `a?O=`c `Mi:=by
 skip;apply `Ai
 have a4:=h.es6;have has:=h.as6;apply `adN `pG;obtain⟨Bk,J⟩:∃B:D,B=book es:=`al;obtain⟨A,hA⟩:∃A:D,A=`xI:=`al;let#[δ',l1,l2]:=u60 (f:=`IY) (G:=WB) (λi δ=>∃(s4 s5:Sl),δ=[`eh,`Qk,`Ql,`sn (`a?P `oI) (`a?P `wU),s4,s5]) (`mt ap) 0
  `a?Q (by
   apply `atu;skip;apply `uj;cases hx':`ajE with
   | none=>rw[hx'] at hj;cases hj
   | some x=>
    rw[hx'] at hj;cases hj;have a3:=(`c9 hx').1;have hx:=C8 hx';let#[e,e1,e2,e3,e4]:=Sq0 h hx;have O:∀s3 s5:Sl,o2 `aL `cv xg0 [`eh,`Qk,`Ql,s3,`a?R,s5]=`ats:=λs3 s5=>by
     rw[`X Bk `C8 rfl,J];exact e4
    done;rw[`b4];have M:`aAm ∉`N0:=λq=>by
     have tk:`abK=`M' j++[x]:=`eO `jB hx'
     have Y:(`Qm `oI).Nodup:=ed0 (key:=`X4) (l:=`abK) (`k `X5 (A90 h.ga.nd));rw[tk,`au] at Y;exact`atq Y `CU
    refine#[`atv,(`aDK (`Qm `oI) `a?S),rfl,?_,_,_,rfl];refine `bU `atv (`bU `atv (`atw))
    ·rw[yd0 (e50 (`X6) ?_)]
     ·rfl
     ·rw[`X `C8 Bk rfl,J]
      show `Ak `d (xo0 `atr (`u x.1));rw[ga0 `M6 x.1 es];delta ent at e1;rw[e1];rfl
     ·show ob `aMb `agS=_
      refine `X6;show `Ak `q (xo0 (`N0) (`u x.1));rw[j20 M];rfl
    ·rw[yd0 (e50 (`X6) (`X6))]
     ·rfl
     ·show `cg (`LC<0)
      rw[`ds]
     ·rw[j4 (x:=`XU) (y:=`h `atx) rfl (by
       rw[`cC [`IZ] `a?T];apply `a?U;rw[`x])]
      show `cg (`atx<=`LC);rw[`ds]
    ·delta v10 xk0
     have a2:`aty=`I6:=by delta shp;rw[e1]
     rw[w70 (ds:=`aBb) (`O (by
      rw[`X `IZ `XU `a?T];show atI (`aMg) `LC=_;rw[`X7,`cF];simp[`cU,e3]) (`O (by
      rw[`cC [`FM] (`ax (`X e.d `gj (O _ _)))];exact Y60 h e2) rfl)) `h2,← a2]
     simp only[`my,`s];have Z:`Qm (`oI)=`abD (`oI)++[`dB x.1]:=`a?V
     have a1:`a?S=`aDL++[`aty]:=`a?V
     rw[Z,a1];show `a?W `N0;rw[`I (`WP)];delta xt0 xy0;rw[j20 M,`cB,`cB];rfl) `a?X
 let#[s4,s5,rfl]:=l2;apply `I8;done;rw[← hC,← hA];refine `uh (`gd Bk (`eB `a?Q (p6 (`Gb (`mt ap) (`ax hA)) `lD)));rw[d9 (ds:=[`s' (`oc λe=>(e.n,e.d)) pr]) (`O (w00 (items:=`rl) (`ax hC) `em (by
  rw[u10 (`iK `a?Y (`t [n,`a?Y])) (λd hd=>by
   let#[e,_,rfl]:=`gC;exact`nM _ `a?Z),`M,`M]
  rfl)) rfl),Y50 `em,ev0 _ [] [] (by
   rw[`c',`M];exact `a?_),J,`c',`c',`M,`M]
 rfl
omit z
def yy0(es:`aI)(as:`a!):Pt->Pt
 | `i7=>match `kU with
  | `c4=>match `gp with
   | `g3=>`a?0
   | `g=>`i7
  | `g=>`i7
 | p=>p
section
variable{es:`aI}{as:`a!}(h:`X2)
include h
def xc1{e:Ent}(he:`nS)(k:Nat)(hl:`atk)(hv:∀p∈l,`f3):GL l (`QZ) `aid `aie:=by
 refine#[hl,?_,hv,ni0 Vb `ck [] [] `I0 λp hp=>((`att).fls p hp).2]
 by_cases hk:k<`oT
 ·apply `a?1
  have:=((`att).mks _ `atz).1;lia
 ·apply `a?2
  exact `bP
def Uj0(c:Str):(`kU=`g/\`X8=`ql) ∨
  ∃x e,`X9/\x∈as/\`wS/\`pN/\`nS/\`XV/\`X8=`f4/\`a?3=`c (`I6):=by
 have h1:`X8=`t1 (`kU).isSome:=by
  show `Ak `q (xo0 (`mt `oI) `agP);rw[ga0 (`X4) c as,`pv]
 have h2:`a?3=(`kU).map `wU:=`atp (`X4) `wU c as;cases e:`kU with
 | none=>rw[e] at h1;exact `n #[rfl,h1]
 | some x=>
  rw[e] at h1 h2;have hx:=L6 e;have hc:`wS:=`a?4;let#[e',e1,e2,e3]:=Z60 h hx;refine `u #[x,e',rfl,hx,hc,`bk hc e1,e2,e3,h1,?_];rw[h2];show `c (`aty)=_;delta shp;rw[e1]
def HB:GS:=v7 (ifD `XQ
 (v7 `XR
 (v7 `XS
 u6))
 (v7 `qL
 u6))
 u6
omit h in
def o90{δ:Ds}(h1:`X3):`a?5=`br:=by
 delta ws0;rw[h1];rfl
omit h in
def ac0{δ:Ds}{b:`aj}(h1:`a?6)(h2:`a?7):`a?5=`ih:=by
 delta ws0;rw[h1,`s,`a4,h2]
def xe1{p:Pt}(hl:`atf)(hv:∀v∈`dE,`a3)(W:D)(acc:`i)(ha:`X'<=1000)(s4:Sl):
  ∃t4,HB [`d5,`Qn,`oW,`ek,s4]=`ac [`d5,`Qn,`X! [`MR],`ek,t4]:=by
 apply `Ai
 obtain⟨S,hS⟩:∃S:D,S=`abz:=`al;have J:∀s4:Sl,(v7 `qL u6) [`d5,`eJ,`oW,`ek,s4]=`ac [`d5,`eJ,`X! `hS,`ek,s4]:=λs4=>`l! (`Al acc p.d `l)
 rw[← hS];skip;cases p with
 | text w=>done;apply `atA
 | row vs=>done;apply `atA
 | table ps=>done;apply `atA
 | rcd c l=>
  have hl:(`o `iy)<=20:=hl;rw[`x] at hl;have hv:∀p∈l,`f3:=λp hp=>hv p.2 `pM
  have t2:∀b:`aj,`X8=`SJ->ws0 `aB3 `aB4 [`d5,`eJ,`oW,`oX,s4]=`ih:=λb hb=>ac0 `iV (xr0 (by
   rw[`X `dC S rfl,hS];exact hb))
  rcases Uj0 h c with⟨e1,e2⟩|⟨x,e,e1,e2,e3,e4,e5,e6,e7,e8⟩
  ·have en:`atB:=`a?8 e1
   done;rw[en];exact#[s4,`l! (`k (yd0 (t2 _ e2)) (J s4))]
  ·have en:`N1=`a?0:=`a?9 e1 e4
   let#[k1,k2,k3]:=S50 l;done;rw[en];refine#[.sh (`I6),`atw];rw[wr0 (t2 _ e7)];refine `un (yr0 (d:=`I6) (`ii (`X S `dC rfl) hS e8)) (`vq (l:=acc) (d:=(`kv c `aIu).d) rfl ?_ `l);refine `Lo `ab8 `I9;rw[`aG [`I3,`aEl,`Ng]];exact xo1 (xc1 h e5 x.2 hl hv) k1 k3
omit h in
def Kd0{d:D}(hj:`mj[j]?=`aQ):∃p,`Ik/\d=p.d:=by
 apply `uj;cases hp:`LR with
 | none=>rw[hp] at hj;cases hj
 | some p=>rw[hp] at hj;cases hj;exact`a?c
omit h in
def Jx0(f:α->D){l:`aV}{x:α}(hx:l[j]?=`c4):(`asQ).map f=(`xF).map f++[f x]:=by
 rw[`jB,hx,`au];rfl
def Wr0(hps:`X?)(hl:∀p∈ps,`atf)(hv:∀p∈ps,∀v∈`dE,`a3):rz0 [`iu,`abz]=`a?':=by
 skip;apply `Ai
 apply `a?!;let#[δ',l1,l2]:=u60 (f:=gN 3) (G:=HB) (`aJI [`d5,`Qn,`bb ((`mA i).map `Ya),s3,s4]) `mj 0
  `a?? (by
   apply `atC;apply `DK Kd0;have hm:=C8 hp;rw[`b4];let#[t4,e]:=xe1 h (hl p hm) (hv p hm) W ((`mA j).map `Ya) (`WP) s4;exact#[_,_,rfl,e,_,t4,by rw[Jx0 (`Ya) hp]]) `a?X
 let#[s3,s4,rfl]:=l2;apply `I8;done;rw[← hW,`M];apply `cp `a?? rfl `baa;show `bab;rw[`aG [`m (`c3 `Ya)]];rfl
omit z
def kv0(p:Pt)(hl:`atD):`a'D:=by
 apply `Ai
 have comp:∀(ps:`_) (a:`i),`bac->`IX `rW `gB `bad=`dN (`le `g?):=λps a hl=>by
  have e:o2 `Q `og ixD `bad=`c (`tv):=by
   rw[`X `aMi `O_ rfl];show atI `aE! (-1)=_;delta atI ixN;apply `a'U;rw[`a'V (`o (a++[`cb `mv])) `DG];simp
  refine `ato `re (by delta tupI;rw[e];rfl);rw[u10 (`iK (`t (v::_)) v) (λd hd=>by
   apply `Xq;apply `Yb),`M,`M]
  rfl
 cases p with
 | text w=>kernel_rfl
 | row vs=>kernel_rfl
 | table ps=>
  have hl:`Di<=1000:=hl;rw[`x] at hl;exact `gc `RE `eI (`vN (comp ps [`mD] hl))
 | rcd c ps=>
  have hl:`Di<=1000:=hl;rw[`x] at hl;exact `gc `RF `eI (`vN (comp ps `aEc hl))
def ec0(p:Pt):`bae<=`k!:=by
 cases p<;>simp[Pt.pnames,Pt.vals]
def CB:GS:=v7 `as3
 (v7 (ifD `as4
 (v7 `as5
 u6)
 u6)
 u6)
def ww1(W:D)(p:Pt)(hl:`atD)(acc:`e)(ha:`X'<=100000):CB [`d5,`bb (`baf),`ek]=`ac [`d5,`bb (`le (acc++`iO)),`ek]:=by
 apply `nQ
 have J:=ec0 p;refine p6 (Bw.Pv0 (l:=`baf) (e:=`aIe) rfl (`k `l' (kv0 p hl)) `atE) ?_;rw[← `au];cases p with
 | text w=>exact `bag (Pt.text w) (Pt.text w)
 | row vs=>exact `bag `adf `adf
 | table ps=>exact p6 `eI (`ax (show (`Lx).all=(`Lx).pnames from F80 _))
 | rcd c ps=>
  have hl:`Di<=1000:=hl;rw[`x] at hl;refine `bU [`d5,`bb (`le (`atF++[c])),`oK] ?_
  ·rw[`E2]
   refine p6 (`vq (l:=`le `atF) (d:=`dC) rfl rfl (by
    rw[`x,`S];show `X'+(`o `g?)<_;rw[`x];lia)) ?_
   rw[`au (l₁:=`atF)];rfl
  ·rw[`be]
   rfl
def Be0(p:Pt):p.all.length<=`k!+1:=by
 have:=ec0 p;delta Pt.all;rw[`S];have:p.cls.length<=1:=by cases p<;>simp[Pt.cls]
 lia
def count_eq(hps:`X?)(hl:∀p∈ps,`k!<=30):s90 [`iu]=`Ia (`o (t40 (`Qp))):=by
 apply `nQ
 apply `a?!;have fl:∀i,(`o `bah)<=31*i:=by
  intro i
  induction i with
  | zero=>simp
  | succ i ih=>
   rw[`jB,`ui,`S];cases hp:`af8 with
   | none=>show _+0<=_;lia
   | some p=>
    have h1:=Be0 p;have h2:=`bai;show _+(`o `baj)<=_;have e:`baj=`iO:=`a_
    rw[e];lia
 let#[δ',l1,l2]:=u60 (f:=gN 2) (G:=CB) (λi δ=>∃s2:Sl,δ=[`d5,`bb (`le `bah),s2]) `mj 0 `bak (by
  rintro j d δ hj ⟨s2,rfl⟩;apply `DK Kd0;have hm:=C8 hp;have O:=`XI;rw[`b4];have:=fl j;refine#[_,_,rfl,ww1 W p (`cX (hl p hm)) (`xG `Mj) `l,`ek,?_];rw[`jB,hp,`ui];simp) `al
 let#[s2,rfl]:=l2;apply `I8;have J:=fl `V;rw[`oz] at J;rw[← hW];apply `cp `bak rfl `baa
 ·show oA `d_ lt0 `agS=_
  rw[`aG [`m (`bal `p)]];apply `aM lt0;have e1:=`Qt id (`Qp);have M:l30 (`bal `bH)=`c (`Qp):=`zb
  rw[M,`s,`Yc]
def Hw0(hps:`X?)(hl:∀p∈ps,`k!<=30)(hn:∀p∈ps,∀s∈`iO,s∈nm):∃n:Nat,s90 [`iu]=`atG/\n<=`ff:=(
 #[_,count_eq hps hl,Fy0 _ nm λy hy=>by
  let#[p,hp,hy]:=i5.mp hy;exact hn p hp y hy])
def Nw0{p:Pt}(hl:`atD)(hr:`bae<=12∨p.cls=[]):te0 `hS=`f4:=by
 refine `iN;delta orG;cases p with
 | text w=>rw[`atH];rfl
 | row vs=>rw[`atH];rfl
 | table ps=>rw[`atH];rfl
 | rcd c ps=>
  have hr:`aIv<=12:=by
   rcases hr with q|q
   ·exact q
   ·cases q
  rw[xr0 (b:=`q) `iV,`s,`fm];rw[j4 (x:=`h `bam) (y:=`h 12) (by
   rw[ad0 (ds:=(`Bz).pnames.map `p) (`k `a'J (kv0 _ hl)),`x]) rfl]
  show `cg (`bam<=12);rw[`qJ]
omit Mk
namespace Mx
open DL W
open Bw (Vb xr0)
open Mk (Ent GE' GP GA' GB' ap ent shp shapes book sr0 np kys dkv yy0 Uj0 kv0 ec0)
open Mk (Ent GE' GP GA' GB' ap ent shp shapes book sr0 yy0)
theorem Y40(H:∀d,`apA):∀xs,`ban->un0 xs xs=`d
 | [],_=>`en un0
 | `tV,h=>by
  rw[`ej,`a?] at h;rw[un0,H x h.1,Y40 H xs h.2];rfl
theorem ak0:∀(n:Nat) (d:D),`apA
 | n,`y,_=>`Yd
 | n,`e5,_=>`Yd
 | n,`ki,_=>`Yd
 | n,`ts,_=>`Yd
 | 0,`fI,h=>`atI
 | 0,`dx,h=>`atI
 | n+1,`fI,h=>`bao
 | n+1,`dx,h=>`bao
 | n,`t9,h=>`atI
def py0:∀{xs:`i},(∀x∈xs,`cI x n=`d)->`ban:=by
 intro z;induction z with
 | nil=>intro _;simp[`ej]
 | cons x xs ih=>intro h;rw[`ej,h x A8,ih λy hy=>h y (A7 _ hy)];rfl
def Ln0{p:Pt}(h:`Ye)(n:Nat):`cI p.d (n+4)=`d:=by
 have lp:`atJ (`ej `kF (n+2)):=λl hl=>py0 λx hx=>by
  let#[q,hq,rfl]:=`wB;have e:=Mk.lu0 (hl q.2 `wH) n;simp[pr,`cI,`ej,e]
 cases p with
 | text w=>simp[`ia,`cI,`ej]
 | row vs=>
  have e:`ej vs (n+2)=`d:=py0 λx hx=>Mk.lu0 (`ld x hx) `lm
  apply `atK
 | table ps=>
  have e:=`bap;apply `atK
 | rcd c ps=>
  have e:=`bap;apply `atK
def Hq0(h:∀p∈ps,`Ye)(n:Nat):`cI (`iu) (n+5)=`d:=by
 rw[`cI];refine py0 `iE
 let#[p,hp,rfl]:=`wB;exact Ln0 (h p hp) n
def ne_self{d:D}(h:`cI d 50=`d):rp0 d d=`ql:=by
 delta rp0;rw[`I #[h,h],ak0 50 d h];rfl
omit Mx
namespace Nx
open DL W
open Bw (Vb xr0)
open Mk
theorem Qo0{k q:Q3}{v:D}:`atL (`baq=match `F0 with|`aQ=>`aQ|`g=>`atM)
 | [],[],_=>by
  show (`D (k=q) `aX (yz0 [] [] q))=(`atM);rfl
 | `Am,[],h=>`nz
 | [],`An,h=>`nz
 | `Am,`An,h=>by
  show (`D (a=q) `aQ `baq)=(match `bar with|`aQ=>`aQ|`g=>`atM)
  by_cases e:a=q
  ·rw[`cf,`cf]
  ·rw[`bW,`bW]
   exact Qo0 `fX
theorem P30{k q:Q3}{v:D}(hq:q≠k):`atL (`bas=`F0)
 | [],[],_=>rfl
 | `Am,[],h=>`nz
 | [],`An,h=>`nz
 | `Am,`An,h=>by
  have ih:=P30 hq (v:=v) (ks:=ks) (vs:=vs) `fX;show (`D (a=q) `bat `bas)=`bar
  by_cases e:a=q
  ·rw[`cf,`cf,`ap λz=>hq (e.symm.trans z)]
  ·rw[`bW,`bW,ih]
theorem U70{k:Q3}{v:D}:`atL (`s9->`bau=`aX)
 | [],[],_,h=>by cases h
 | `Am,[],h,_=>`nz
 | [],`An,h,_=>`nz
 | `Am,`An,h,hm=>by
  show (`D (a=k) `bat `bau)=`aX
  by_cases e:a=k
  ·rw[`cf,`cf]
  ·rw[`bW]
   exact U70 `fX (`bav `D0)
def get_none{vs:`i}{k:Q3}(h:`I5):`Ah=`g:=by
 induction ks generalizing vs with
 | nil=>simp[yz0]
 | cons a ks ih=>
  cases vs with
  | nil=>simp[yz0]
  | cons d vs=>
   show (`D (a=k) `aQ `Ah)=`g;rw[`ap λz=>h `ai8,ih λz=>h `z']
def Yy0{vs:`i}(hl:`wG)(k q:Q3)(v:D):yz0 `Wx (`ath) q=`D (q=k) `aX `F0:=by
 delta xt0 xy0;cases hk:`o3 with
 | true=>
  rw[`a4,`a4]
  by_cases e:q=k
  ·rw[`cf,e,U70 hl (`I2 hk)]
  ·rw[`bW,P30 e hl]
 | false=>
  rw[`cB,`cB,Qo0 hl];have hn:`I5:=λz=>by rw[vl0.mpr z] at hk;cases hk
  by_cases e:q=k
  ·subst e
   rw[get_none hn]
  ·rw[`bW]
   cases `F0 with
   | some d=>rfl
   | none=>simp only[];rw[`ap `D0]
def df0{k q:Q3}:q∈`ab3↔q∈ks∨q=k:=by
 delta xt0;split
 ·rename_i h
  exact#[`n,λz=>`xx id λe=>`k e (`I2 h)]
 ·simp
def Y20:∀(ps:`_) (ks:`a1) (vs:`i) (n:Str),`baw↔`bax∨n∈`g?:=by
 intro z;induction z with
 | nil=>intro ks vs n;simp[dkv]
 | cons p r ih=>
  intro ks vs n
  rw[dkv,ih,df0,`J,`it,or_assoc];have:`DS=`aej↔n=p.1:=#[λz=>P4 z,λz=>by rw[z]];rw[`w]
def Xr0:`XW (ks.Nodup->(`sc).1.Nodup):=by
 intro z;induction z with
 | nil=>intro ks vs h;exact h
 | cons p r ih=>
  intro ks vs h
  refine ih _ _ ?_;delta xt0;split
  ·exact h
  ·rename_i q
   refine `IN h (`xP ?_);rw[`EM] at hb;rw[e,hb] at ha;exact q (vl0.mpr ha)
def dm0(g:`Ao):∀(ps:`_) (ks:`a1) (vs:`i),`wG->(∀n,`bax->`a?w=`bay)->(∀p∈ps,p.2=g p.1) ->
  ∀n,`baw->yz0 `agU (`sc).2 `h3=`bay:=by
 intro z;induction z with
 | nil=>intro ks vs _ h _ n hn;exact h n hn
 | cons p r ih=>
  intro ks vs hl h hp n hn
  refine ih _ _ (Yn0 hl).1 `aky `ati n hn;rw[Yy0 hl]
  by_cases e:`baz=`aej
  ·rw[`cf,`atN,`XX]
  ·rw[`bW]
   exact h m ((df0.mp hm).resolve_right e)
def eff(l fl:`_)(n:Str):D:=`D `ul `Cl `atO
def fil(fl:`_)(n:Str):D:=`atO
def np'(l:`_)(f:`e)(fl:`_):`_:=np l f `DI `DJ `FQ
def pu0(l:`_)(f:`e)(fl:`_):`e:=(s00 `FQ).filter (oth f `e8 `kw `DI `DJ)
def q90{n:Str}:`ul↔n∈`mI:=by
 rw[vl0,(S50 l).1];constructor
 ·intro h
  let#[m,hm,e]:=`qC;rw[← `atN];exact hm
 ·intro h
  exact `baA
def nc0{n:Str}:n∈`mI↔n∈`k1:=by
 rw[← q90,vl0,Y20];simp
def Xv0(l:`_):(`mI).Nodup:=by
 have:=Xr0 l [] [] E8;apply `ay (S50 l).1;exact List.Pairwise.of_map `dB (λa b h e=>h `LU) `w
def bz0(f:`e)(n:Str):((f.map `bH).any `adm)=`Yf:=by
 induction f with
 | nil=>rfl
 | cons a f ih=>
  rw[`J,`lS,ih];show ((a==n)||`Yf)=_
  by_cases e:a=n
  ·subst e;simp
  ·have:¬n=a:=`D0
   simp[e,`w]
def s80(l:`_)(f:`e)(fl:`_):`uo=f.map (λn=>(n,`kM))++(`Ap).map (λn=>(n,`kM)):=by
 delta np' np;congr 1;refine D7 λn hn=>?_
 have:=(gb0 _ _).mp (`pK hn).1;delta eff;rw[`I (`I' `w)]
section
variable(hl:∀p∈l,`f3)(hf:∀p∈fl,`f3)
def J60{u v:D}(hu:Vb u)(hv:`a3)(h:deq u v=`d):u=v:=by
 cases hu<;>cases hv<;>simp[deq,un0] at h<;>simp[h]
def Fx0{v:D}(hv:`a3):deq v v=`d:=(Mx.ak0 1 v (lu0 hv 0))
include hf in
def ig0(n:Str):Vb `N3:=by
 delta fil val;cases e:`baB with
 | none=>exact `y
 | some v=>exact ni0 Vb fl [] [] `I0 hf v `atl
include hl hf in
def ij0(n:Str):Vb `N2:=by
 delta eff;split
 ·exact ig0 hl n
 ·exact `atP
include hf in
def ru0{f:`e}{n:Str}:n∈`Ap↔n∉f/\`atQ=`q:=by
 delta pu0;rw[List.mem_filter,gb0];have ho:oth f `e8 `kw `DI `DJ n=(!`Yf&&!deq `I_ `N3):=by
  delta oth;rw[bz0,`ng];cases `Yf<;>rfl
 rw[ho,`a?,`Wz,`Wz,`aqM];constructor
 ·rintro⟨h1,h2,h3⟩
  refine#[h2,?_];delta eff;rw[`I (`I' h1)];exact h3
 ·rintro⟨h1,h2⟩
  by_cases h:`ul
  ·delta eff at h2
   rw[`bM] at h2;exact#[q90.mp h,h1,h2]
  ·delta eff at h2
   rw[`bV] at h2;rw[`bz (`atO=`Cw),Fx0 (`atP)] at h2;cases h2
def ph0(f:`e):(`Ap).Pairwise `Ip:=(F90 _ (B61 L2.ey0 L2.jg0 `FQ))
def ro0(f:`e):(`Ap).Nodup:=(F90 _ ((G00 (B51 `FQ leS)).mpr (Xv0 l)))
include hf in
def Lz0{m:`_}(h:∀n,eff m fl n=`kM)(f:`e):np' m f fl=`uo:=by
 rw[s80,s80];have e:pu0 m f fl=`Ap:=by
  refine L2.gd0 (`baC f f) (ph0 f) (ph0 f);rw[ru0 hf,ru0 hf,h]
 rw[e];congr 1
 ·exact D7 λn _=>`atR
 ·exact D7 λn _=>`atR
include hl hf in
def Tj0(f:`e)(n:Str):eff (`uo) fl n=`kM:=by
 have all:∀p∈`uo,p.2=`ahI:=λp hp=>by
  rw[s80] at hp;rcases `c7 hp with hp|hp
  ·let#[m,_,rfl]:=`MW;rfl
  ·let#[m,_,rfl]:=`MW;rfl
 delta eff
 by_cases h:xo0 (`DV (`uo)).1 `h3=`d
 ·rw[`bM]
  delta val;rw[dm0 (eff l fl) _ [] [] rfl `baD all n (`I2 h)];rfl
 ·rw[`bV]
  have hn:n∉`pk `uo:=λz=>h (`I' (nc0.mpr z))
  rw[s80,`au] at hn;have h1:n∉f:=λz=>hn (D1 _ `baE)
  have h2:n∉`Ap:=λz=>hn (D4 _ `baE)
  rw[ru0 hf] at h2;have h3:`atQ=`d:=by
   cases q:`atQ with
   | true=>rfl
   | false=>exact `K #[h1,q] h2
  exact(J60 (ij0 hl hf n) (`atP) h3).symm
include hl hf in
def v31(f f2:`e):np' (`uo) f2 fl=np' l f2 fl:=(Lz0 hf (Tj0 hl hf f) f2)
omit z
def tj0:GS:=v7 `as'
 (v7 `as!
 (v7 `as?
 (v7 `ata
 u6)))
def tm0:`e:=`atb
def vo0:`r:=`atc
def nv0:GS:=v7 `XP
 (v7 (vc0 `lF `cy
 (v7 (ifD `XQ
 (v7 `XR
 (v7 `XS
 u6))
 (v7 `qL
 u6))
 u6))
 (v7 `XT
 u6))
def ng0:`e:=`atd
def rz0:`r:=`ate
def dh0:GS:=v7 `baF
 u6
def dd0:`e:=`I!
def th0:`r:=`baG
def nf0{es:`aI}{as:`a!}{c:Str}{x:`j'}{e:Ent}(h1:`X9)(h2:`pN):`N1=`hQ c (np' l (`OG) `ck):=by
 delta yy0;simp only[];rw[h1];simp only[];rw[h2];rfl
def fm0{es1 es2:`aI}{as1 as2:`a!}(hfl:∀c e1 e2,ent es1 c=`c e1->`baH->e1.fl=e2.fl)
  (hsub:∀c x,`baI=`c4->∃x2 e2,as2.find? `KK=`c x2/\`baH)
  (hv:∀e∈es1,∀p∈`ck,`f3) {p:Pt} (hp:∀v∈`dE,`a3):yy0 es2 as2 (yy0 es1 as1 p)=yy0 es2 as2 p:=by
 skip;cases p with
 | text w=>done;rfl
 | row vs=>done;rfl
 | table ps=>done;rfl
 | rcd c l=>
  cases h1:`baI with
  | none=>
   have en:`baJ:=`a?8 h1
   done;rw[en]
  | some x=>
   cases h2:ent es1 c with
   | none=>
    have en:`baJ:=`a?9 h1 h2
    done;rw[en]
   | some e1=>
    let#[x2,e2,h3,h4]:=hsub c x h1;have e:=hfl c e1 e2 h2 h4;done;rw[nf0 h1 h2,nf0 h3 h4,nf0 h3 h4,← e,v31 (λp J=>hp _ (`jq p J)) (hv e1 (L6 h2))]
def bare(e:Ent):Ent:=#[e.n,[[]],`ck]
def nz(e:Ent):`j':=(e.n,0)
def gm0(es:`aI)(c:Str):ent `pH c=(`gp).map bare:=by
 delta ent;rw[List.find?_map];rfl
def nr0{as:`a!}{c:Str}:(∃x,`X9)↔c∈`adk:=by
 constructor
 ·rintro⟨x,h⟩
  have hc:`wS:=`s! `agR h;exact `iZ #[x,L6 h,hc]
 ·intro h
  let#[x,hx,hc]:=`qC;cases e:`kU with
  | some y=>exact`baK
  | none=>exact `K (E9 hc) (Bd1.mp e x hx)
section
variable{es:`aI}{as:`a!}(h:`X2)
include h
def Q30:GB' nm `pH `E7:=by
 refine#[`baL,`Aq,`baM,#[`baM,`iE],`baL]
 ·apply `Yg
  have g:=h.ge e' J;refine#[g.n,`baN,`bE (1<=6),`a9P,g.fl,g.fls];have hl:l∈[([]:`e)]:=hl;rw[`EM] at hl;rw[hl];exact#[`bP,λs hs=>by cases hs]
 ·let#[e,he,rfl]:=`wB
  exact#[bare e,`jq e he,rfl,`baN]
def Th0(hps:`X?)(hg:∀p∈ps,`Ye):th0 [`iu,`pG]=`vG ((`c3 `atS).map `ia):=by
 apply `Ai
 have M:=h.es6;refine `iN;have key:oA `aMk v80 `baO=`c (`baP):=by
  have J:`nk `agV `u3=`c `baQ:=by
   have q:∀l:`aI,(∀e∈l,`nS)->`baR=`c ((`aH `aK1).map pr):=by
    intro l
    induction l with
    | nil=>intro _;rfl
    | cons e l ih=>
     intro hl;rw[`J];delta wl0;show `XN (ye0 `aJ8 [.sh e.d]) `baR;rw[w70 (ds:=[`ah6,`t `aet]) (`O rfl (`O (w70 (`O rfl (`O (by
      rw[`aG [`FM]];exact Y60 h (hl e A8)) rfl)) `h2) rfl)) `h2]
     simp only[];rw[ih (`Ar hl)];rfl
   exact q es λe he=>he
  rw[`cC [`m `baQ] (`gK `rl `em J),Y50 `em,ev0 _ [] [] (by
   rw[`c',`M];exact `a?_),`c',`c',`M,`M]
  delta shapes;rw[`M,`M];congr 2;refine D7 `Aq
  show `cb `aet=shp `pH (e.n,0);delta shp;rw[gm0,show ent es e.n=`g3 from nu0 (`aIt) `d6 he];rfl
 show oA _ _ `baO=_;rw[`As [`iu,`baP] key];exact Wr0 (Q30 h) hps `baS `baT
omit z
omit Nx
namespace Rk
open DL W
section
abbrev W7:`e:=[`yh, `kf, `uQ, `oi, `n7, `mS, `h6, `pT]
def rh0:GS:=v7 (ifD `hh
 (v7 `hJ
 u6)
 u6)
 (v7 (ifD `kS
 (v7 `z!
 u6)
 u6)
 (v7 `qH
 (v7 (ifD `asC
 (v7 `asD
 u6)
 u6)
 (v7 (vc0 `rW `bp
 (v7 `Xx
 u6))
 (v7 `uf
 u6)))))
def rf0:`e:=`asE
def wy0:`r:=`asF
def g80:GS:=v7 `baU
 u6
def n80:`e:=`lw
def ui0:`r:=`baV
def n90:GS:=v7 (ifD `ass
 (v7 `ast
 u6)
 u6)
 (v7 `asu
 u6)
def nz0:`e:=`e!
def tp0:`r:=`asv
def ob0:GS:=v7 (ifD `Xy
 (v7 `Aa
 u6)
 u6)
 (v7 (ifD `tc
 (v7 `baW
 u6)
 u6)
 (v7 `baX
 u6))
def ov0:`e:=`lw
def uq0:`r:=`baY
def tg0:GS:=v7 `asn
 (v7 `aso
 (v7 (xw0 `Xu
 (v7 `Xv
 (v7 `Xw
 u6)) 100000)
 (v7 `asp
 u6)))
def ti0:`e:=`asq
def yc0:`r:=`asr
def ss0:GS:=v7 `asw
 u6
def sz0:`e:=`wR
def wf0:`r:=`asx
def ou0:GS:=v7 (ifD `baZ
 (v7 `ba_
 u6)
 u6)
 (v7 `ba0
 u6)
def oh0:`e:=`I?
def su0:`r:=`ba1
def sb0:GS:=v7 `asy
 u6
def sa0:`e:=`cj
def v70:`r:=`asz
def sv0:GS:=v7 (ifD `hh
 (v7 `asA
 u6)
 u6)
 (v7 `hJ
 u6)
def rc0:`e:=`cj
def vh0:`r:=`asB
def o70:GS:=v7 (ifD `atT
 (v7 `ba2
 u6)
 u6)
 (v7 (ifD `ba3
 (v7 `ba4
 (v7 `ba5
 u6))
 u6)
 (v7 `ba6
 u6))
def oj0:`e:=`ba7
def um0:`r:=`ba8
def by0:GS:=v7 `qH
 (v7 `atU
 (v7 `Ag
 (v7 `ba9
 (v7 (xw0 `Ja
 (v7 `Jb
 (v7 `atV
 (v7 (ifD `atW
 (v7 `atX
 u6)
 (v7 (ifD `atY
 (v7 `atZ
 (v7 `at_
 u6))
 u6)
 u6))
 u6))) 100000)
 (v7 `uf
 u6)))))
def ao0:`e:=`ba'
def kd0:`r:=`ba!
def l70:GSB:=z80 (`at0 `yh)
 (z80 (`at1 `kf)
 (z80 (`at1 `uQ)
 (z80 (`at1 `oi)
 (z80 (`CY dz0 `n7 (yu0 (z8 `at2 v5)))
 (z80 (`at0 `mS)
 (z80 (`at0 `h6)
 (z80 (`CY Zs0 `pT `yg)
 `ad)))))))
def l60:`e:=`mJ
def t10:`bX:=mkB 1 l60 0 l70
def qn0:GSB:=z80 (xl0 (xw0 `ba?
 (v7 `aiN
 (v7 (popS 0 `jG)
 u6)) 100000))
 `ad
def mf0:`e:=`mJ
def ul0:`bX:=mkB 1 mf0 0 qn0
def pt0:GSB:=z80 (vp0 (xk0 (orG (o2 `tC `Ru eqD) (o2 `bba `bbb leD))))
 `ad
def kp0:`e:=`Yh
def tv0:`bX:=mkB 2 kp0 0 pt0
def l00:GSB:=z80 (ifB (ob `bbc)
 (z80 (`Jc (kn0 0 `bbd `Z))
 `ad)
 `ad)
 (z80 `bbe
 (z80 `bbf
 `ad))
def f30:`e:=`L2
def xv0:`bX:=mkB 2 f30 0 l00
def cu0:GS:=v7 (ifD `Jd
 (v7 (R7 `aMs)
 u6)
 u6)
 (v7 (R7 `aMe)
 u6)
def c70:`e:=`Yi
def pf0:`r:=mkF 1 c70 cu0
def qx0:GS:=v7 (ifD `Jd
 (v7 `bbg
 u6)
 u6)
 (v7 (ifD `Yj
 (v7 `bbh
 u6)
 u6)
 (v7 (ifD `Yk
 (v7 `bbi
 u6)
 u6)
 (v7 `bbj
 u6)))
def p20:`e:=`FF
def v90:`r:=`bbk
def qb0:GSB:=z80 (ifB (wt0 (ob `bbl) (ob `bbm))
 (z80 `hK
 `ad)
 `ad)
 (z80 (`At `bbn)
 (z80 (kg0 0 3 `Z `rP `jG)
 (z80 (`Jc (kn0 0 `km `aMq))
 (z80 (`Jc (U40 0 `km (`gM (oA `E8 v90) oi0)))
 (z80 `up
 `ad)))))
def ox0:`e:=[`eE, `vw, `LJ, `gi]
def tz0:`bX:=mkB 3 ox0 0 qb0
def lp0:GS:=v7 (ifD `bbo
 (v7 `bbp
 u6)
 u6)
 (v7 (R7 `Gc)
 u6)
def lg0:`e:=`e!
def t90:`r:=`bbq
def s40:GSB:=z80 (`x? (`E9 `oo))
 (z80 (ifB (`h5 `Yl `aiL)
 (z80 (vp0 (`jI (`el (unG (atC `C2) (`MS `aL)) (`MP `oo)) tz0))
 `ad)
 `ad)
 (z80 (ifB (`h5 `tC `at2)
 (z80 `hK
 `ad)
 `ad)
 (z80 (ifB (`h5 `Yl `dz)
 (z80 (`At (`ya `b3 t90))
 `ad)
 (z80 (ifB (ws0 (`h5 `Yl `e4) (ob (o2 `aL `RG ltD)))
 (z80 (`At (z8 (ye0 (`el `yf (o2 (`x3 `RG) `aL u90))) v5))
 `ad)
 (z80 (ifB (`h5 `Z `cT)
 (z80 (`At (z8 `rB v5))
 `ad)
 (z80 `hK
 `ad))
 `ad))
 `ad))
 (z80 `up
 `ad))))
def oz0:`e:=[`eE, `iW, "rest"]
def va0:`bX:=mkB 2 oz0 0 s40
def t80:GSB:=z80 (`x? (o2 (o2 (plN `bbr) `hi xm0) (o2 `Z `hi xb0) yf0))
 (z80 (ifB (ob (o2 `Z `hi ltD))
 (z80 (vp0 (`jI `b3 va0))
 `ad)
 `ad)
 (z80 (ifX (orT (liftT `at3) (o50 `bbs))
 (z80 `hK
 `ad)
 `ad)
 (z80 (`Ym `mS `aL)
 (z80 `up
 `ad))))
def oe0:`e:=[`eE, `ok, `iW]
def vn0:`bX:=mkB 2 oe0 0 t80
def Xx0:GS:=v7 (z00 `cy `dz)
 (v7 (vc0 (t70 (z8 (o2 `Z (oA `b3 xh0) u90) v5)) `hj
 (v7 `bbt
 u6))
 (v7 (R7 (o2 (`gM (yh0 1 [1,2] (vs0 `Q) `eW (`bbu) `Q) xh0) `a6 ltD))
 u6))
def Xh0:`e:=[`oi, `h6, `aCH, "most", `r8]
def sf0:`r:=mkF 3 Xh0 Xx0
def ku0:GS:=v7 (vc0 (fi0 `Z) `bp
 (v7 (ifD `Yn
 (v7 `Yo
 u6)
 u6)
 u6))
 (v7 `Je
 u6)
def ks0:`e:=`bbv
def vk0:`r:=`bbw
def uu0:GSB:=z80 `bbx
 (z80 (ifB `bby
 (z80 `hK
 `ad)
 `ad)
 (z80 `bbz
 (z80 (ifB (ob `bbA)
 (z80 (`Jc (kn0 0 `sd `Eb))
 (z80 (`At `aK5)
 (z80 (`Ym `h6 `cT)
 (z80 (`Ym `pT `yg)
 `ad))))
 `ad)
 (z80 `up
 `ad))))
def pz0:`e:=`bbB
def ve0:`bX:=mkB 2 pz0 0 uu0
def or0:GS:=v7 `bbC
 u6
def o30:`e:=`Jf
def u70:`r:=`bbD
def m90:GS:=v7 (ifD `Jd
 (v7 `bbE
 u6)
 u6)
 (v7 (ifD `Yj
 (v7 `IO
 u6)
 u6)
 (v7 (ifD `Yk
 (v7 `bbF
 u6)
 u6)
 (v7 `bbG
 u6)))
def m70:`e:=`DQ
def wk0:`r:=`bbH
def uo0:GS:=v7 (ifD `Xr
 (v7 `hJ
 u6)
 u6)
 (v7 `Xs
 u6)
def we0:`e:=`cj
def xi0:`r:=`Xt
def ty0:GSB:=Vh0 0 1 `aiM (oA `bbI xi0)
def oy0:`e:=[`eE, `gi]
def ue0:`bX:=mkB 1 oy0 0 ty0
def t60:GSB:=z80 (ifB (ob (o2 `Z `aiS geD))
 (z80 `hK
 `ad)
 `ad)
 (z80 (`x? (plN (vz0 0 `sd (o2 (`x3 `aiS) `Z u90))))
 (z80 (ifX (N80 (liftT `bbJ) (uc0 `bbK))
 (z80 `hK
 `ad)
 `ad)
 (z80 `bbL
 (z80 `up
 `ad))))
def qe0:`e:=[`eE, `aEf, `oA]
def u20:`bX:=mkB 2 qe0 0 t60
def vy0:GSB:=z80 (ifB (`h5 (`Rv `Z) `cT)
 (z80 (vp0 (`jI (z8 `bbM v5) u20))
 `ad)
 `ad)
 (z80 (`x? `bbM)
 (z80 (ifB (wt0 `at3 (wt0 (ob `bbN) (ob `bbO)))
 (z80 `hK
 `ad)
 `ad)
 (z80 (ifB (ta0 (ob (`ajk (`el `aL `yg))))
 (z80 `hK
 `ad)
 `ad)
 (z80 (`Ym `h6 `aL)
 (z80 `up
 `ad)))))
def q60:`e:=[`eE, `ok, `h6]
def wm0:`bX:=mkB 2 q60 0 vy0
def qc0:GSB:=z80 (`x? (oA (z8 `Z `aMH) vk0))
 (z80 (ifB `aK4
 (z80 `hK
 `ad)
 `ad)
 (z80 `bbL
 (z80 `up
 `ad)))
def n60:`e:=`bbB
def ud0:`bX:=mkB 2 n60 0 qc0
def nn0:GSB:=z80 (vp0 (xk0 (`FL `aKz)))
 `ad
def ik0:`e:=`mJ
def vm0:`bX:=mkB 1 ik0 0 nn0
def sw0:GSB:=z80 (ifX `Yp
 (z80 `hK
 `ad)
 `ad)
 (z80 `bbP
 (z80 (ifB (wt0 (`h5 `aL `at2) `at4)
 (z80 (`Yq vn0)
 `ad)
 `ad)
 (z80 (ifB `at5
 (z80 (`Yq ud0)
 `ad)
 `ad)
 (z80 (ifB (ob `bbQ)
 (z80 (`Yq ve0)
 `ad)
 `ad)
 (z80 (`Yq wm0)
 `ad)))))
def if0:`e:=[`eE, `ok, `Op]
def wn0:`bX:=mkB 2 if0 0 sw0
def Z50:GS:=v7 (R7 (js0 (uh0 isInt `Q) (Jq0 (uh0 isBool `Q))))
 u6
def br0:`e:=`qM
def p40:`r:=mkF 1 br0 Z50
def Wj0:GS:=v7 (R7 (js0 `at6 `bbR))
 u6
def Wd0:`e:=`qM
def qs0:`r:=mkF 1 Wd0 Wj0
def l40:GSB:=z80 (Tf0 `qI `bp
 (z80 (ifX (orT (liftT `at7) `bbS)
 (z80 (xl0 re0)
 `ad)
 `ad)
 (z80 `bbT
 (z80 `bbU
 `ad))))
 `ad
def fa0:`e:=[`eE, `m4, "thing"]
def pl0:`bX:=mkB 2 fa0 0 l40
def ka0:GSB:=z80 (ifX (o50 `Yp)
 (z80 (xl0 re0)
 `ad)
 `ad)
 (z80 (vp0 (bs0 0 `rP 1 [] `eW `Yr))
 `ad)
def kl0:`e:=`mJ
def o80:`bX:=mkB 1 kl0 0 ka0
def av0:GS:=v7 (Zl0 1 `bv t10)
 (v7 (R9 (wa0 1 `bv W7 `ca pl0))
 (v7 (Oo0 (wa0 1 `bv W7 v5 o80))
 u6))
def Zc0:`e:=[`m4, "reader"]
def rs0:`r:=mkF 1 Zc0 av0
omit z
omit Rk
open Y
def Pairs.at_{w:`T}{K:Type}[`uZ K]{knd:`bbV}:∀{es:`ao `NW} {kvs:`ao (K×`A)},Pairs knd es kvs->∀(i:Nat) (e:`NW),es[i]?=`g3->∃kv,kvs[i]?=`at8/\`EF `kL e.key=`d/\e.val=kv.2:=by
 intro es kvs p
 induction p with
 | nil=>intro i e h;simp at h
 | cons h1 h2 t ih=>intro i e h;cases i with
  | zero=>cases h;exact#[_,rfl,h1,h2]
  | succ i=>let#[kv,a,b]:=ih i e `fX;exact#[kv,`a7 a,b]
def Jz0:`ajK `so `so=`MA:=`a1M
section
variable{w:`T}{K:Type}[`uZ K]{knd:`bbV}{A:`aq}{s:`v}
def Rm0{a b:`f}{o1 o2:Obj}{es1 es2:`aq0}{ep1 ep2:Nat}{id:`da}{Q:`a2A}(ha:`o7)(hb:`aNT)
  (h1:`B7=`c o1) (d1:o1.data=`Nw es1 ep1) (h2:`Bh=`c o2) (d2:o2.data=`Nw es2 ep2) (k2:KeysOf knd es2) (hn:`k3=`at9)
  (hk:∀i (hi:i<`k3),∃k,`EF k es1[i].key=`d/\es1[i].hash=knd.hash k/\(es2.findIdx? λe=>`EF k e.key)=`G2)
  (v:`aoQ) (e12:∀i (hi:i<`k3) (hj:i<`at9),`rU A s es1[i].val es2[i].val (v i))
  (h:Q `at' s):`dH (Builtin.Dict.samePairs id a b):=by
 delta Builtin.Dict.samePairs Builtin.Dict.showsAll;rw[`ap (`k ha C0),`ap (`k hb C0)];refine `yy A5 (A5 (A1 (B00 h1 d1 (`bbW))));rw[`ap (`id hn)];apply `bbX;refine `lQ;rw[Std.Legacy.Range.forIn_eq_forIn_range'];refine u7 _ (λrest (r:`Bk×Unit) s'=>s'=s/\r.1=`g/\∃i,`bG=`xN i (`ajl)/\i<=`k3/\∀j,j<i->v j=`d) _ ?_ ?_ _ _ #[rfl,rfl,0,`en Std.Legacy.Range.size,`bP,λj hj=>`K hj `ah4]
 ·rintro x rest r s' ⟨rfl,hr,i,hx,hi,hp⟩
  have J:i<`k3:=by
   apply `bbY
   ·exact z
   ·rw[`aZ (`ajl=0)] at hx;cases hx
  apply `bbZ;cases hx;let#[k,q1,q2,q3]:=hk x J;have M:x<`at9:=`U
  apply `jQ B00 h1 d1;rw[`RI J];dsimp only;refine `CO;rw[q2];refine A1 (wpAny_dictFind_of q1 h2 d2 k2 ?_);rw[q3];dsimp only;refine `bbW;rw[`RI M];dsimp only;refine D3 ?_;refine e12 x J M `hO w E _ ?_;cases hq:v x with
  | false=>
   refine `eg;show `b6 (`u?) s';refine `eg
   rwa [show `at'=`q from by
    rw[List.all_eq_false];exact#[x,`kr J,`k hq C0]] at h
  | true=>
   simp only[Bool.not_true,`qj,`mw];apply `bbX;rw[`cB];refine A5 #[rfl,rfl,x+1,rfl,J,`qt];rcases Nat.lt_or_eq_of_le (Nat.le_of_lt_succ hj) with z|rfl
   ·exact hp j z
   ·exact hq
 ·rintro⟨r1,r2⟩ s' ⟨rfl,hr,i,hx,hi,hp⟩
  dsimp only at hr;subst hr;have O:i=`k3:=by
   apply `bbY
   ·apply `bbZ;cases hx
   ·lia
  dsimp only;refine `eg
  rwa [show `at'=`d from by
   rw[`gT];exact λj hj=>hp j (`k O `x1)] at h
omit z
def yg1(K:`C):R2:=`c? (∃(a b:`f) (ks:`e0) (xs ys:`P) (B B':DL.BS) (ds es:`Eo),`fa/\`yY/\`wk/\`dY=`bx/\`aWb/\H b=`c (.dK (`rE ys))/\DL.Rps K H B ds xs/\DL.Rps K H B' es ys/\DL.leans ds 50=`d/\DL.leans es 50=`d/\`GO (!`Jg))
def bp0{ks:`e0}{vs:`Vi}(r:KV `rL vs){kv:`aBQ}(h:`acU=`at8):ks[i]?=`c `kL/\∃x,`pj/\`dw x kv.2:=by
 let#[p,e,h1,h2]:=DL.Pd.get r h;let#[q1,q2]:=As1.mp (show `rL[i]?=`c (p.1,p.2) from e);rw[← h1];exact#[q1,_,q2,h2]
def ya0(hu:`apM):`y_ `alF yg1:=by
 apply `ew;skip;let#[a,b,ks,xs,ys,B,B',ds,es,rfl,rfl,l1,l2,ha,hb,rd,re,ld,le,q]:=h;cases (show v=`oj from rx);apply `zz;let#[_,a8,a5,r1,Z]:=mb0 `bT ha;let#[_,a7,Y,r2,a2]:=mb0 `bT hb;have t1:=Z.typeIs;have t2:=a2.typeIs;let#[o1,O,b3,g1,c1,d1,k1,p1,n1]:=Z;let#[o2,J,b2,g2,c2,d2,k2,p2,n2]:=a2;have len:∀{vs:`Vi} {m:`P} {es:`aq0},`dY=`acA->KV (`rE m) vs->Pairs `H3 `ajZ vs->es.size=`dY:=λ{vs m es} hl r p=>by
  have:=`at!;have h2:=x4 r;rw[`ru] at h2;apply `ay `yv;lia
 have s1:=len l1 r1 p1;have s2:=len l2 r2 p2;done;have e1:∀i (hi:i<O.size),`bb_ a5 O[i].key O[i].val:=`bb0 p1
 have e2:∀i (hi:i<J.size),`bb_ Y J[i].key J[i].val:=`bb0 p2
 show `b6 (richCompare `Dk `ci `EH) s;refine wpAny_richCompare_same_room t1 t2 Bg1 (L7 Bg1 t1 PySem.F.entry_dict_ne ?_ (PySem.F.args_dict_ne_2 _ _)) (A2 (i4 _ 64) hu);show `w? (Builtin.Dict.dictSlotArgs "__ne__" #[[`cQ,`rr],[]]);delta Builtin.Dict.dictSlotArgs;refine A1 (A1 (z0 t1 ?_));show `b6 (`bD (`oj,`e1 b)) s;refine `eg;dsimp only;apply `jQ x3 t2 Jz0;simp only[Bool.not_true,`qj,`mw];show `w? (`bD a);refine `G0;show `w? (`bD b);refine `G0;have a4:`b2=`dY:=`Dp rd.length l1
 have b0:`fh=`dY:=`Dp re.length l2
 refine A1 (Rm0 (knd:=`Ch) a8 a7 g1 d1 g2 d2 k2 (`mo s2.symm) (`Ys) `bb1 (λi hi hj=>?_) ?_)
 ·skip;apply `bb2
  let#[a3,w1,w2,w3]:=e2 i `l;let#[x1,_]:=bp0 r1 q1;let#[x2,_]:=bp0 r2 w1;rw[x1] at x2;have ek:`kL=a3.1:=B4 x2;let#[k',y1,y2]:=k1 O[i] (Ax1 hi);have:=(`Ch).inj _ _ _ y1 q2;subst this;done;refine#[`kL,q2,y2,?_];have fx:(J.findIdx? `bb3)=J.toList.findIdx? `bb3:=by
   let#[l]:=J;simp
  rw[fx,p2.findIdx];have M:=(`c9 w1);rw[List.findIdx?_eq_some_iff_getElem];refine#[M.1,`k M.2 (E9 ek.symm),`qt];intro z;have ez:=E2 z;have h1:`bb4[j]'(`k `x (F7 hj M.1))=`bb4[i]'(`k `x M.1):=by
   rw[`Jh,`Jh,ez,M.2,ek]
  have:=(i7 n2).mp h1;lia
 ·skip;apply `bb2
  let#[a3,w1,w2,w3]:=e2 i hj;let#[_,x,ex,rx]:=bp0 r1 q1;let#[_,y,ey,ry]:=bp0 r2 w1;have hd:i<`b2:=`U
  have he:i<`fh:=`U
  let#[x',ex',a6]:=rd.get (C9 hd);let#[y',a1,b1]:=re.get (C9 he);rw[ex] at ex';rw[ey] at a1;cases ex';cases a1;done;rw[q3,w3,`F_ (`aMC=ds[i]) hd,`F_ (`aMD=es[i]) he];exact DL.zj1 I 50 50 _ _ _ _ _ _ _ (`bE (`Bo+1+50<`i1)) (DL.qm0 ld (C9 hd)) (DL.qm0 le (C9 he)) a6 b1 rx ry
 ·refine A5 #[_,rfl,`g4,`cL,H,I,rfl,?_]
  rw[s1,show (`aDU).all `bb1=`Jg from by
   rw[DL.qy0,a4,b0,`LH,`apK,`apL]]
  have:(`Jg==`q)=!`Jg:=`Qa `Jg
  first|exact q|(rw[`w];exact q)
omit L2
open X
def neT:`bA
 | `dy `K8 vs,`dy (`n ls) ws=>`bL (ks=ls/\`ej vs 50=`d/\`ej ws 50=`d) (.bl (!un0 vs ws))
 | _,_=>`g
open T in
def K7:Op2 K (yg1 K) neT:=by
 apply `hI;delta neT at h;split at h
 ·rename_i ks vs ls ws
  split at h
  ·rename_i hk
   let#[hk,hv,hw]:=hk;subst hk;cases h;rw[pi0] at rx ry;let#[a,xs,rfl,_,hx,l1,r1]:=rx;let#[b,ys,rfl,_,hy,l2,r2]:=ry;exact#[a,b,ks,xs,ys,B,B,vs,ws,rfl,rfl,l1,l2,hx,hy,r1,r2,hv,hw,`EC]
  ·cases h
 ·cases h
omit DL
namespace Qw
open DL W Rk
section
def pk0:GS:=v7 `qH
 (v7 (vc0 `lF `bp
 (v7 `as3
 (v7 (ifD `as4
 (v7 `as5
 u6)
 u6)
 u6)))
 (v7 `a?i
 u6))
def pq0:`e:=`a?j
def s90:`r:=`a?k
def m00:GS:=v7 (ifD `hh
 (v7 `hJ
 u6)
 u6)
 (v7 (ifD `kS
 (v7 `z!
 u6)
 u6)
 (v7 `asb
 u6))
def nq0:`e:=`cj
def m_values:`r:=`asc
def s70:GS:=v7 (ifD `hh
 (v7 `asd
 u6)
 u6)
 (v7 (ifD `kS
 (v7 `IO
 u6)
 u6)
 (v7 `ase
 (v7 (ifD `asf
 (v7 `asg
 u6)
 u6)
 (v7 `ash
 u6))))
def sd0:`e:=`asi
def ua0:`r:=`asj
def dw0:GS:=v7 `bb5
 u6
def d40:`e:=`cj
def ut0:`r:=`bb6
def Xb0:GS:=v7 (wu0 3 `n5)
 (v7 (wu0 4 (oA `b3 h80))
 (v7 (wu0 5 (yu0 `d_))
 (v7 (xw0 `bb7
 (v7 `bb8
 (v7 (ifD `bb9
 (v7 `bb'
 (v7 `bb!
 (v7 (R9 (v60 5 (`gM (`gM (`bb?) ut0) oi0)))
 u6)))
 u6)
 u6)) 100000)
 (v7 `as9
 u6))))
def Xc0:`e:=[`ee, "k", "left", "order", "seen", `n7, `gi]
def j60:`r:=mkN 3 Xc0 Xb0
def Gv0:GS:=v7 (w60 (oA (z8 `Q (`el `Z `BZ)) j60))
 u6
def Gt0:`e:=`na
def qh0:`r:=mkN 2 Gt0 Gv0
def lm0:GS:=v7 `bca
 (v7 `bcb
 u6)
def lf0:`e:=`bcc
def ow0:`r:=`bcd
def Qd0:GS:=v7 (z00 `bp (g00 (oA `FR qh0)))
 (v7 `Ag
 (v7 (vc0 (ky0 `b3) (`IY)
 (v7 (v10 `RJ `aiT)
 u6))
 (v7 (`CW (`gM (`F? [0,3] (vs0 `aL) (oA (z8 (orE `ajr `aMn) `b3) ow0)) wb0))
 u6)))
def P40:`e:=[`ee, "k", "order", `adR, `iW, `gi]
def vq0:`r:=mkF 2 P40 Qd0
def qg0:GS:=v7 `a?l
 (v7 `Ag
 (v7 (vc0 `qI (`IY)
 (v7 (ifD `as6
 (v7 re0
 u6)
 u6)
 (v7 (ifD `as7
 (v7 re0
 u6)
 u6)
 (v7 `as8
 u6))))
 (v7 `as9
 u6)))
def qd0:`e:=`a?m
def sh0:`r:=`a?n
def tj0:GS:=v7 `as'
 (v7 `as!
 (v7 `as?
 (v7 `ata
 u6)))
def tm0:`e:=`atb
def vo0:`r:=`atc
def nv0:GS:=v7 `XP
 (v7 (vc0 `lF `cy
 (v7 (ifD `XQ
 (v7 `XR
 (v7 `XS
 u6))
 (v7 `qL
 u6))
 u6))
 (v7 `XT
 u6))
def ng0:`e:=`atd
def rz0:`r:=`ate
def mc0:GS:=v7 `a?o
 u6
def m40:`e:=`cj
def te0:`r:=`a?p
def Xg0:GS:=v7 (z00 `cy (oA (`el `Q (oA `E8 sh0)) rz0))
 (v7 (ifD (wt0 (ob (o2 (oA `jH s90) `aiO gtD)) (ta0 (ob (`gM (`F? [] (`kg `a6) (oA `ca te0)) Ok0))))
 (v7 re0
 u6)
 u6)
 (v7 (R7 `a6)
 u6))
def Xq0:`e:=[`ee, `Cn, `Om, `wE]
def vg0:`r:=mkF 3 Xq0 Xg0
def dh0:GS:=v7 `baF
 u6
def dd0:`e:=`I!
def th0:`r:=`baG
def qz0:GS:=v7 (ifD `Xy
 (v7 `Aa
 u6)
 u6)
 (v7 (ifD `tc
 (v7 `a'W
 u6)
 u6)
 (v7 `a'X
 u6))
def p10:`e:=`IQ
def tf0:`r:=`a'Y
def oc0:GS:=v7 (ifD `a'Z
 (v7 `a'_
 u6)
 u6)
 (v7 `a'0
 u6)
def o60:`e:=`IR
def tu0:`r:=`a'1
def od0:GS:=v7 `a'2
 (v7 (vc0 `a'3 `bp
 (v7 `asG
 u6))
 (v7 `uf
 u6))
def oq0:`e:=`a'4
def sy0:`r:=`a'5
def g50:GS:=v7 `a'6
 (v7 `a'7
 (v7 (vc0 `qI `cy
 (v7 `asH
 u6))
 (v7 (vc0 `qI `cy
 (v7 `asI
 u6))
 (v7 `asJ
 u6))))
def gp0:`e:=`a'8
def pw0:`r:=`a'9
def rm0:GS:=v7 (ifD `bce
 (v7 `Je
 u6)
 u6)
 (v7 (ifD `bcf
 (v7 `bcg
 u6)
 u6)
 (v7 `bch
 u6))
def rr0:`e:=`e!
def uf0:`r:=`bci
def m50:GS:=v7 (z00 `bp `cT)
 (v7 `Ji
 (v7 (xw0 `at?
 (v7 `aua
 (v7 `aub
 (v7 `Ji
 u6))) 100000)
 (v7 `bcj
 u6)))
def m80:`e:=`bck
def v00:`r:=`bcl
def f40:GS:=v7 (z00 `bp (oA `bcm v00))
 (v7 (ifD (wt0 `bcn `bco)
 (v7 re0
 u6)
 u6)
 (v7 (z00 `cy `Ga)
 (v7 (wu0 4 `n5)
 (v7 (xw0 `bcp
 (v7 `bcq
 (v7 `bcr
 (v7 (z00 `cy `x5)
 u6))) 100000)
 (v7 (Hu0 4 (wu0 6 `n5))
 (v7 (vc0 (vs0 `cv) `kG
 (v7 `bcs
 (v7 `bct
 u6)))
 (v7 (`CW `m!)
 u6)))))))
def fc0:`e:=[`ku, "k", `yh, `r8, "sizes", `LJ, "starts"]
def pp0:`r:=mkF 2 fc0 f40
def jf0:GS:=v7 `bcu
 u6
def kx0:`e:=`Jj
def o20:`r:=`bcv
def j30:GS:=v7 (ifD `at5
 (v7 `bcw
 u6)
 u6)
 (v7 `bcx
 (v7 (ifD `at4
 (v7 `bcy
 u6)
 u6)
 (v7 `bcz
 u6)))
def j50:`e:=`bcA
def td0:`r:=`bcB
def je0:GS:=v7 `bcC
 (v7 `bcD
 (v7 (z00 `hj `Ga)
 (v7 `auc
 (v7 (vc0 `bcE `wm
 (v7 `aud
 (v7 `aue
 (v7 `auf
 u6))))
 (v7 `bcF
 u6)))))
def j80:`e:=`bcG
def tb0:`r:=`bcH
def Tv0:GS:=v7 (z00 `bp (oA `FR pp0))
 (v7 `Ag
 (v7 (wu0 4 (yu0 `d_))
 (v7 (xw0 `Ja
 (v7 `Jb
 (v7 (ifD `bcI
 (v7 `bcJ
 (v7 `bcK
 u6))
 u6)
 u6)) 100000)
 (v7 (`CW (oA (z8 `a6 `d_) vq0))
 u6))))
def Su0:`e:=[`ku, "k", "starts", "parts", `n7, `iW]
def qt0:`r:=mkF 2 Su0 Tv0
def M80:GS:=v7 (R7 (o2 (oA `ca `Jk) (oA `d_ `Jk) jt0))
 u6
def K00:`e:=`Yt
def o40:`r:=mkF 2 K00 M80
def p30:GS:=v7 (ifD `a'L
 (v7 `a'M
 u6)
 u6)
 (v7 `Aa
 u6)
def qw0:`e:=`np
def ug0:`r:=`a'N
def fj0:GS:=v7 (R7 (o2 (`x7 (o2 (o2 (o2 `bcL `bcM xm0) (o2 `bcN `Z xm0) yf0) (o2 (gc (`h 23)) `Z xm0) yf0)) (gc (`bcO)) xb0))
 u6
def fy0:`e:=`np
def wq0:`r:=mkF 2 fy0 fj0
def ct0:GS:=v7 (z00 `aiK `aiU)
 (v7 (R7 (`gM (sk0 (yh0 1 [0,1] (t70 (z8 `Ry v5)) `eW (`bcP) (`bcQ)) uv0 (`oh `Ft)) wb0))
 u6)
def cj0:`e:=[`kn, `ahY]
def q80:`r:=mkF 1 cj0 ct0
def c60:GS:=v7 `qH
 (v7 (vc0 `ajs `bp
 (v7 `bcR
 (v7 `bcS
 (v7 `bcT
 (v7 `bcU
 u6)))))
 (v7 (`CW (oA `d_ wb0))
 u6))
def ca0:`e:=[`uY, `Os, `Bw, `kn, `bcV, `bcW]
def md0:`r:=mkF 1 ca0 c60
def fx0:GS:=v7 (R7 (o2 (yu0 (`bcX)) `aLg ixD))
 u6
def em0:`e:=`uq
def tw0:`r:=mkF 2 em0 fx0
def cf0:GS:=v7 `bcY
 (v7 `bcZ
 (v7 `bc_
 (v7 (ifD (`h5 `cv `cT)
 (v7 (R7 (ye0 (`el `LS (`gM (yh0 2 [] (vs0 `a6) `Fu noT `Z) wb0))))
 u6)
 u6)
 (v7 (ifD (`h5 `cv `dz)
 (v7 (R7 (ye0 (z8 `CX `bc0)))
 u6)
 u6)
 (v7 (R7 (ye0 (z8 `kT (z8 (o2 (yu0 (z8 `ajo (z8 `aMV (`el `ajo (gc (`aLC)))))) (o2 `cv `e4 u90) ixD) `bc0))))
 u6)))))
def ma0:`e:=[`kn, `BM, `ahY, "_law_pairs", "_law_kind"]
def q70:`r:=mkF 2 ma0 cf0
def ce0:GS:=v7 (vc0 `lF `acE
 (v7 (ifD `bc1
 (v7 (vc0 `bc2 `Fx
 (v7 (ifD `bc3
 (v7 `bc4
 u6)
 u6)
 u6))
 u6)
 u6)
 u6))
 (v7 `Je
 u6)
def cq0:`e:=[`k2, `aCG, `Nq, `bc5, `bcV, `bcW, "_law_field", `ahZ]
def u40:`r:=mkF 3 cq0 ce0
def cm0:GS:=v7 `atU
 (v7 (vc0 (vs0 `aiU) `cy
 (v7 `bc6
 u6))
 (v7 (vc0 (`kg `aMj) (ux0 3 4)
 (v7 `bc7
 u6))
 (v7 `asJ
 u6)))
def cp0:`e:=[`Or, `k2, "_law_words", `Nq, `ahZ]
def sl0:`r:=mkN 2 cp0 cm0
def cr0:GS:=v7 (z00 `cy (`F? [] (`kg `aL) `gB))
 (v7 (ifD (ob (o2 `aL? `D8 rp0))
 (v7 `l?
 u6)
 u6)
 (v7 (vc0 (t70 `aL') `hj
 (v7 `bc8
 (v7 (ifD `bc9
 (v7 (ifD `bc'
 (v7 `l?
 u6)
 u6)
 u6)
 (v7 (ifD `aug
 (v7 `l?
 u6)
 u6)
 u6))
 u6)))
 (v7 (R7 `aCg)
 u6)))
def co0:`e:=[`DR, `Os, `k2, `bc5, `Bw, `Or]
def me0:`r:=mkF 3 co0 cr0
def f80:GS:=v7 `XP
 (v7 (vc0 `lF `cy
 (v7 (ifD `bc!
 (v7 `bc?
 (v7 `bda
 (v7 `bdb
 u6)))
 u6)
 (v7 `qL
 u6)))
 (v7 `XT
 u6))
def f10:`e:=[`DR, `k2, "_law_parts", `Or, "_law_told_here", "_law_more"]
def pm0:`r:=mkF 2 f10 f80
def Gq0:GS:=v7 (z00 `aiK (oA `bcm wq0))
 (v7 (z00 `bp (o2 `dz (o2 `Z `Ft xb0) yf0))
 (v7 (z00 `cy (`gM (`F? [0,2] (t70 `b3) `bdc) wb0))
 (v7 (z00 `cy (oA `jH `Jk))
 (v7 (z00 `hj (oA `ca md0))
 (v7 `auc
 (v7 (vc0 `ajs `wm
 (v7 `bdd
 (v7 `bde
 u6)))
 (v7 (Hu0 5 (z00 (gN 8) (`Jl `a6 (`el `cv `Qs))))
 (v7 (z00 (gN 9) (`Jl (`gM (oA `auh kd0) rs0) `aui))
 (v7 (z00 (gN 10) (`gM (gv 9) pw0))
 (v7 (z00 (gN 11) (`Jl (Iw0 10 (0) qt0) (`el `cv (Ji0 `Qs))))
 (v7 (ifD (wt0 (ob (o2 (`gM (gv 11) `Jk) (oA `auh `Jk) rp0)) (ta0 (ob (oA (z8 (gv 11) `auh) o40))))
 (v7 `l?
 u6)
 u6)
 (v7 (vc0 (`kg (ye0 (z8 `adn (`el (gv 9) (gv 11))))) (gN 12)
 (v7 (ifD `bdf
 (v7 `l?
 u6)
 u6)
 u6))
 (v7 (ifD (ta0 (ob (oA (z8 `a6 (z8 `adn `x4)) me0)))
 (v7 `l?
 u6)
 u6)
 (v7 (R7 (o2 (`Jl (oA `aM2 pm0) `aui) (`Jl `a6 `aui) jt0))
 u6))))))))))))))
def Vs0:`e:=[`uY, "_law_first", `BM, `DR, `k2, "_law_lists", `Bw, `kn, "_law_one", "_law_two", "_law_row", "_law_three", `Os]
def dv0:`r:=mkF 1 Vs0 Gq0
omit z
omit Qw
namespace Ia
open DL W
def lp0:GS:=v7 (ifD `bbo
 (v7 `bbp
 u6)
 u6)
 (v7 (R7 `Gc)
 u6)
def lg0:`e:=`e!
def t90:`r:=`bbq
def ku0:GS:=v7 (vc0 (fi0 `Z) `bp
 (v7 (ifD `Yn
 (v7 `Yo
 u6)
 u6)
 u6))
 (v7 `Je
 u6)
def ks0:`e:=`bbv
def vk0:`r:=`bbw
def qx0:GS:=v7 (ifD `Jd
 (v7 `bbg
 u6)
 u6)
 (v7 (ifD `Yj
 (v7 `bbh
 u6)
 u6)
 (v7 (ifD `Yk
 (v7 `bbi
 u6)
 u6)
 (v7 `bbj
 u6)))
def p20:`e:=`FF
def v90:`r:=`bbk
def or0:GS:=v7 `bbC
 u6
def o30:`e:=`Jf
def u70:`r:=`bbD
def m90:GS:=v7 (ifD `Jd
 (v7 `bbE
 u6)
 u6)
 (v7 (ifD `Yj
 (v7 `IO
 u6)
 u6)
 (v7 (ifD `Yk
 (v7 `bbF
 u6)
 u6)
 (v7 `bbG
 u6)))
def m70:`e:=`DQ
def wk0:`r:=`bbH
def rm0:GS:=v7 (ifD `bce
 (v7 `Je
 u6)
 u6)
 (v7 (ifD `bcf
 (v7 `bcg
 u6)
 u6)
 (v7 `bch
 u6))
def rr0:`e:=`e!
def uf0:`r:=`bci
def m50:GS:=v7 (z00 `bp `cT)
 (v7 `Ji
 (v7 (xw0 `at?
 (v7 `aua
 (v7 `aub
 (v7 `Ji
 u6))) 100000)
 (v7 `bcj
 u6)))
def m80:`e:=`bck
def v00:`r:=`bcl
def jf0:GS:=v7 `bcu
 u6
def kx0:`e:=`Jj
def o20:`r:=`bcv
def j30:GS:=v7 (ifD `at5
 (v7 `bcw
 u6)
 u6)
 (v7 `bcx
 (v7 (ifD `at4
 (v7 `bcy
 u6)
 u6)
 (v7 `bcz
 u6)))
def j50:`e:=`bcA
def td0:`r:=`bcB
def je0:GS:=v7 `bcC
 (v7 `bcD
 (v7 (z00 `hj `Ga)
 (v7 `auc
 (v7 (vc0 `bcE `wm
 (v7 `aud
 (v7 `aue
 (v7 `auf
 u6))))
 (v7 `bcF
 u6)))))
def j80:`e:=`bcG
def tb0:`r:=`bcH
open Bw (bs hi dg bi0 O90 xr0)
def Tel(F:D)(a:Nat)(l:`ai):Prop:=∀i (h:i<`aC),uy0 F (`h `auj)=`c (`h l[i])
def Tel.left{F:D}{a:Nat}{l m:`ai}(h:`bdg):Tel F a l:=(λi hi=>by
 have:=h i `Ae
 apply `iD (List.getElem_append_left hi))
def Tel.right{F:D}{a:Nat}{l m:`ai}(h:`bdg):Tel F (a+`aC) m:=(λi hi=>by
 have:=h (`aC+i) `Ae;apply `ay (List.getElem_append_right `l);rw[show a+`aC+i=a+(`aC+i) from `U,`w];simp)
def Tel.head{F:D}{a:Nat}{x:Int}{l:`ai}(h:`bdh):`bdi=`Jm:=(h 0 `az)
def Tel.tail{F:D}{a:Nat}{x:Int}{l:`ai}(h:`bdh):Tel F (a+1) l:=(Tel.right (l:=[x]) h)
noncomputable def NT:GB:=`at?
def NB':GS:=v7 `aua
 (v7 `aub
 (v7 `Ji
 u6))
def nt(F:Sl)(a:Sl)(b:Sl)(z:Int):NT [F,a,b,`Fa]=`bs (128<=z):=(`Jn)
def val(m:Nat)(l:`j):Nat:=l.foldl (λm d=>`ad4) m
def dgs(l:`j)(x:Nat):`ai:=`aH (λd=>`sE)++[`K3]
def Ds0(F:D)(d m a:Nat)(y':Int)(hcall:`bdj=`c (`auk)):NB' `aul=`ac [`bd,.sh (`aum),.sh `aun,.sh (`auk)]:=by
 have e1:o2 `ajm `hi u90 `aul=`c `aun:=by
  rw[j4 (x:=`h (`oY*128+`sE)) (y:=`uN) (by
   rw[j4 (x:=`h (`oY*128)) (y:=`h `sE) (by
    rw[`X `aai `uN rfl];apply `aM xm0;rw[`I (`u `E)]) rfl]
   rfl) rfl]
  show `dd (`bdk);rw[`aZ (`bdk=`aDO)]
 refine `Au e1 (`eB [`bd,.sh (`agY),.sh `aun,`aDM] (`gd `auk ?_))
 ·rw[`X F `agY rfl]
  exact hcall
 ·rw[`bdl]
  rfl
def mv0(l:`j)(x:Nat):Int:=match l with
 | []=>`K3
 | d::_=>`sE
def Rx0(l:`j)(x:Nat):∃r,`Jo=mv0 l x::r:=by
 cases l with
 | nil=>exact`bdm
 | cons d l=>exact#[`Jo,rfl]
def ds0{gt:GB}{G:GS}{f:Nat}{δ:Ds}(h:`hw=`br):`bdn=`xf:=by
 delta xw0;rw[h]
def ih0{gt:GB}{G:GS}{f:Nat}{δ:Ds}(h:`hw=`eN)(hb:`arb):`bdn=xw0 gt G f δ':=by
 conv=>lhs;delta xw0
 rw[h];apply `aM hb
def go(F:D)(x:Nat)(hx:x<128):∀(l:`j) (m a:Nat) (f:Nat),`aC<f->`lt `Jo ->
  xw0 NT NB' f [`bd,`cJ,`g9,`fN (mv0 l x)]=`ac [`bd,`bdo,`fN (val m l:Int),`kh]:=by
 intro l
 induction l with
 | nil=>
  intro m a f hf ht;cases f with
  | zero=>apply `IT
  | succ f=>
   have t:NT [`bd,`cJ,`g9,`kh]=`br:=by
    rw[nt,`ds]
   exact ds0 t
 | cons d l ih=>
  intro m a f hf ht;cases f with
  | zero=>apply `IT
  | succ f=>
   have M:Tel F (a+1) (`Jo):=by
    have e:dgs (d::l) x=mv0 (d::l) x::`Jo:=rfl;rw[e] at ht;exact ht.tail
   let#[r,hr]:=Rx0 l x;have J:`bdj=`lU (mv0 l x):=by
    have h2:=M;rw[hr] at h2;have h3:=h2.head;rw[`aZ (((`aEy):Int)=`No)] at h3;exact h3
   have t:NT `aul=`eN:=by
    rw[nt,`qJ]
   have h1:=ih (`ad4) (a+1) f (by rw[`ae] at hf;lia) M;have h2:=(ih0 (f:=f) t (Ds0 F d m a _ J)).trans h1;rw[show a+1+`aC=a+(`o (d::l)) by rw[`ae];lia] at h2;exact h2
def v51:∀(k r:Nat),r<2 ^ k->∃l:`j,(∀d∈l,d<128)/\hi r=`aH (λd=>`sE)/\val 0 l=r/\`aC<=k:=by
 intro k
 induction k with
 | zero=>
  intro r h;have:r=0:=`aab
  subst this;exact#[[],`bdp,bi0,rfl,`fA]
 | succ k ih=>
  intro r h
  by_cases h0:r=0
  ·subst h0
   exact#[[],`bdp,bi0,rfl,`bP]
  ·have:2 ^ `fZ=2 ^ k*2:=F60 2 k
   let#[l,h1,h2,h3,h4]:=`a!b;refine#[l++[r%128],`qK,?_,?_,`aap]
   ·rcases `c7 hd with q|q
    ·exact h1 d q
    ·rw[`IH];lia
   ·rw[O90 r h0,h2,`au]
    rfl
   ·delta val at h3 ⊢
    rw[`a0!,h3];show `KX*128+r%128=r;lia
def ie0{F:D}{a:Nat}(hn:`Ab)(h:`lt (bs n)):v00 `Rm=`c `aBv:=by
 apply `cq
 let#[l,h1,h2,h3,h4]:=v51 2600 `IS (A2 (F70 n 128) hn);have e:bs n=dgs l `Jp:=by delta Bw.bs dgs;rw[h2]
 rw[e] at h;let#[r,hr]:=Rx0 l `Jp;have hc:`bdi=`lU (mv0 l `Jp):=by
  have h2:=h;rw[hr] at h2;exact h2.head
 have hl:`Mk=`aC+1:=by rw[e];delta dgs;simp
 refine `um (yr0 (d:=`b') rfl) (`gd (`h (mv0 l `Jp)) (`bU [`bd,`bdo,`fN `auo,.sh (`asL)] `ec))
 ·rw[`bdq]
  exact hc
 ·exact go F `Jp `l l 0 a 100000 `l h
 ·refine `Yu `fP (`ix `Qy)
  ·rw[j4 (x:=`h (`auo*128)) (y:=`asL) (by
    rw[`l8 `auo `uN];apply `aM xm0;rw[`I (`u `E)]) rfl,h3]
   show `dd (`bdr);rw[`aZ (`bdr=`bm)]
  ·show `dd (`agZ+1)
   rw[hl,`aZ (`agZ+1=(`ak (a+(`aC+1))))]
def w71{gA:GA}{δ:Ds}(h:`dk=`c [`tF,`gn])(h1:i<=12000000)(h2:j<=12000000):dp0 gA δ=`c (u00 `hX `bN):=by
 delta dp0;rw[h,`s];have c:(12000000:Int)<`e_:=`a5
 have c0:`k7<=`f5:=`a5
 have a1:`hX<=12000000:=`U
 have a2:`bN<=12000000:=`U
 have b1:`k7<=`hX/\`hX<`e_:=#[`bds c0 (I00 i),a20 a1 c];have b2:`k7<=`bN/\`bN<`e_:=#[`bds c0 (I00 j),a20 a2 c];apply `aM Ps0;rw[`I #[b1,b2]]
open Bw (Vb fold vn xr0)
def z41(z:Int):t90 [`E3]=`agH:=by
 have t:ob `aiP `aiW=`bs (`kA%2=1):=xr0 (by
  rw[`l8 (`kA%2) `dl];rfl)
 by_cases h:z<0
 ·have e:`kA=`XB:=`bdt `bM
  refine `nP;show `bdu;rw[`ma t `bdv];apply `l7;show `dd (-(`kA/2) - 1);rw[e,`Jq (-((`XB)/2) - 1=z)]
 ·have e:`kA=2*z:=`bdt `bV
  apply `cp `aiW ?_ `ec
  ·show `bdu
   rw[`jC t `RY];rfl
  ·show `dd (`kA/2)
   rw[e,`Jq (2*z/2=z)]
def Cd0{v:D}(h:`a3):uf0 [`N4]=`aX:=by
 apply `cq
 have t1:∀n:Int,ob `aK9 `Av=`c `bdw:=λn=>`Jn
 have t2:∀n:Int,ob `aK' `Av=`bs (n%2=0):=λn=>xr0 (by
  rw[`l8 (n%2) `b'];rfl)
 cases h with
 | non=>
  refine `nP;show `eu [.sh `q2]=_;rw[`ma t1 `yb];rfl
 | lk j hj=>
  have e:`a!p:=`a!q
  rw[e];apply `cp `aM3 ?_ `g2
  ·apply `bdx
   rw[`bdy];rfl
  ·apply `bdx
   rw[`ma t2 `qJ];refine `Yv (`ix `gn);show `dd (`ajt/2 - 1);rw[`aZ (`ajt/2 - 1=`bN)]
 | int x hx=>
  have e:(`ak (vn `KA))=`aCN:=`bE ((`ak (2*`Nh+1))=_)
  rw[e];apply `cp `ajv ?_ (`bU `ajv `ec)
  ·apply `bdz
   rw[`bdy];rfl
  ·apply `bdz
   rw[`jC t2 `ds];rfl
  ·rw[d9 (ds:=[`h `ad2]) (`O (by
    show `dd (`aju/2);rw[`aZ (`aju/2=`ad2)]) rfl)]
   exact z41 x
open Bw (xr0)
def SB:GS:=v7 (ifD `Yn
 (v7 `Yo
 u6)
 u6)
 u6
def y71(c e:Nat)(S:Sl):ob `ab9 `Jr=`bs ((e:Int)=`vt):=(xr0 (by
 rw[`X `bdA `Ct rfl];rfl))
theorem Tn0(c:Nat)(S:Sl):∀(l:`j) (s:Sl),c∈l->`xL (`aH `ag0) [`LX,S,s]=`Fz `TA
 | [],s,h=>by cases h
 | e::l,s,h=>by
  rw[`J,w90];show (match SB `Jr with
   | `Yw=>`bdB
   | `bdC=>`bdB
   | `bdD=>`Yw
   | r=>r)=_
  by_cases hc:e=c
  ·subst hc
   have b:SB [.sh (`bdA),S,.sh `abq]=`Fz `abq:=by
    refine W5 ?_;rw[`ma y71 `yb];rfl
   rw[b]
  ·have b:SB `Jr=`ac `Jr:=by
    refine `bU `Jr rfl;rw[`jC y71 `ds];rfl
   rw[b];exact Tn0 c S l _ (`ad5 λz=>hc `i!)
def P20(x:Str)(c:Nat)(h:c∈`Wr):vk0 [`Ct,`cG]=`c `TA:=by
 refine `eA (W5 (`gL (`aVu `ag0) (Tn0 c _ _ _ h)))
open Bw (sg xr0)
def Vt0{f:`aR}{gt:GB}{ge:GE}{δ:Ds}(r h:Nat->D):∀l:`j,(∀j∈l,∃δ',f (r j) δ=`wv/\`ank/\`Ep=`c (h j))->`wj δ (`aH r)=`anl:=by
 intro z;induction z with
 | nil=>intro _;exact rfl
 | cons j l iq=>
  intro H
  let#[δ',e1,e2,e3]:=H j A8;have ih:=iq λi hi=>H i (A7 _ hi)
  rw[`J];delta wl0;rw[e1];dsimp only;rw[e2];dsimp only;rw[e3,ih];rfl
def Zy0{F:D}{a:Nat}{s:Str}(hs:`nl)(ha:a<=11000000)(h:`lt (sg s))(hc:∀c∈`e6,`Yx):o20 [F,`iS,`sK]=`a!H:=by
 apply `cq
 apply `aup `j `e6;have ll:`aC=`eG:=`bdE
 have es:s=`wc:=`bdF
 refine `iN
 change ot0 _ _ [`bd,`cJ,.sh (`sK)]=_
 rw[Zr0 (x:=`op) (ds:=`bdG) rfl (`O (w00 (items:=`bdH) (w71 (i:=a) (j:=a+`eG) (`O rfl (`O (by
   show `dd (`g_+`vb);rw[`aZ (`g_+`vb=`ag1)]) rfl)) `l `l) (by delta u00;rw[`x,`d?];lia) (by
   have e0:`aIF=`bdI λj=>`bH #[⟨`auq⟩]:=by
    refine i6 (by delta ones;simp[ll]) `bdJ
    have hi:i<`aC:=by rw[`x,`d?] at h2;lia
    delta ones;simp[hi]
   have e1:`bdH=`bdI λ(k:Nat)=>`de (`g_+`cS):=by
    delta u00;rw[`aZ ((`ag1 - `g_).toNat=`eG)]
   rw[e0,e1];refine Vt0 _ _ _ λj hj=>(`rg [`fN (`aur),`bd] ?_)
   have hj:j<`eG:=`x1;have J:j<`aC:=`U
   have ej:`auq=l[j]:=`a4v
   rw[d9 (ds:=[`h (`ak `auq),`p nameS]) (`O (by
    rw[`X F (`h (`aur)) rfl,`aZ (`aur=(`ak (a+j)))];have q:=h j `bdK;rw[q,ej];have:(sg s)[j]'`bdK=(`ak (l[j])):=by
     delta Bw.sg;rw[`Jh];subst hl;rfl
    rw[`w]) rfl)]
   exact P20 nameS _ (hc _ (by rw[ej,← hl];exact D6 _)))) rfl)]
 have e1:=`bdL;have M:`bdM:=`zb
 apply `aM dl0;rw[M,`s,fl0,join_ones,`I (by
  have:`bdN:=`aU
  rw[`w];lia),es]
open Bw (sg xr0 bs vn Vb Vk0 small)
def fq0{F:Sl}{p s3:Sl}:`Js `aL `aij [F,p,`CZ,s3]=`c (`GP):=(`Jn)
def Ef0{F:D}{a c:Nat}(h:Tel F a [`vt])(hc:`as2):`aus `aif [`oN,`aum]:=by
 apply `cq
 refine `nP
 change `eu (`E' `aif .un)=_
 rw[`bdO];refine `kZ (`Yu `oN (`ix `aum))
 ·rw[`cC [`Ct,`p d70] (`k `bdq h.head)]
  exact P20 d70 c hc
 ·show `dd (`No)
  rw[`bdl]
def H60{F:D}{a:Nat}{v:D}(hv:`a3)(h:`lt `N5):`aus `vY [v,`aDP]:=by
 apply `cq
 have hn:=ie0 (Vk0 hv) h;apply `cp `bdP ?_ (`gd `aut `g2)
 ·change `eu `bdP=_
  rw[`auu `bf];rfl
 ·apply `Jt
  exact hn
 ·change `eu (`E' `vY (.sh (`aut)))=_
  rw[`bdO];refine `kZ (`Yu v `e');rw[`cC [`N4] (`ax (`X `aut `b' rfl))];exact Cd0 hv
def Fu0{F:D}{a:Nat}{s:Str}{w:Str}(hw1:`bdQ)(hw2:`bdR)(hs:`nl)(ha:`bdS)(h:`lt `O5)(hc:∀c∈`e6,`Yx):
  `aus `pI [`dh,`bdT]:=by
 apply `cq
 have J:`eG<`os:=`aAV;have hn:=ie0 J h.left;have hl:=Bw.rd0 `eG J;have hm:=Zy0 hs (a:=a+`abG) `l h.right hc;apply `cp `bdU ?_ (`gd `aIG (`bU `bdV `ec))
 ·change `eu `bdU=_
  rw[`auu hw1];rfl
 ·apply `Jt
  exact hn
 ·change `eu `bdV=_
  rw[`auu hw2];rfl
 ·refine `Yu `dh (`ix `bdT)
  ·rw[`aG [F,`h `OZ,`sK]]
   exact hm
  ·show `dd (`OZ+`vb)
   rw[`S,`RK,`aZ (`OZ+`vb=(`ak (a+(`abG+`eG))))]
def PAB:GS:=v7 `aud
 (v7 `aue
 (v7 `auf
 u6))
structure Itm where
 w:Str
 d:D
 b:`ai
def Itm.ok(F:D)(t:Itm):Prop:=∀a:Nat,`bdS->Tel F a t.b->td0 `bdW=`c `aIH
theorem items_go(F:D)(b c k:Sl):∀(l:`auv) (a:Nat) (held:`i) (s6 s7:Sl),(∀t∈l,t.ok F)->`lt `auw->a+(`o `auw)<=10000000->`aux+`aC<`R ->
  ∃s6' s7',`ag2 [`bd,b,c,k,`cJ,`aLo,s6,s7]=`ac [`bd,b,c,k,`Ju (a+(`o `auw)),`bb (`b5++`aH Itm.d),s6',s7']
 | [],a,`b5,s6,s7,_,_,_,_=>#[s6,s7,`en w90]
 | t::l,a,`b5,s6,s7,ho,ht,hb,hl=>by
  rw[`cO] at ht hb ⊢;rw[`S] at hb ⊢;have h1:=ho t A8 a `l `aIM;let#[s6',s7',ih]:=items_go F b c k l (`aM4) (`b5++[t.d]) (`aiX) (`bdX) (λu hu=>ho u `adr) `auy `l (by simp only[`S,`ae,`rp] at hl ⊢;lia);refine#[s6',s7',?_];have body:`bdY=`ac [`bd,b,c,k,.sh (`aKH),`bb (`b5++[t.d]),`aiX,`bdX]:=by
   refine `gd `aEX (`l! (`Al `b5 t.d `bdZ));rw[`aG `bdW];exact h1
  rw[`J,w90];show (match `bdY with
   | `Yw=>`bd_
   | `bdC=>`bd_
   | `bdD=>`Yw
   | r=>r)=_
  rw[`dm];show `ag2 _=_;rw[ih,`be,`auz];rfl
def ap0{s1:Sl}:ob `aLq [`CZ,s1]=`c (`GP):=(`Jn)
def Mi0(xs:`i)(n:Nat)(hn:`Yy)(h0:`abU)(hx:`aB<=2):`ly `kJ `Bj=`c (`m (`d2 n xs)):=by
 have h1:`aB*n<=2*100:=`bd0 hx hn;have c:(100:Int)<`e_:=`a5
 have c2:(2:Nat)*100<=`s3:=`a5
 have q1:`f5<=`bm:=I00 n;have q2:`bd1:=a20 `l c;have q3:`aB*`auA<=`s3:=`k `cF (C3 h1 c2)
 apply `aM `ly;rw[`I #[h0,q1,q2,q3],`cF]
def kw:Nat->Str
 | 0=> `i5
 | 1=> `g!
 | 2=> `g1
 | _=> `hU
def wnt:Nat->Nat->`i
 | 0,n=>(`d2 n `bd2)
 | 1,n=>(`d2 n `bd3)
 | 2,n=>`Yz
 | _,n=>`bd4::`Yz
def Cl0(k n:Nat)(hk:k<=3)(hn:`Yy):v90 [`p (kw k),`fP]=`dN (wnt k n):=by
 apply `cq
 have m1:∀(w:Str) (δ0:Sl),o2 (yu0 (z8 (gc (`pI)) v5)) `Z `ly `bd5=`c (`m (`d2 n [`bH w])):=λw δ0=>by
  rw[`X (`m [`pI]) `fP `bd6];exact `bd7
 have m2:∀(δ0:Sl),o2 `aKB `Z `ly `bd5=`c (`m `Yz):=fun δ0=>by
  rw[`X (`m [`aKA,`vY]) `fP (Z30 rfl `h2)];exact `bd7
 have f:∀(x y:Str) (G:GS),x≠y->ifD `bd8 G u6 `YA=`ac `YA:=λx y G h=>by
  rw[`bd9];rfl
 have t:∀(x:Str) (G:GS),ifD `bd' G u6 `YA=G `YA:=λx G=>`bd!
 have hk4:k<4:=`U
 rcases k4 hk4 with rfl|rfl|rfl|rfl
 ·exact `eA (`YB (t `i5 _) `bd?)
 ·exact `eA (`Aw `g! `i5 (`YB (t `g! _) `bd?))
 ·exact `eA (`Aw `g1 `i5 (`Aw `g1 `g! (`YB (t `g1 _) (`kZ (m2 _)))))
 ·refine `eA (`Aw `hU `i5 (`Aw `hU `g! (`Aw `hU `g1 `ec)));rw[j4 (x:=`m [`aMw]) (y:=`m `Yz) `bd6 (m2 _)];apply `aM yf0;rw[`I `m3];rfl
open Bw (two)
def Pb0(l:`i)(lo:Nat)(h:lo<=`aC):`D! l `bea=`amf ((`aC - lo+1)/2) `beb:=by
 have e:`o9 `bea `g `LD `aC=(`pa,`qN,2):=by
  delta sliceBounds;have h2:¬(`pa<0):=`U
  have h3:(2:Int) > 0:=`a5
  simp only[Option.getD_some,`ap h2,`VJ];have:max `f5 (min `pa `qN)=`pa:=`U
  rw[`w]
 delta vu0;rw[e];delta sliceRange;simp only;rw[`qe,`amg];have c:(if `pa<`qN then (`qN - `pa+2 - 1)/2 else 0).toNat=(`aC - lo+1)/2:=by
  split<;>lia
 rw[c];have fe:((λx:Nat=>l[x]?) ∘ λk:Nat=>`auB)=`beb:=by
  funext k
  show l[`auB]?=_;rw[`aZ (`auB=lo+2*k)]
 rw[fe]
open Bw (two vf0 sg bs vn ib pb cnt kn its tx Gq Gs)
def Is0(xs:`i)(k:Int)(h:0<=k):cutD xs (`f_) `g=`p2 `eM:=by
 delta cutD sIx;simp only[];rw[`auC]
 by_cases q:`eM<=`aB
 ·apply `bec
 ·apply `bed
def yv1{g gk:GE}{δ:Ds}{xs:`i}{k:Nat}(h1:`aA=`My)(h2:`PX=`c `uP):sk0 g (`oh gk) uv0 δ=`dN (`p2 k):=by
 delta sk0 someO;rw[h1,h2];show slA `kJ `bee `g=_;apply `aM slA;rw[Is0 _ _ `l,`cF]
theorem Tw0:`nD (`amf `aC (λk=>l[k]?)=l)
 | []=>rfl
 | `iF=>by
  rw[`ae,`VL,`w3];apply `aM List.getElem?_cons_zero;rw[`amg];have:=Tw0 l;congr 1
theorem Fi0:`bef (2*k) `Jv
 | [],k=>`a_
 | `jD,0=>rfl
 | `jD,k+1=>by
  have:=Fi0 ps k;rw[`cO,`J,`Iu,← `w];rfl
theorem Fb0:`bef (1+2*k) `auD
 | [],k=>`a_
 | `jD,0=>rfl
 | `jD,k+1=>by
  have:=Fb0 ps k;rw[`cO,`J,`Iu,← `w,`aZ (1+2*`fZ=(1+2*k)+2)];rfl
def z11(ps:`_):`beg=`Jv:=by
 have h:=Pb0 `rN 0 `s2;rw[vf0,show (2*`V - 0+1)/2=(`o `Jv) by rw[`x];lia] at h;refine `Cy (`am4 ?_ (Tw0 (`Jv)));congr 1
 funext k
 rw[`b4];exact Fi0 ps k
def z51(ps:`_):`beh=`auD:=by
 cases ps with
 | nil=>rfl
 | cons q ps=>
  have h:=Pb0 ((`jD).flatMap two) 1 (`hg vf0 `ae);rw[vf0,show (2*(`o `jD) - 1+1)/2=(`o `bei) by rw[`x,`ae];lia] at h;refine `Cy (`am4 ?_ (Tw0 (`bei)));congr 1
  funext k
  exact Fb0 (`jD) k
theorem ek0:`l9 (((`Jv).zip (`auD)).map (`a3S)=`re)
 | []=>rfl
 | `jD=>by
  rw[`J,`J,`d!,`J,ek0 ps];rfl
def Ug0(ps:`_):u70 [`Qu]=`c (`tv):=by
 refine `iN;have e0:j40 `Q `aMy uv0 `tG `bej=`dN `beg:=rfl;have e1:j40 `Q `RV uv0 `tG `bej=`dN `beh:=rfl;refine(d9 (`qO e0 e1)).trans ?_;rw[z11,z51];show `auE=_;rw[ek0]
def held:`Xo
 | `iM=>`bek
 | `nO=>vs
 | `l4=>`fH
 | `ue=>`ag5
def Cp0(p:Pt)(h:`nR):wk0 `bel=`Jw:=by
 apply `cq
 have f:∀(x y:Str) (G:GS) (s:Sl),x≠y->ifD `bd8 G u6 `YC=`ac `YC:=λx y G s h=>by
  rw[`bd9];rfl
 have t:∀(x:Str) (G:GS) (s:Sl),ifD `bd' G u6 `YC=G `YC:=λx G s=>`bd!
 cases p with
 | text w=>
  refine `eA (`auF `i5 (`ix `pI));apply `aup `j `E!;have es:w=`wc:=`bdF
  have ll:`atk:=`k hl h
  change ot0 _ _ [`auG,`ow (`bek)]=_
  rw[Zr0 (x:=`op) (ds:=`bdG) rfl (`O (`bdE) rfl)];have e1:=`bdL;have J:`bdM:=`zb
  apply `aM dl0;rw[J,`s,fl0,join_ones,`I (by
   have:`bdN:=`aU
   rw[`w];lia),es]
 | row vs=>
  exact `um (`auH `g!) (`auF `g! (`O (d:=`t vs) rfl rfl))
 | table ps=>
  refine `um (`auH `g1) (p6 (f `g1 `g! _ _ `bf) (`auF `g1 `bem));rw[`aG [`Qu]];exact Ug0 ps
 | rcd c ps=>
  refine z70 rfl (p6 (`auH `hU) (p6 (f `hU `g! _ _ `bf) (p6 (f `hU `g1 _ _ `bf) (W5 (yi0 (w70 (`O rfl (`O (d:=`dC) (by
   show atI (`CT) 0=_;rw[q50 `l `S5 `y];rfl) `bem)) `I9))))))
  have e:sk0 `Z `RV uv0 `ben=`c (`Qu):=by
   have:=yv1 (g:=gv 1) (gk:=gc `Bd) (δ:=`ben) (k:=1) rfl rfl;exact `w
  refine(d9 (`O e rfl)).trans ?_;exact Ug0 ps
open Bw (two vf0 sg bs vn ib pb cnt kn dt0 its tx Gq Gs Vb small)
def i2(q:`gh):`auv:=[#[`oA,`r3,`beo],#[`mn,q.2,`bep]]
def itm:Pt->`auv
 | `iM=>`ta λc=>`beq
 | `nO=>`mG λv=>`auI
 | `l4=>`D9
 | `ue=>#[`O3,`dC,`ber]::`D9
theorem d20(x:`i):`nD ((`d2 `aC x)=`sw λ_=>x)
 | []=>rfl
 | `iF=>by rw[`ae,`ex,`jV,`cO,d20 x l]
theorem S30(f:α->β):`nD ((`sw λa=>[f a])=`aH f)
 | []=>rfl
 | `iF=>by rw[`cO,`J,S30 f l];rfl
theorem I90:`l9 (`aIK (`ajG)=`q4 λ_=>`ab')
 | []=>rfl
 | `jD=>by rw[`cO,`au,I90 ps,`cO];rfl
def Jg0:`l9 (`bes=`fH):=by
 intro z;induction z with
 | nil=>exact rfl
 | cons q ps ih=>rw[`cO,`au,ih,`cO];rfl
def Ir0:`l9 (`bet->`beu=`Qb `fH):=by
 intro z;induction z with
 | nil=>intro _;exact rfl
 | cons q ps ih=>
  intro h
  rw[`cO,`ui,ih `bev,`cO,`ui];congr 1;show (`beo)++(`bep++[])=ib (`r3)++(ib q.2++[]);rw[(h q A8).ib];rfl
def xt1(p:Pt):`aIL (`ajG)=`auJ:=by
 cases p with
 | text w=>
  show _=(`d2 `ur `bd2);rw[d20,S30];show `bew=_;rw[`M];rfl
 | row vs=>
  show _=(`d2 `c8 `bd3);rw[d20,S30];show `bex=_;rw[`M];rfl
 | table ps=>
  show _=`bey;rw[d20];exact I90 ps
 | rcd c ps=>
  show _=`bd4::`bey;rw[d20,← I90 ps];rfl
def Gw0(p:Pt):`bez=`b5 p:=by
 cases p with
 | text w=>
  show `bew=`beA;rw[`M,`M];rfl
 | row vs=>
  show `bex=vs;rw[`M];exact p9 _
 | table ps=>exact Jg0 ps
 | rcd c ps=>
  show `B4::`bes=`CT;rw[Jg0]
theorem Kv0:∀vs:`i,(∀v∈vs,`a3)->`Qv (`mG λv=>(`auI:Itm))=vs.flatMap ib
 | [],_=>rfl
 | v::vs,h=>by
  rw[`J,`cO,`cO,Kv0 vs `bev,(`ag!).ib]
theorem Gr0:∀l:`j,`Qv (`aH λ(c:Nat)=>(`beq:Itm))=`aH `a!s
 | []=>rfl
 | v::vs=>by
  rw[`J,`cO,Gr0 vs];rfl
def Nc0{ps:`_}(h:∀v∈`ky,`a3):∀q∈ps,Vb q.2:=(`auK h)
def xv1{p:Pt}(h:Gq p):`beB=tx p++`a!M:=by
 cases p with
 | text w=>
  show (`ta _).flatMap _=sg w++[];rw[`du];exact Gr0 _
 | row vs=>exact Kv0 vs `ld
 | table ps=>exact `beC
 | rcd c ps=>
  show (`ber)++`beu=([]:`ai)++`Qb `CT;rw[`beC,`c',`cO];rfl
def de0{s:Str}(h:`XO):∀c∈`e6,`Yx:=by
 delta isName at h;rw[`a?,`a?] at h;have h2:=h.1.2;delta hasAll at h2;rw[`gT] at h2;exact λc hc=>E2 (h2 c hc)
def z71{F:D}{p:Pt}(h:Gq p)(hs:Gs p):∀t∈`D',t.ok F:=by
 have nm:∀(s:Str) (w:Str),s∈`iO->`bdQ->`bdR->Itm.ok F #[w,`dh,`O5]:=λs w hm h1 h2 a ha ht=>Fu0 h1 h2 (h.names s hm) ha ht (de0 (hs.1 s hm))
 have vl:∀v:D,`a3->Itm.ok F `auI:=λv hv a ha ht=>H60 hv ht
 have J:`l9 (`bet->(∀q∈ps,q.1∈`iO)->∀t∈`D9,t.ok F):=λps h1 h2 t ht=>by
  let#[q,hq,ht]:=i5.mp ht;rcases `bF ht with rfl|ht
  ·exact nm _ _ (h2 q hq) `bf `bf
  ·rw[`eb ht]
   exact vl _ (h1 q hq)
 cases p with
 | text w=>
  intro t ht;let#[c,hc,rfl]:=`c2 ht;exact λa ha ht=>Ef0 ht (`K7 w rfl c hc)
 | row vs=>
  intro t ht;let#[v,hv,rfl]:=`c2 ht;exact vl v (`ld v hv)
 | table ps=>exact J ps (Nc0 `ld) `beD
 | rcd c ps=>
  intro t ht;rcases `bF ht with rfl|ht
  ·exact nm c _ (`DF `auL) `bf `bf
  ·exact J ps (Nc0 `ld) (`beD) t ht
def Eb0{p:Pt}(h:Gq p):`beE<=50:=by
 have h1:(`o `bez)=`beE:=r8 _;rw[← h1,Gw0];have hc:=`tE;cases p with
 | text w=>
  have hc:`ur<=20:=hc;show (`o `beA)<=50;rw[`x,`x];lia
 | row vs=>exact C3 hc `E
 | table ps=>
  apply `XK;show `Ad<=50;rw[vf0];lia
 | rcd c ps=>
  apply `XK;show `XL<=50;rw[`ae,vf0];lia
def Pr0{F:D}{a:Nat}{p:Pt}(h:Gq p)(hs:Gs p)(ht:`lt (pb p))(ha:a+`oZ<=10000000):tb0 `Rm=`Jw:=by
 apply `cq
 have hc:=`tE;have hk:=dt0 p;obtain⟨n,hn⟩:∃n,n=`wh:=`al;have ep:pb p=bs n++`beB:=by
  rw[xv1 h,hn];delta Bw.pb;rw[`be]
 rw[ep] at ht ha;rw[`S] at ha;have M:=`beF n `DH;let#[s6,s7,J]:=items_go F `YD (`Qx) (`ag6) (`D') (a+`Mk) [] .un .un (z71 h hs) `auy `l (`al_ (Eb0 h) (0+_));rw[`c',Gw0,xt1] at J;have hw:=Cl0 `rG `vU hk `l;have hm:=Cp0 p hc;refine `eA (`gd `aEn (`gd `Np (p6 (yr0 (d:=`Qy) rfl) (`YE `beG (v40 (items:=`auJ) ?_ J)))))
 ·apply `Jt
  exact M
 ·show unG _ _ `beH=_
  have e:o2 `x6 `oo xb0 `beH=`c (`asV):=by
   rw[`beI];show `dd (`bm%4);rw[`aZ (`bm%4=`aDI)]
  delta unG;rw[e,`s];cases p<;>rfl
 ·have e:oA `aMJ v90 `beG=`dN `auJ:=by
   rw[d9 (ds:=[`Np,`asT]) (`O rfl (`O (by
    rw[`beI];show `dd (`bm/4);rw[`aZ (`bm/4=`adj)]) rfl))]
   exact hw
  show vs0 _ _=_;delta vs0;rw[e];rfl
 ·show oA _ _ [`bd,`cJ,`Qx,`ag6,_,.sh (`aIJ),_,_]=_
  rw[`aG `bel];exact hm
omit Ia
namespace Qw
open DL W
open Bw (bg sts Fg0 Zx0 bs pb pg0 rd0 ix bun af0 X30 is0 Gw' Gs small xr0)
open Ia (Tel ie0 ih0 ds0)
section
variable{δ:Ds}
def u91(h1:`a?6):`agQ=`eN:=by
 delta wt0;rw[h1,`s,`a4]
def yj1{b:`aj}(h1:`X3)(h2:`a?7):`agQ=`ih:=by
 delta wt0;rw[h1,`s,`fm,h2]
omit z
def lp(p:Pt):D:=`N6
def ve1{p:Pt}(h:`Ik):`beJ=`M9+`oZ:=by
 delta Bw.bg;rw[← is0 pb h,`S];lia
def wl1(h:`uk)(j:Nat):`M9<=9000000:=by
 have:=af0 h;have:=X30 h j;delta Bw.bg;lia
noncomputable def PT:GB:=`bcp
def PB:GS:=v7 `bcq
 (v7 `bcr
 (v7 (z00 `cy `x5)
 u6))
def pt(F k:Sl)(N c a:Int)(l:`i)(s5 s6:Sl):PT [F,k,`Qz,.sh (`y2),`Ea,s5,s6]=`bs (`qN<N):=(xr0 (by
 rw[j4 (x:=`h `qN) (y:=`K?) (by
  delta tn0;rw[ad0 (ds:=l) rfl];rfl) rfl]
 rfl))
def Js0(F:D)(k:Sl)(N c:Int)(s6:Sl):∀(l:`aD) (pre:`aD) (a f:Nat) (s5:Sl),`aC<f->N=(`ak `beK)->`beK<=60->(∀p∈l,`a!O)->`lt (`sw `pF) ->
  ∃s5',xw0 PT PB f `beL=`ac [`bd,k,`Qz,`Ju (a+(`o (`sw `pF))),`bb ((pre++l).map lp),s5',s6]:=by
 apply `cq
 intro l
 induction l with
 | nil=>
  apply `beM;cases f with
  | zero=>apply `IT
  | succ f=>
   refine#[s5,?_];rw[ds0 (`Gd pt (by rw[`x,hN];simp)),`du];rfl
 | cons p l ih=>
  apply `beM;cases f with
  | zero=>apply `IT
  | succ f=>
   rw[`ae] at hf hN J;rw[`cO] at ht;have hn:=`beF `oZ (`DU (`cX `XX));let#[s5',e]:=ih (pre++[p]) (`aM6) f (.sh (`auM)) `l (by rw[hN,`S];show _=(`ak ((`dI+1)+`aC));lia) (`tD `S ((`dI+1)+_<=_)) `ati `auy;refine#[s5',?_];have body:PB `beL=`ac [`bd,k,`Qz,.sh (`aDR),`bb ((pre++[p]).map lp),.sh (`auM),s6]:=by
    refine `gd `auM (p6 (`Al (`vz lp) (lp p) `em) ?_)
    ·apply `Jt
     exact hn
    ·rw[`au]
     rfl
   rw[ih0 (by rw[pt,`bn (`hg `x hN)]) `dm,e,`cO,`S,`be,`auz];rfl
def SB':GS:=v7 `bcs
 (v7 `bct
 u6)
def L50(h:`uk)(F k cn zs s5:Sl):∃s3 s5',w90 `kG SB' `ag7 `beN=`ac [F,k,cn,s3,zs,s5',.ow `aaK]:=by
 apply `cq
 have hl:=`d7;let#[δ',l1,s5',rfl]:=u60 (f:=gN 5) (G:=SB') (λj δ=>∃s5',δ=[F,k,cn,.sh (`Qg),zs,s5',`bb (`Qf)]) `ag7 0 `beN (by
  rintro j d δ hj ⟨s5',rfl⟩;apply `uj;apply `auN;have J:=`XI;rw[`b4];refine#[_,[F,k,cn,`Ju `beJ,zs,`auO,`bb (`a?g)],rfl,?_,`auO,rfl];refine p6 (`Al `Qf `Qg (`d1 Zx0)) (`eB [F,k,cn,`fN (`abJ+`abE),zs,`auO,`bb (`a?h)] ?_);rw[← Fg0,ve1 hp,`aZ (`abJ+`abE=(`ak (`M9+`oZ)))];rfl) #[s5,rfl]
 rw[`b4,`x] at l1;exact#[_,_,l1]
def xb1{F:Sl}{k n c:Int}{s3 s4 s5 s6:Sl}:wt0 `bcn `bco `auP=`bs (k<0∨n<=k):=by
 have t1:ob `aK? `auP=`bs (k<0):=`Jn;have t2:ob `aLa `auP=`bs (n<=k):=xr0 (by
  rw[`X `fE `gz rfl];rfl)
 by_cases h:k<0
 ·rw[u91 (by rw[t1,`eU]),`bn `SK]
 ·rw[yj1 (by rw[t1,`fn]) t2]
  congr 1;exact `wd #[`u,λq=>q.resolve_left h]
section
variable{F:D}(h:`uk)(ht:`beO)
include h ht
def wd1:v00 [F,`b']=`c `aDS:=by
 have:=ie0 (F:=F) (a:=0) (n:=`V) `a!7 (Tel.left ht);apply `ay `b4;exact `w
def Mj0(k:Int)(h0:0<=k)(hk:k<`RW):pp0 [F,`fE]=`c `aaK:=by
 have hn:=wd1 h ht;have hl:=`d7;let#[s5,e1]:=Js0 F (`k_) `RW `ag9 .un ps [] `acC 100000 .un `l `az `rS (λp hp=>pg0 `as0) (by
  have q:=Tel.right ht;rw[`b4] at q;exact q)
 rw[`c',show `acC+(`o (`q4 `pF))=bg ps 0 by delta Bw.bg Bw.ix;rw[`S];simp] at e1;let#[s3,J,e2]:=L50 h (`bd) (`k_) (`acB) (`beP) s5;apply `cp `beQ (yr0 (i:=2) ?_) (`bU `beQ (`eB (`ag8 `beR .un) (`eB (`ag8 `beR `et) (p6 e1 (`eB [`bd,`k_,`acB,`aIN,`beP,s5,`et] (p6 (`gL (`c3 lp) e2) `YF))))))
 ·rw[`aG [F,`b']]
  exact hn
 ·rw[`jC xb1 `ds]
  rfl
omit z
omit Qw
namespace K22
open DL W
inductive Dfs (adj:`R?) (S:`j):Nat->`j->`j->`j->Prop
 | nil (o:`j):Dfs adj S 0 o [] o
 | skp {c:Nat} {o T r:`j} {x:Nat}:`beS->`Jx->`beT
 | visit {c:Nat} {o T r:`j} {x:Nat}:x∉o->x∉S->(`o (`m5++T))+`tH<=10000->Dfs adj S c `k? (`m5++T) r->`beT
def sub_len:`agF `j:=by
 intro z;induction z with
 | nil=>intro m _ _;exact `bP
 | cons a l ih=>
  intro m h hs
  apply `ar6;apply `beU;have:=ih (m:=`Sw) h2 λb hb=>by
   have:=`ar7;apply `ar8
   ·exact `ar9
   ·apply `IM
    ·exact `ar'
    ·exact `ar!
  apply `ar?;lia
def Ms0(adj:`R?)(S:`j)(n:Nat)(hn:n<=60)(ha:∀i,i<n->`Fr `Ax/\∀j∈`Ax,j<n):∀(M:Nat) (o T:`j),`fS+13*(n - `tH)<=M->M<=5000->o.Nodup->(∀x∈o,`beV)->(∀x∈T,x<n) ->
  ∃c r,`Jx/\c<=M/\`auQ/\(∀x∈r,`beV)/\`tH<=`a2:=by
 intro M
 induction M with
 | zero=>
  intro o T hM a4 ho J hT;have:T=[]:=`beW;subst this;exact#[0,o,`ah o,`fA,ho,J,`fA]
 | succ M ih=>
  intro o T hM a4 ho J hT;cases T with
  | nil=>exact#[0,o,`ah o,`bP,ho,J,`fA]
  | cons x T=>
   rw[`ae] at hM
   by_cases hx:`beS
   ·let#[c,r,h1,h2,h3]:=ih o T `l `l ho J `aLs
    exact#[c+1,r,.skp hx h1,`U,h3]
   ·skip;have Z:=`auR
    let#[hl,hj]:=ha x Z;have a2:x∉o:=λz=>hx `Iw
    have O:x∉S:=λz=>hx `Ix
    have a1:(`Br).Nodup:=`abk #[ho,`a_,λa ha b hb e=>by
     have:=`ar_;subst this;subst e;exact a2 ha]
    have Y:∀y∈`Br,y<n/\y∉S:=λy hy=>by
     apply `auS
     ·exact J y z
     ·have:=`DC z;subst this;exact#[Z,O]
    have a3:(`o `Br)<=n:=by
     have:=`us a1 (m:=`ww) λy hy=>`kr (Y y hy).1
     apply `iD r9
    rw[`S,`e3] at a3;let#[c,r,h1,h2,h3,h4,h5]:=ih `k? (`m5++T) `beX `l a1 Y (λy hy=>by
     apply `auS
     ·exact hj y z
     ·exact hT y `z')
    done;refine#[c+1,r,.visit a2 O `Ae h1,`U,h3,h4,?_];rw[`S] at h5;lia
def uo0:GS:=v7 (ifD `Xr
 (v7 `hJ
 u6)
 u6)
 (v7 `Xs
 u6)
def we0:`e:=`cj
def xi0:`r:=`Xt
def m00:GS:=v7 (ifD `hh
 (v7 `hJ
 u6)
 u6)
 (v7 (ifD `kS
 (v7 `z!
 u6)
 u6)
 (v7 `asb
 u6))
def nq0:`e:=`cj
def m_values:`r:=`asc
def s70:GS:=v7 (ifD `hh
 (v7 `asd
 u6)
 u6)
 (v7 (ifD `kS
 (v7 `IO
 u6)
 u6)
 (v7 `ase
 (v7 (ifD `asf
 (v7 `asg
 u6)
 u6)
 (v7 `ash
 u6))))
def sd0:`e:=`asi
def ua0:`r:=`asj
def dw0:GS:=v7 `bb5
 u6
def d40:`e:=`cj
def ut0:`r:=`bb6
def lm0:GS:=v7 `bca
 (v7 `bcb
 u6)
def lf0:`e:=`bcc
def ow0:`r:=`bcd
def nd(l:`j):`i:=`aH λ(i:Nat)=>`de `hX
def tgs(vs:`i):`j:=vs.filterMap λv=>match v with|`Ac=>`c `kW|_=>`g
def it0(a b:`j):nd `OX=nd a++nd b:=by delta nd;rw[`au]
def z91(a:`j):(`jk (nd a))=nd a.reverse:=by delta nd;rw[`ug]
def qo0(a:`j):(`o (nd a))=`DG:=by simp[nd]
def Id0(o:`j):((nd o).all λd=>`cV d)=`d:=by
 delta nd;rw[`zF,`gT];exact `qy
def As0:∀{vs:`i},(∀v∈vs,`beY)->∀j∈`qP,j<n:=by
 intro vs h j hj;skip;let#[v,hv,e]:=d6.mp hj;rcases h v hv with rfl|⟨z,rfl⟩|⟨i,rfl,hi⟩
 ·cases e
 ·cases e
 ·simp only[`cF,`a4Q] at e
  done;lia
def jl0(p:Pt)(h:`z?):`a'y:=(Pn.jl0 p h)
def Hf0(p:Pt)(h:`z?)(vs:`i):`a'F=`c (`auT).d:=(Pn.Db0 p h vs)
def Lv(n:Nat)(v:D):Prop:=`beY
structure Pw(n:Nat)(p:Pt):Prop where
 few:`asY
 lv:∀v∈`dE,`QA
def Pw.f{p:Pt}(h:`Jy):`z?:=by
 have z:`mf 12:=`a5
 exact C3 h.few z
def Ch0(vs:`i):(`o `qP)<=`c8:=(List.length_filterMap_le _ _)
def Sj0(j:Nat)(vs:`i):tgs (`rd::vs)=j::`qP:=by delta tgs;rw[`w3];apply `lu
def Xp0:∀vs:`i,`beZ->`be_=`c (nd (`qP)):=by
 intro z;induction z with
 | nil=>intro _;exact rfl
 | cons v vs iq=>
  intro h
  have ih:=`be0
  delta wl0;skip;apply `be1
  ·done;exact ih
  ·done;exact ih
  ·done;show `XN (o2 `Q `dz ixD [`kX]) `be_
   rw[ih,Sj0];rfl
def Uh0{p:Pt}(h:`Jy):ut0 `hS=`dN (nd (`Jz)):=(
 w50 rfl (xn0 (v50 (w00 (items:=`dE) (by
  show `be2 `XF;rw[`l',jl0 p h.f];rfl) h.f (Xp0 `dE h.lv)))))
def lkv(f:`bu):`hF
 | `Ac=>`t [`ri,`kN (f `kW)]
 | v=>v
def rel(f:`bu)(p:Pt):Pt:=`DL p (`YG)
open B
def i60{vs:`i}(h:`cb `aAq∈vs):j∈`qP:=(d6.mpr #[_,h,by apply `lu])
def R80{p:Pt}(h:`Jy)(f:`bu)(D':D)(hd:∀j∈`Jz,xg0 D' `oa=`c (`ahi)):ow0 [p.d,D']=`c (`Ay).d:=by
 refine z70 rfl (p6 (δ':=[`ek,`YH,`ow (`YG)]) (yr0 (w00 (items:=`dE) (by
  show `be2 [`ek,`YH,.un];rw[`l',jl0 p h.f];rfl) h.f ?_)) (`kZ (`k (`aG [p.d,`m (`YG)]) (Hf0 p h.f _))))
 refine u10 `v! λv hv=>(`rg [.sh v,`YH] ?_)
 skip;apply `auU
 ·done;rfl
 ·done;rfl
 ·done;delta ifG
  rw[`bz (ob `BK [`kX,`YH]=`eN)];show ye0 _ _=_;exact w70 (`O rfl (`O (d:=`ahi) (by
   rw[`xO D'];exact hd j (i60 hv)) rfl)) `Il
def b60(p:Pt)(vs:`i)(h:`c8=`k!):(`auT).vals=vs:=by
 cases p with
 | text w=>exact(Bj1 h).symm
 | row us=>rfl
 | table ps=>
  show `be3;refine Bk1 ?_;have h':`ajx:=h;simp only[`x] at h' ⊢;lia
 | rcd c ps=>
  show `be3;refine Bk1 ?_;have h':`ajx:=h;simp only[`x] at h' ⊢;lia
def kd(l:`j):`a1:=`aH `aVZ
def td(l:`j):`i:=`aH `auV
def Nz0(a b:`j):kd `OX=kd a++kd b:=by delta kd;rw[`au]
def ai0(o:`j)(x:Nat):`auW=`an (`xM):=by
 delta xo0 kd;rw[List.any_map];rw[`ny,`Xn,`VK];constructor
 ·rintro⟨y,hy,e⟩
  have e:=E2 e;apply `Af
  have:y=x:=`ch
  subst this;exact hy
 ·intro h;exact#[x,h,`E4]
noncomputable def MT:GB:=`bb7
def MBg(gw:GE):GS:=v7 `bb8
 (v7 (ifD `bb9
 (v7 `bb'
 (v7 `bb!
 (v7 (R9 `be4)
 u6)))
 u6)
 u6)
def ms(W:D)(k l:Sl)(U o T:`j)(s:Sl):Ds:=[`d5,k,l,`aha,`sn `QC (nd U++td o),`wI,s]
section
variable{W:D}{k l:Sl}{U:`j}
def O70(s:Sl)(o T:`j):MT `auX=`be5:=by
 have e:tn0 `aMF `auX=`c (`QB):=by
  show `be6;rw[qo0,`es]
 delta MT ob;rw[`be7];show `be8;congr 1;rw[`be9];omega
def y91(s:Sl)(o T:`j)(x:Nat):v10 (pv0 5) `wm `ag?=`ac (`JA):=by
 have e1:owL 5 `ag?=`be':=rfl;apply `be!
 delta v10 pv0;rw[e1,`s,e2,`auY,`JB];rfl
def Gs0(o T:`j)(x:Nat):jo0 `aK7 (`JA)=`bs (x∉U++o):=by
 show `c (xor `d (`be?))=_;rw[ai0,`ng];congr 1
 by_cases h:x∈U++o
 ·rw[`eU,`bfa];rfl
 ·rw[`fn,`eU];rfl
def Kz0{gw:GE}{P:`auZ}{S:`j}(hS:∀y,y∈U↔y∈S)(hU:U.length<=1000)(hA:∀x,P x->∃d,(∀s1 s2 s3 s4 s5:Sl,gw [`d5,s1,s2,s3,s4,s5,`kh]=`aQ)/\ut0 [d]=`c (`au_)/\`Fr `m5/\∀j∈`m5,P j):`au0 (`Jx->(∀x∈T,P x)->`bfb (xw0 MT (MBg gw) m `auX=`ac (ms W k l U r [] s'))):=by
 intro c o T r h
 induction h with
 | nil o=>
  intro _ _ m s hm;cases m with
  | zero=>lia
  | succ m=>
   refine`a!f;delta xw0;rw[O70];rfl
 | @skp c o T r x hx hd ih=>
  apply `YI;cases m with
  | zero=>lia
  | succ m=>
   rw[`ae] at hl;apply `bfc;refine`XJ;have J:x∈U++o:=`DF (hx.symm.imp (hS x).mpr id);have eb:`bfd=`ac (`JA):=
    `bfe y91 `JA (`jC Gs0 (`bZ (λz=>z J)))
   delta xw0;rw[O70,`ajw];dsimp only;rw[eb];exact e
 | @visit c o T r x hx hxS hz hd ih=>
  apply `YI;skip;cases m with
  | zero=>done;lia
  | succ m=>
   have Y:=`auR;let#[d,O,M,a1,Z]:=hA x Y;have zs:`bff:=`a5
   rw[`S] at hz;let#[s',e]:=ih (λy hy=>by
    rcases `ado with q|q
    ·exact Z y q
    ·exact `bfg) `beX m `oB `l
   done;refine`XJ;have J:x∉U++o:=λz=>`a9g (λq=>hxS ((hS x).mp q)) hx
   have p1:v10 `aaJ `aK8 (`JA)=`ac `bfh:=by
    have hk:`be?=`q:=`Gd ai0 J
    have e1:`bfi=`aM8:=by
     delta xt0;rw[hk,`cB,← `be,Nz0 (U++o)];rfl
    have e2:`bfj=`aM9:=by
     delta xy0;rw[hk,`cB];delta td;rw[`au,`be];rfl
    delta v10 xk0;show (`bfk (U++o) ([`d5,k,l,`aha,`vc (`yi (`bfi) `bfj),`wI,`kh]))=_;rw[`I (by delta kd;rw[`x,`S];lia),e1,e2];rfl
   have p2:R9 `aIA `bfh=`ac `au1:=by
    rw[`Al (nd o) `B_ `bfl,it0];rfl
   have p3:R9 `be4 `au1=`ac (`au2):=by
    have ev:oA `aM7 oi0 `au1=`dN `bfm:=by
     rw[d9 (ds:=[`au_]) (`O (d:=`au_) (by
      rw[d9 (ds:=[d]) (`O (d:=d) (O _ _ _ _ _) rfl)];exact M) rfl)]
     show `IU (`jk (nd (`m5)));rw[z91]
    delta R9 v60;rw[ev];show `qQ (`D (`aiZ+(`o `bfm)<=`R) _ _);rw[`I (by rw[qo0,qo0,`es,`es];lia),← it0,← `YJ];rfl
   have eb:`bfd=`ac (`au2):=
    p6 (y91 s o T x) (p6 (δ':=`au2) (by
     rw[`ma Gs0 (`bn J)];exact p6 p1 (`un p2 p3)) rfl)
   delta xw0;rw[O70,`ajw];dsimp only;rw[eb];exact e
omit z
def Wk0{S:`j}:`au0 (`Jx->(∀i∈o,∀j∈`Ax,j∈o∨j∈S∨j∈T)->(`bfn)/\∀i∈r,∀j∈`Ax,j∈r∨j∈S):=by
 intro c o T r h
 induction h with
 | nil o=>
  intro H;refine#[`bfo,`bfp];apply `au3
  ·exact `jn
  ·exact `u q
  ·cases q
 | @skp c o T r x hx hd ih=>
  intro H;refine ih `bfp
  apply `au3
  ·exact `jn
  ·exact `bfq
  ·apply `IM
   ·exact hx.imp id `n
   ·apply `fs q
 | @visit c o T r x hx hxS hz hd ih=>
  intro H;let#[#[s,e],h2]:=ih λi hi j hj=>by
   rcases `c7 hi with hi|hi
   ·apply `au3
    ·exact `n (D1 _ q)
    ·exact `bfq
    ·apply `IM
     ·exact `n `az
     ·apply `fs (D4 _ q)
   ·rw[`eb hi] at hj
    apply `fs (D1 _ hj)
  exact#[`bfr,h2]
omit K22
namespace Km
open DL W K22
def tg0:GS:=v7 `asn
 (v7 `aso
 (v7 (xw0 `Xu
 (v7 `Xv
 (v7 `Xw
 u6)) 100000)
 (v7 `asp
 u6)))
def ti0:`e:=`asq
def yc0:`r:=`asr
def n90:GS:=v7 (ifD `ass
 (v7 `ast
 u6)
 u6)
 (v7 `asu
 u6)
def nz0:`e:=`e!
def tp0:`r:=`asv
def g80:GS:=v7 `baU
 u6
def n80:`e:=`lw
def ui0:`r:=`baV
def ss0:GS:=v7 `asw
 u6
def sz0:`e:=`wR
def wf0:`r:=`asx
def ou0:GS:=v7 (ifD `baZ
 (v7 `ba_
 u6)
 u6)
 (v7 `ba0
 u6)
def oh0:`e:=`I?
def su0:`r:=`ba1
def sb0:GS:=v7 `asy
 u6
def sa0:`e:=`cj
def v70:`r:=`asz
def sv0:GS:=v7 (ifD `hh
 (v7 `asA
 u6)
 u6)
 (v7 `hJ
 u6)
def rc0:`e:=`cj
def vh0:`r:=`asB
def ob0:GS:=v7 (ifD `Xy
 (v7 `Aa
 u6)
 u6)
 (v7 (ifD `tc
 (v7 `baW
 u6)
 u6)
 (v7 `baX
 u6))
def ov0:`e:=`lw
def uq0:`r:=`baY
def o70:GS:=v7 (ifD `atT
 (v7 `ba2
 u6)
 u6)
 (v7 (ifD `ba3
 (v7 `ba4
 (v7 `ba5
 u6))
 u6)
 (v7 `ba6
 u6))
def oj0:`e:=`ba7
def um0:`r:=`ba8
def rh0:GS:=v7 (ifD `hh
 (v7 `hJ
 u6)
 u6)
 (v7 (ifD `kS
 (v7 `z!
 u6)
 u6)
 (v7 `qH
 (v7 (ifD `asC
 (v7 `asD
 u6)
 u6)
 (v7 (vc0 `rW `bp
 (v7 `Xx
 u6))
 (v7 `uf
 u6)))))
def rf0:`e:=`asE
def wy0:`r:=`asF
def by0:GS:=v7 `qH
 (v7 `atU
 (v7 `Ag
 (v7 `ba9
 (v7 (xw0 `Ja
 (v7 `Jb
 (v7 `atV
 (v7 (ifD `atW
 (v7 `atX
 u6)
 (v7 (ifD `atY
 (v7 `atZ
 (v7 `at_
 u6))
 u6)
 u6))
 u6))) 100000)
 (v7 `uf
 u6)))))
def ao0:`e:=`ba'
def kd0:`r:=`ba!
open Bw (bs sg cnt kn its tx fold Vb Gp Gq)
def pd(ks:`a1):D:=`dy `K8 `au4
def ix{α:Type}[`JC]:`aV->α->Nat
 | [],_=>0
 | b::l,a=>`D (b=a) 0 (`YK+1)
def p50[`JC]:∀{l:`aV} {a:α},a∈l->`YK<`aC:=by
 intro z;induction z with
 | nil=>intro _ h;cases h
 | cons b l ih=>
  intro a h
  delta ix;rw[`ae]
  by_cases e:b=a
  ·rw[`cf];lia
  ·have:=ih (a:=a) `au5
   rw[`bW];lia
def d30[`JC]:∀{l:`aV} {a:α},a∈l->l[`YK]?=`kD:=by
 intro z;induction z with
 | nil=>intro _ h;cases h
 | cons b l ih=>
  intro a h
  delta ix
  by_cases e:b=a
  ·rw[`cf,e];rfl
  ·rw[`bW,`Iu]
   exact ih `au5
def Vu0:∀(ks:`a1) (s:Nat) (k:Q3),`s9->`bfs s=`c (`oJ (s+`YL)):=by
 intro z;induction z with
 | nil=>intro s k h;cases h
 | cons a ks ih=>
  intro s k h
  rw[`ae,`xK];show (if a=k then `c (`de (s:Int)) else `bfs (s+1))=_;delta ix
  by_cases e:a=k
  ·rw[`cf,`cf]
   rfl
  ·have hk:`s9:=`aDV
   rw[`bW,`bW,ih (s+1) k hk,`aZ (s+1+`YL=s+(`YL+1))]
def eg0{k:Q3}(h:`s9):yz0 ks `au4 k=`Ia `YL:=by
 rw[`au6,Vu0 ks 0 k h,`b4]
def vl0(ks:`a1)(k:Q3):`a?r:=by
 delta xo0;rw[`Xn];constructor
 ·rintro⟨x,hx,e⟩
  rw[← `aqF e];exact hx
 ·intro h
  exact`a?s
def Vm0{k:Q3}(h:`I5):`a?H:=by
 cases e:`o3 with
 | false=>rfl
 | true=>exact `K ((vl0 ks k).mp e) h
def Zf0{k:Q3}(h:`I5):(`yi `Wx (xy0 ks `au4 k (`kN `dY)):D)=pd (`agT):=by
 delta xt0 xy0 pd;rw[Vm0 h,`cB,`cB,`S,`e3,`as1,it0];rfl
def idx_map[`JC][`uZ β](f:α->β)(a:α):`nD ((∀b∈l,f b=f a->b=a)->ix (`aH f) (f a)=`YK):=by
 intro z;induction z with
 | nil=>intro _;exact rfl
 | cons b l ih=>
  intro h
  rw[`J];delta ix
  by_cases e:b=a
  ·rw[`cf,`I4]
  ·rw[`bW,`z8 (e (h b A8 z)),ih λc hc=>h c (A7 _ hc)]
def kb(B:`j):`a1:=B.map `bft
def kt(T:`e):`a1:=`DO `bfu
def kb_mem(B:`j)(j:Nat):`au7∈kb B↔`fY:=by
 delta kb;rw[`bfv];constructor
 ·rintro⟨k,hk,e⟩
  have:`cS=`bN:=`YM
  have:k=j:=`ch
  rw[← `w];exact hk
 ·exact λh=>#[j,h,rfl]
def k60(T:`e)(s:Str):`ahb∈kt T↔`kV:=by
 delta kt;rw[`bfv];constructor
 ·rintro⟨k,hk,e⟩
  have:k=s:=`YM
  rw[← `w];exact hk
 ·exact λh=>#[s,h,rfl]
def S80(B:`j)(j:Nat):ix `uT `au7=`v?:=(idx_map (`bft) j B λb _ e=>by
 have:`iY=`bN:=`YM
 lia)
def zh1(T:`e)(s:Str):ix `vh `ahb=`N8:=(idx_map (`bfu) s T λb _ e=>`YM)
def eu0(B:`j):`QF=`cl:=by delta kb;rw[`x]
def kt_len(T:`e):`E?=`fS:=by delta kt;rw[`x]
structure Wb(ps:`aD):Prop where
 len:`bfw
 it:∀p∈ps,Gq p
 lk:∀p∈ps,∀v∈`dE,`CB `V v
def It(n:Nat)(d:D):Prop:=`a!C∨`xU∨(∃z:Int,d=`fG/\`asM)∨∃j:Nat,d=`rd/\j<n
def It.of{v:D}(h:`a3)(hl:`Q_):It n v:=by
 cases h with
 | non=>exact `bfx
 | lk j _=>apply `fs (`u #[j,rfl,hl j rfl])
 | int z hz=>apply `fs (`n #[z,rfl,hz])
def hb(ps:`aD)(B:`j)(T:`e):D->`ai
 | `dh=>`YN
 | `Ac=>if `au8 then bs (4*(`aM! - ix B `kW)+2) else bs (4*(4*cnt `YO+kn `YO)+3)++tx `YO
 | `fG=>bs (4*`uR+1)
 | _=>bs 0
def p00(n:Nat)(h:`Ab):`a!g:=(Bw.p00 n h)
def Zi0(s:Str)(h:`asP):`a!t:=(Bw.Zi0 s h)
def kv0{p:Pt}(h:`nR):`a!R:=(Bw.kv0 h)
def Vo0{p:Pt}(h:`nR):`a!S:=(Bw.Vo0 h)
def Vp0{p:Pt}(h:Gp p):`a!V:=(Bw.Vp0 h)
def ji0(z:Int):`a!j:=(Bw.ji0 z)
def M40(ks:`a1):so0 [pd ks]=`Ia `dY:=(rfl)
def Cf0(T:`e)(s:Str):xu0 `q `g8 `M?=`c (`ig `kV):=by
 show `Ak `q `bfy;rw[`pv]
 by_cases h:`kV
 ·rw[`bfz,`eU]
 ·rw[`bfA,`fn]
def Hr0(B:`j)(j:Nat):xu0 `d `oa `MU=`bfB:=by
 show `Ak `d (xo0 `uT `JD)
 by_cases h:`fY
 ·rw[`aIP `bfC,`au9];rfl
 ·rw[Vm0 (λz=>h `bfD),`eU];rfl
def Hg0{T:`e}{s:Str}(h:`kV):xg0 `M? `g8=`c (`h `au'):=by
 show `bfE=_;rw[`bfF,zh1]
def Kw0{B:`j}(h:`fY):xg0 `MU `oa=`c (`h `YP):=by
 show yz0 `uT `bfG `JD=_;rw[eg0 `bfC,S80]
def Zy0(T:`e)(hT:`YQ)(s:Str)(hs:`nl)(ps:`aD)(B:`j):su0 `bfH=`xE `au!:=by
 apply `asK
 have ht:ob `aK2 `YR=`bs `kV:=by
  delta ob;rw[`X `dh `vR rfl,Cf0];rfl
 show _=`c (`vH (`o? `YN))
 by_cases h:`kV
 ·rw[`eU] at ht
  rw[`bM];have J:=p50 h;refine `IV;show `eu `YR=_;rw[wr0 ht];refine `KM;rw[d9 (ds:=[`h (`ak `aEs)]) (`O (by
   rw[j4 (x:=`gj) (y:=`h (`Ml - 1 - `au')) rfl (by
    rw[j4 (x:=`h (`Ml - 1)) (y:=`h `au') (by
     rw[`X `QB `dl (by rw[`aG [`vR],M40,kt_len])];rfl) (by rw[`X `vR `dh rfl,Hg0 h])]
    rfl),`hy]
   congr 2;lia) rfl)]
  exact `YS
 ·rw[`fn] at ht
  rw[`bV];refine w50 rfl (p6 (δ':=`YR) (by
   show `eu `YR=_;rw[yd0 ht];rfl) `lC)
  have h1:=Bw.rd0 `MT `oU;have h2:=`RK s;rw[j4 (x:=`De (bs `MT)) (y:=`agJ) (by
   rw[d9 (ds:=[`oJ (2*`eG+1)]) (`O (by
    rw[j4 (x:=`h (2*`vb)) (y:=`dl) (by
     rw[`iv `gj `sK (Bw.el0 rfl `l)];exact `hy) rfl]
    apply `YT;congr 2) rfl)]
   exact `YS) (`k `a!J `a!K)]
  exact `bfI
def Tq0(B:`j)(j:Nat):ui0 `O6=`bfB:=by
 refine `iN;delta js0;rw[`bz (ob `BK (xa0 n80 `O6)=`eN),`s,`a4];rw[`X `gn `kK rfl];exact Hr0 B j
def dq0{d:D}(h:`Ls d=`q)(B:`j):ui0 [d,`kK]=`ql:=by
 refine `iN;delta js0;rw[`bz (ob `BK (xa0 n80 [d,`kK])=`c (`Ls d)),h];rfl
def Iv0(X:D):uq0 [`y,X]=`c (`Fw):=`eY
def G60(z:Int)(X:D):uq0 [`fG,X]=`c (`oJ (4*`uR+1)):=by
 apply `cp `bfJ `JE (p6 (δ':=`bfJ) `JE `ec);rw[j4 (x:=`h (4*`kA)) (y:=`dl) (by
  rw[`iv `od `E3 (by rw[`a!r,ji0])];exact `hy) rfl]
 apply `YT;congr 2
def Lx0{B:`j}(h:`fY):uq0 `O6=`c (`bfK):=by
 have J:=p50 h;apply `cp [`kX,`aCm] `JE `g2;rw[`au?];apply `l7;rw[j4 (x:=`h (4*(`Fb - 1 - `YP))) (y:=`gj) (by
  rw[j4 (x:=`od) (y:=`h (`Fb - 1 - `YP)) rfl (by
   rw[j4 (x:=`h (`Fb - 1)) (y:=`h `YP) (by
    rw[`X (`h `Fb) `dl (by rw[`aG [`kK],M40,eu0])];rfl) (by rw[`xO `kK,Kw0 h])]
   rfl)]
  exact `hy) rfl]
 apply `YT;congr 2;omega
def ur0(hj:`oV):ixD `Lp `oa=`c (`mp).d/\`mp∈ps:=by
 constructor
 ·show atI `mj `bN=_
  rw[`X7,`cF];simp[`cU,hj]
 ·rw[`cU,`fW hj]
  exact D6 hj
def Ne0(l:`ai):`mB (`aH `de)=`d:=by
 delta flats;rw[`zF,`gT];exact `qy
def Rv0(hw:`cD){B:`j}{T:`e}(hB:`JF)(hT:`YQ){d:D}(hd:`pd):um0 `bfL=`xE `sz/\(`o `sz)<=2700:=by
 skip;apply `asK
 have one:∀n:Nat,`Ab->`a!c:=Bw.rd0;rcases hd with⟨s,rfl,hs⟩|rfl|⟨x,rfl,hx⟩|⟨j,rfl,hj⟩
 ·done;refine#[`IV,?_]
  ·rw[`au?]
   refine `KM;rw[`aG `bfH];exact Zy0 T hT s hs ps B
  ·show (`o `YN)<=2700
   split
   ·have:=one `aB9 `oU;lia
   ·have:=one `MT `oU
    have:=`RK s;rw[`S];lia
 ·done;refine#[`gc `ava `JE (`bU `ava `lC),?_]
  ·show `eu `ava=_
   rw[yd0 (`fR `bfM)];rfl
  ·rw[`cC [`Fw] (by apply `aLt;exact Iv0 _)]
   exact p00 0 `oU
  ·exact C3 (one 0 `oU) `l
 ·have hf:4*`Nh+1<`os:=by
   have:=Bw.fold_lt x hx;have e:8*`XC<`os:=`aU
   generalize `asO=w at e;lia
  done;refine#[`gc `avb `JE (`bU `avb `lC),?_]
  ·show `eu `avb=_
   rw[yd0 (`fR `bfN)];rfl
  ·rw[`cC [`oJ (4*`Nh+1)] (by apply `aLv;exact G60 x _)]
   exact p00 _ hf
  ·exact C3 (one _ hf) `l
 ·have J:∀G:GS,ifD `atT G u6 `YU=`ac `YU:=λG=>`aBf
  have ht:ob (oA `E8 ui0) `YU=`bfO:=`fR `bfP;have M:`aEB=`bfQ:=by
   delta hb;apply `lu
  done;rw[M];let#[w1,w2]:=ur0 hj;have hq:=`JG
  by_cases h:`fY
  ·rw[`au9] at ht
   rw[`bM];refine#[`uh (p6 (J _) (`bU `YU `lC)),?_]
   ·rw[yd0 ht];rfl
   ·rw[`cC [`bfK] (`k `aLw (Lx0 h))]
    exact `YS
   ·exact C3 (one _ `oU) `l
  ·rw[`eU] at ht
   rw[`bV];apply `bfR;have hc:=hq.cnt;have O:=Bw.dt0 p;have h1:=one (4*(`wh)+3) `oU;have h2:=Bw.Sd0 hq.gp;refine#[`uh (p6 (J _) `abl),`aAO];rw[wr0 ht];refine `gd p.d `lC
   ·rw[`bfS]
    exact w1
   ·rw[j4 (x:=`De (bs (4*(`wh)+3))) (y:=`agL) (by
     rw[d9 (ds:=[`oJ (4*(`wh)+3)]) (`O (by
      rw[j4 (x:=`h (4*`aCA)) (y:=`h 3) (by
       rw[`iv `od `agK (`k `l' (kv0 hc))];exact `hy) rfl]
      apply `YT;congr 2) rfl)]
     exact `YS) (`k `l' (Vo0 hc))]
    exact `bfI
def nB(B:`j):D->`j
 | `Ac=>`D `au8 B (B++[`kW])
 | _=>B
def nT(T:`e):D->`e
 | `dh=>`avc
 | _=>T
def nW(ps:`aD)(B:`j)(W:`i):D->`i
 | `Ac=>`D `au8 W (its `YO++W)
 | _=>W
def pk(ps:`aD):Nat->`j->`e->`i->`ai
 | 0,_,_,_=>[]
 | _+1,_,_,[]=>[]
 | f+1,B,T,d::W=>`sz++pk ps f (`Az) (nT T d) (`JH)
def st(ps:`aD)(o:`ai)(B:`j)(T:`e)(W:`i)(s:Sl):Ds:=[`wg,`agI,`YV,`adq,`bb `ahd,s]
noncomputable def PT:GB:=`Ja
def PB:GS:=v7 `Jb
 (v7 `atV
 (v7 (ifD `atW
 (v7 `atX
 u6)
 (v7 (ifD `atY
 (v7 `atZ
 (v7 `at_
 u6))
 u6)
 u6))
 u6))
def Pi0(ps:`aD)(o:`ai)(B:`j)(T:`e)(W:`i)(s:Sl):PT `bfT=`bs (0<`jp):=by
 show `bs (`f5<(W.reverse.length:Int))=_;rw[`es];congr 1
 by_cases h:0<`jp
 ·rw[`eU,`qJ]
 ·rw[`fn,`ds]
def Ar0{T:`e}{s:Str}(hT:`YQ)(a b c e:Sl):R9 `aKh `avd=`ac (`ave (kt `QW)):=by
 have zs:`KS:=`a5
 have e1:bc0 3 `cw `aKy `avd=`zY (`E?<`R) (if `bfy=`d then (`bfE).map λr=>(r,(`avd:Ds)) else `c (`bfU,[a,b,c,`sn (xt0 `vh `QD) (xy0 `vh (nd (`bc `E?)) `QD (`bfU)),e,`wa])):=rfl
 delta R9;rw[e1,`I (`d1 kt_len)];show `Bp _ _=`c (`JI (`ave (kt (`avc))))
 by_cases h:`kV
 ·rw[`I (`bfz),`bfF,`bM]
  rfl
 ·rw[`bfA,`cB,Zf0 `aIR,`bV]
  show `c (`JI (`ave (kt T++[`Mm])))=_;delta kt;rw[`au];rfl
def An0{B:`j}(hB:`JF)(hj:`FS)(a b c e:Sl):v10 `aKj `aKk [a,b,`YV,c,e,`kX]=`ac [a,b,`Fd `wV,c,e,`kX]:=by
 have zs:`KS:=`a5
 show `bfV [a,b,`bfW `JD `JD,c,e,`kX];rw[`bfX,Zf0 (λz=>hj `bfD)];delta kb;rw[`au];rfl
def Yu0(hw:`cD){o:`ai}{B:`j}{T:`e}{W:`i}{d:D}(s:Sl)(hB:`JF)(hT:`YQ)(hd:`pd)(ho:`tH<=12000000)(hW:`jp<=10000):
  PB `bfY=`ac (st ps `avf (`Az) (nT T d) (`JH) `v6):=by
 have zs:`mf 16000000:=`a5
 let#[i1,i2]:=Rv0 hw hB hT hd;have p1:v10 `abn `kG `bfY=`ac `bfZ:=by
  delta st v10 pv0;rw[`eP];show `ut (`Bp (λd'=>(d',([`wg,`agI,`YV,`adq,`bb (`bf_).dropLast,s]:Ds))) (`bf_).getLast?);rw[`auY,`JB];rfl
 have p2:R9 `aKg `bfZ=`ac (`w_ `avf `v6):=
  Bw.ay0 (l:=o) (e:=`sz) rfl (Q10 (`k (`aG `bfL) i1) (Ne0 _)) `l
 refine p6 p1 (p6 p2 ?_);skip;apply `bf0
 ·done;refine `bU (st ps (o++`wb `mE) B (nT T `mE) W (`CZ)) rfl
  rw[`au?];exact `l! (Ar0 hT _ _ _ _)
 ·done;apply `bf1
  rw[`DW];apply `bf1;rw[yd0 (`avg `bfM)];rfl
 ·done;apply `bf2
  rw[`DW];apply `bf2;rw[yd0 (`avg `bfN)];rfl
 ·let#[w1,w2]:=ur0 hj
  have ht:ob `aKi (`aIW)=`bfO:=
   `avg `bfP
  apply `bf3
  apply `bf4
  have e3:nT T `mm=T:=rfl;done;rw[e1,e2,e3]
  by_cases h:`fY
  ·rw[`bM,`bM]
   rw[`au9] at ht;refine `bf5;rw[`DW];refine `bf5;rw[yd0 ht];rfl
  ·rw[`bV,`bV]
   rw[`eU] at ht;have hq:=`JG;apply `bfR;have J:=hq.gp.len;have p4:R9 `aKl (`aEZ W)=`ac (`aIX):=by
    refine(Bw.Pv0 (l:=`ahd) (e:=(`jk `fU)) rfl (by
     rw[d9 (ds:=[`aIl]) (`O (by
      rw[`cC `hS (`k `bfS w1)];exact Vp0 hq.gp) rfl)]
     rfl) (`hg `es `es)).trans ?_
    delta st;rw[`YJ];rfl
   refine `bf6;rw[`DW];refine `bf6;rw[wr0 ht];exact `un (An0 hB h _ _ _ _) p4
open Bw (bs sg cnt kn its tx fold Vb Gp Gq two)
def lkd(j:Nat):D:=`rd
def Nq0{P:`XA}(hs:`bf7){ps:`_}(h1:∀v∈`ky,P v)(h2:∀s∈`g?,`nl):∀d∈`fH,P d:=(λd hd=>by
 apply `a!4;delta two at hm;rcases `Qr with rfl|hm
 ·exact hs _ (h2 _ `pM)
 ·rw[`asZ];exact h1 _ `pM)
def Fz0{P:`XA}(hs:`bf7){p:Pt}(hn:∀s∈`iO,`nl)(hv:∀v∈`dE,P v):∀d∈`fU,P d:=by
 cases p with
 | text w=>intro d hd;cases hd
 | row vs=>exact hv
 | table ps=>exact Nq0 hs hv `bf8
 | rcd c ps=>
  intro d hd;apply `IW
  ·exact hs c (hn c `XM)
  ·exact Nq0 hs hv (`bf8) d hd
def Wb.its(hw:`cD){p:Pt}(hp:p∈ps):∀d∈`fU,`pd:=(
 Fz0 (λs h=>`n #[s,rfl,h]) (`bf9).names λv hv=>.of ((`bf9).vals v hv) (hw.lk p hp v hv))
def ar0N{a w p b M:Nat}(h1:w+1+51*(p - b)<=M+1)(a3:a<=50)(h:b+1<=p):a+w+51*(p - (b+1))<=M:=by
 let#[k,rfl]:=Nat.exists_eq_add_of_le h;rw[`T3];rw[`auz b,`T3] at h1;lia
def Jd0(hw:`cD):∀(M f:Nat) (o:`ai) (B:`j) (T:`e) (W:`i) (s:Sl),`jp+51*(`ael)<=M->M<f->M<=4000->`tH+2700*M<=11000000->`fS+M<=20000->`JJ->(∀x∈B,`qR)->(∀d∈W,`pd) ->
  (`o `bf')<=11000000/\∃B' T' s',xw0 PT PB f `bfT=`ac (st ps (`bf') B' T' [] s'):=by
 intro M
 induction M with
 | zero=>
  intro f o B T W s h1 h2 _ h4 _ _ _ _;have:W=[]:=`beW;subst this;apply `bf!;rw[pk,`du];refine`bf?;delta xw0;rw[Pi0,`bZ `az]
 | succ M ih=>
  intro f o B T W s h1 h2 h3 h4 h5 hn J hW;skip;apply `bf!;cases W with
  | nil=>
   done;rw[pk,`du];refine`bf?;delta xw0;rw[Pi0,`bZ `az]
  | cons d W=>
   rw[`ae] at h1;have hd:=hW d A8;have O:∀d∈W,`pd:=λe he=>hW e (A7 _ he)
   have a3:`cl<=`V:=by
    have:=`AA `us hn (J y hy)
    apply `iD r9
   have a1:=`td;have sp:=Yu0 hw s (o:=o) (B:=B) (T:=T) (W:=W) (d:=d) `l `l hd `l `l;let#[_,i2]:=Rv0 hw (B:=B) (T:=T) `l `l hd;have key:(`o `JH)+51*(`V - (`o `Az))<=M/\(`o (nT T d))<=`fS+1/\(`Az).Nodup/\(∀x∈`Az,`qR)/\∀e∈`JH,It `V e:=by
    skip;apply `bf0
    ·done;refine#[`aIY,?_,hn,J,O]
     show (`o (`D (x∈T) T (T++[x])))<=_;split
     ·lia
     ·apply `r0;lia
    ·done;exact`bga
    ·done;exact`bga
    ·apply `bf3
     apply `bf4
     done;rw[e1,e2]
     by_cases h:`fY
     ·rw[`bM,`bM]
      exact#[`U,`ahe,hn,J,O]
     ·rw[`bV,`bV]
      let#[_,w2]:=ur0 hj;have a2:=(`JG).gp.len;have Z:`bgb:=`IN hn `bgc;have Y:∀x∈`ot,`qR:=λx hx=>by
       apply `qS
       ·exact J x z
       ·rw[`gb];exact hj
      have hl2:`bgd<=`V:=by
       have:=`AA `us Z (Y y hy)
       apply `iD r9
      refine#[?_,`ahe,Z,Y,`Aq]
      ·rw[`S] at hl2 ⊢
       rw[`S];simp only[`e3] at hl2 ⊢;exact ar0N h1 a2 hl2
      ·rcases `c7 he with z|z
       ·exact `JK w2 e z
       ·exact O e z
   let#[k1,k2,k3,k4,k5]:=key;have:=ih g `avf (`Az) (nT T d) (`JH) `v6 k1 `l `l `Ae `l k3 k4 k5;apply `ay `be;let#[q0,B',T',s',q]:=`w;done;refine#[q0,B',T',s',?_];delta xw0;rw[Pi0,`bn `S5];apply `aM sp;exact q
def pak(ps:`aD)(r:Nat):`ai:=pk ps 100000 [] [] [lkd r]
def Et0(hw:`cD):kd0 [`L5]=`xE (pak ps 0)/\(`o (pak ps 0))<=11000000:=by
 have J:=`td;let#[q0,B',T',s',q]:=Jd0 hw 3500 100000 [] [] [] `YW .un `asW `E `E `az `az E8 `Wy (λd hd=>by
  rw[`YX];apply `fs (`u #[0,rfl,hw.len.1]))
 rw[`c'] at q0 q;refine#[`a!h,q0];refine `eB (`tp `wg `et .un) (`eB (`tp `wg `et `xJ) (`eB [`wg,`et,`xJ,`xJ,.un,.un] (`eB (st ps [] [] [] `YW .un) (p6 q `lD))))
theorem iq0(f:`hF):`l9 (`D2 (`aJp f)=`bge)
 | []=>rfl
 | p::ps=>by
  rw[`J,`J,`J,`d!,iq0 f ps,`J]
theorem lz0(f:`hF)(hf:∀s,f `g8=`dh):`l9 ((`bge).flatMap two=`ahA f)
 | []=>rfl
 | p::ps=>by
  rw[`J,`cO,lz0 f hf ps,`cO,`au];show[`aem,f p.2]++_=[f (`p p.1),f p.2]++_;rw[hf]
def Ui0(π:`bu)(p:Pt):cnt `YY=`u_/\kn `YY=`fJ/\tx `YY=tx p/\its `YY=`avh/\`bgf/\(`MV).all=`iO:=by
 have hv:`bgf:=`avi;cases p with
 | text w=>exact#[rfl,rfl,rfl,rfl,hv,rfl]
 | row vs=>exact#[`pW ((`o (`mG `hb))=`c8) `x,rfl,rfl,rfl,hv,rfl]
 | table ps=>
  have e:rel π (`l4)=`n! (`QI):=D9 `vP (iq0 `hb ps);refine`bgg
  ·rw[e];show `bgh;rw[`x]
  ·rw[e];exact `bgi
  ·rw[e];show `bgj++[]=`g?++[];rw[`M];rfl
 | rcd c ps=>
  have e:rel π (`ue)=`hQ c (`QI):=D9 (`kv c) (iq0 `hb ps);refine`bgg
  ·rw[e];show `bgh;rw[`x]
  ·rw[e]
   show `B4::_=`B4::`ahA `hb;rw[← `bgi]
  ·rw[e];show `bgj++[c]=`g?++[c];rw[`M];rfl
def fk0(π:`bu)(j:Nat):lkv π `kY=`bgk:=by delta lkd lkv;apply `lu
def Gh0(B:`j)(j:Nat):`aJk=`aIV:=by delta nB lkd;apply `lu
def Fo0(ps:`aD)(B:`j)(W:`i)(j:Nat):nW ps B W `kY=`aLx:=by delta nW lkd;apply `lu
def Ow0(ps:`aD)(B:`j)(T:`e)(j:Nat):`QV=`bfQ:=by
 delta hb lkd;apply `lu
def laid(ps:`aD)(L:`j):`aD:=`bgl
def Dc0(hw:`cD)(h0:0<`oD/\`oD<=60)(hL:∀k∈L,`iP)(hc:∀k∈L,∀i∈tgs (`xQ).vals,i∈L):Wb `gJ:=by
 have hl:`bgm:=by delta laid;rw[`x]
 refine#[`k hl h0,`lK,λp hp v hv=>?_]
 ·skip;apply `YZ
  let#[_,w2]:=ur0 (hL k hk);have hq:=`JG;let#[r1,_,_,_,r5,r6]:=`bgn;done;refine#[`k r1 hq.cnt,`Y_,`k r6 hq.names,`ii r5 `x hq.few];rw[r5] at hv;apply `avj;have hb:=hq.vals u hu;cases hb with
  | non=>exact `y
  | lk i _=>
   apply `bgo;exact .lk _ (`cX `bgp)
  | int z hz=>exact `h z hz
 ·skip;apply `YZ
  let#[_,w2]:=ur0 (hL k hk);let#[_,_,_,_,r5,_]:=`bgn;rw[r5] at hv;apply `avj;have hb:=(`JG).vals u hu;done;rw[hl];cases hb with
  | non=>exact λj e=>nomatch e
  | lk i _=>
   apply `bgo;exact `ahP (`bgp)
  | int z hz=>exact λj e=>nomatch e
def Tt0(hn:`Y0){k:Nat}(h:L[j]?=`f_):k∉L.take j:=(λz=>by
 let#[i,hi,e]:=`zo z;let#[hj,ej]:=`c9 h;rw[`fb] at hi;rw[List.getElem_take] at e;exact List.pairwise_iff_getElem.mp hn i j `cK hj `cK (`alS ej.symm))
def wu1{v:D}(hb:`a3)(hk:`Q_):`QA:=by
 cases hb with
 | non=>exact `mi
 | lk j _=>apply `fs #[j,rfl,hk j rfl]
 | int z _=>apply `nC `aE0
omit Km
namespace Qw
open DL W K22
open Km (Wb ix pd kb kb_mem S80 eu0 Zf0 eg0 laid Tt0)
def pq(ps:`aD)(k:Nat):Pt:=`xQ
def p90{k:Nat}(hk:`iP):`aa'=ps[k]:=by delta pq;simp[hk]
def gj0(hw:`cD){k:Nat}(hk:`iP):Pw `V `Y1:=by
 rw[p90 hk];have hm:=D6 hk;exact#[(`bgq).few,λv hv=>Km.wu1 ((`bgq).vals v hv) (hw.lk _ hm v hv)]
def A(ps:`aD)(i:Nat):`j:=tgs (pq ps i).vals
def Yl0(hw:`cD)(hi:i<`V):`Fr `Y2/\∀j∈`Y2,`oV:=by
 have h:=gj0 hw hi;exact#[C3 (Ch0 _) h.few,As0 h.lv]
def dd(ps:`aD)(o:`j):D:=`yi `N7 `ahh
def Tc0(ps:`aD):∀(o:`j) (x:Nat),`xM->xg0 (dd ps o) `Bq=`ahf:=by
 intro z;induction z with
 | nil=>intro _ h;cases h
 | cons y o ih=>
  intro x h
  show yz0 (`pb (y:Int)::kd o) ((pq ps y).d::`ahh) `sy=_;delta yz0
  by_cases e:y=x
  ·rw[`I4,e]
  ·rw[`z8 (e (`bgr))]
   exact ih x (`ad5 (C1 e))
structure Mt(ps:`aD)(a:Nat)(r:`j):Prop where
 ex:∃c,Dfs (A ps) [] c [] [a] r/\c<=5000
 nd:`auQ
 lt:∀y∈r,y<`V
 cl:∀i∈r,∀j∈`Y2,j∈r
 me:a∈r
def i80{c:Nat}{o T r:`j}(h:`avk):∀x,`xM∨x∈T->x∈r:=by
 induction h with
 | nil o=>exact λx hx=>hx.elim id λz=>by cases z
 | @skp c o T r y hy _ ih=>
  intro x hx;rcases hx with z|z
  ·exact ih x `Iw
  ·rcases `Y3 with rfl|z
   ·exact ih x (`n (hy.resolve_right `az))
   ·exact ih x `Ix
 | @visit c o T r y _ _ _ _ ih=>
  intro x hx;rcases hx with z|z
  ·exact ih x (`n `agw)
  ·rcases `Y3 with rfl|z
   ·exact ih x (`n `XM)
   ·exact ih x (`u (D4 _ z))
def M10{C:`auZ}(hC:∀i,C i->∀j∈`Ax,C j){c:Nat}{o T r:`j}(h:`avk):(∀x∈o,C x)->`bgs->∀x∈r,C x:=by
 induction h with
 | nil o=>exact λh _=>h
 | @skp c o T r y hy _ ih=>exact λh1 h2=>ih h1 (`Ar h2)
 | @visit c o T r y _ _ _ _ ih=>
  intro h1 h2;have hy:=h2 y A8;refine ih (`iE) `iE
  ·apply `qS
   ·exact h1 x z
   ·rw[`gb];exact hy
  ·apply `qS
   ·exact hC y hy x z
   ·exact h2 x `z'
def do0(hw:`cD){a:Nat}(ha:a<`V):∃r,`JL:=by
 skip;let#[c,r,h1,h2,h3,h4,_]:=`bgt (A ps) `avl;let#[_,f2]:=Wk0 h1 λi hi=>by cases hi
 done;exact#[r,#[c,h1,`U],h3,λy hy=>(h4 y hy).1,`bgu hj,i80 h1 a `auL]
def Mt.len(hw:`cD){a:Nat}{r:`j}(m:`JL):`a2<=60:=by
 have:=`AA `us m.nd `avm
 apply `ay `d?;exact C3 `w `td
def Sl0(r:`j):(`o `JM)=`a2:=by delta qv0;rw[`x,`d?,qo0]
def G40{r:`j}{d:D}(h:(`JM)[j]?=`aQ):∃k,r[j]?=`f_/\d=`t [`gn,`ko]:=by
 have J:j<`a2:=by
  have:=(`c9 h).1
  apply `iD Sl0
 refine#[r[j],C9 J,?_];delta qv0 at h;rw[`cH,`V_ (`k qo0 J)] at h;have e:(nd r).getD j `y=`kN (r[j]):=by delta nd;simp[J]
 rw[← e];exact`V?
def Ec0{gA:GA}(δ:Ds)(r:`j)(h:`dk=`c [`B?]):ky0 gA δ=`c (`JM):=by
 delta ky0;rw[h];rfl
def NB:GS:=v7 (v10 `RJ (`avn 3 `cw)) u6
def v71{B:`j}{k:Nat}(hB:`JF)(hk:k∉B)(a b c:Sl):v10 `RJ (`avn 3 `cw) [a,b,c,`YV,`bgv,`jr]=`ac [a,b,c,`Fd (B++[k]),`bgv,`jr]:=by
 have zs:`KS:=`a5
 rw[← eu0 B];show `bfV [a,b,c,`bfW `bgw `bgw,.sh `bgx,`jr];rw[`bfX,Zf0 (λz=>hk ((`QE B k).mp z))];delta kb;rw[`au];rfl
def Ad0{r:`j}(h:j∈r):xg0 (`Y4) `oa=`Ia (ix r j):=by
 show yz0 (kb r) (nd (`bc (`o (kb r)))) `JD=_;rw[eg0 ((`QE r j).mpr h),S80]
def Tl(W:D)(x:Nat)(d:D):Prop:=`bgy=`aQ∨(`bgy=`g/\xg0 W `Bq=`aQ)
def Fe0{ga gb:GE}{δ:Ds}{W:D}{x:Nat}{d:D}(h1:`dO=`c W)(h2:`d4=`c `Bq)(h:Tl W x d):orE (`zO ixD) (`zO xg0) δ=`aQ:=by
 delta orE;rw[j4 (f:=ixD) h1 h2,j4 (f:=xg0) h1 h2];rcases h with h|⟨h,h'⟩
 ·rw[h]
 ·rw[h];exact h'
section
variable(hw:`cD){a:Nat}{r:`j}{W:D}(m:`JL)(hW:∀x∈r,`bgz)
include hw m hW
def J40:j60 `bgA=`c (`B?):=by
 let#[c,hd,hc]:=m.ex;let#[s',e]:=Kz0 (W:=W) (k:=`cJ) (l:=`Y5) (U:=[]) (gw:=`bb?) (P:=λy=>y∈r) (S:=[]) (λy=>P8) `az (λy hy=>by
  refine#[_,λ_ _ _ _ _=>Fe0 rfl rfl (hW y hy),Uh0 (gj0 hw `avm),(Yl0 hw `avm).1,m.cl y hy]) hd `bgB `az 100000 .un `l
 exact `gc [`d5,`cJ,`Y5,`et,.un,.un,.un] rfl (`eB [`d5,`cJ,`Y5,`et,`xJ,.un,.un] (`eB (ms W `YD (`Y5) [] [] [a] .un) (p6 e `lD)))
def Ff0:qh0 `avo=`c (`B?):=(
 `uh (`vN (`k (`aG `bgA) (J40 hw m hW))))
omit z
def Zq0(hw:`cD){a:Nat}{r:`j}{W:D}(m:`JL)(hW:∀x∈r,`bgz):vq0 `avo=`avp:=by
 have zs:`aAB:=`a5
 have J:=m.len hw;let#[δ',l1,s4,s5,rfl]:=u60 (f:=`IY) (G:=NB) (`bgC [`te,`cJ,`Fc,`Fd (`MX i),s4,s5]) (`JM) 0 `bgD (by
  apply `atu;rw[`b4];let#[k,hk,rfl]:=G40 hj;have M:=`bgE;have e1:`MX `ji=`Y6++[k]:=`eO `jB hk
  have hl:(`o `Y6)=j:=`bgF
  have hp:=v71 (B:=`Y6) (k:=k) `l (Tt0 m.nd hk) (`te) `YD (`Fc);rw[hl] at hp;exact#[[`te,`cJ,`Fc,`Fd (`Y6),`nn,`jr],_,rfl,p6 hp rfl,`nn,`jr,by rw[e1]]) `avq
 rw[`b4,Sl0,`oz] at l1;refine `um (yr0 (d:=`B?) (Q10 ?_ (Id0 r))) (`YE `bgD (`Gb `JM ?_))
 ·show oA `FR qh0 (`tp `te `cJ .un)=_
  rw[`aG `avo];exact Ff0 hw m hW
 ·exact Ec0 _ r rfl
 ·show oA _ wb0 [`te,`cJ,`Fc,.sh (`Y4),nt0 s4,nt0 s5]=_
  rw[d9 (ds:=[`s' `Cx `ia]) (`O (w00 (items:=nd r) rfl `bfl (by
   delta nd laid;rw[`M];refine Ia.Vt0 _ _ r λi hi=>(`rg [.sh (`tF),`te,.sh (`Y4)] ?_)
   rw[`cC [(pq ps i).d,`Y4] (Fe0 rfl rfl (hW i hi))];exact R80 (gj0 hw (m.lt i hi)) (ix r) _ λj hj=>Ad0 (m.cl i hi j hj))) rfl)]
  rfl
section
open Bw (bg sts ix pb pg0 Gw' Gq Gs Vb)
open Ia (Tel)
def yk1(ps:`aD)(n k:Nat)(hk:k<n):ixD (`m `bgG) `uP=`c (`oJ (bg ps k)):=by
 show atI `bgG `cS=_;rw[q50 `l (`d1 Bw.Zx0) `y,`cF];delta Bw.sts;simp[`cU,hk]
def Ae0{p:Pt}(h:Gq p):tree p.d=`d:=by
 have tv:∀{v:D},`a3->tree v=`d:=`bgH
 have tl:∀l:`i,(∀v∈l,`a3)->`sm l=`d:=by
  intro l
  induction l with
  | nil=>intro _;rfl
  | cons v l ih=>intro hl;rw[`sm,tv (hl v A8),`avr];rfl
 have tp:`atJ (`sm `kF):=by
  intro l
  induction l with
  | nil=>intro _;rfl
  | cons v l ih=>
   intro hl;have e:tree (pr v)=`d:=by
    show (tree (`p v.1)&&(tree v.2&&`d))=`d;rw[tv (hl v.2 A8)];rfl
   rw[`J,`sm,e,`avr];rfl
 cases p with
 | text w=>rfl
 | row vs=>show (`d&&(`sm vs&&`d))=`d;rw[tl vs `ld];rfl
 | table ps=>show `bgI=`d;rw[`bgJ];rfl
 | rcd c ps=>show (`d&&`bgI)=`d;rw[`bgJ];rfl
def Go0(hw:`cD):`uk:=(#[`td,`rC])
noncomputable def WT:GB:=`Ja
def WB:GS:=v7 `Jb
 (v7 (ifD `bcI
 (v7 `bcJ
 (v7 `bcK
 u6))
 u6)
 u6)
def ws(ps:`aD)(F:D)(k:Sl)(o T:`j)(s:Sl):Ds:=[`bd,k,`uu,.ow (dd ps o),`wI,s]
section
variable{F:D}{k:Sl}
def Oc0(s:Sl)(o T:`j):WT `avs=`be5:=by
 have e:tn0 `aKx `avs=`c (`QB):=by
  show `be6;rw[qo0,`es]
 delta WT ob;rw[`be7];show `be8;congr 1;rw[`be9];lia
def Bt0(s:Sl)(o T:`j)(x:Nat):v10 `abn `kG `ahg=`bgK:=by
 have e1:owL 4 `ahg=`be':=rfl;apply `be!
 delta v10 pv0;rw[e1,`s,e2,`auY,`JB];rfl
def Gg0(o T:`j)(x:Nat):jo0 `aLc `QJ=`bs (x∉o):=by
 show `c (xor `d (`auW))=_;rw[ai0,`ng];congr 1
 by_cases h:`xM
 ·rw[`eU,`bfa];rfl
 ·rw[`fn,`eU];rfl
def O60(hw:`cD){C:`auZ}(hlt:∀x,C x->`qR)(hC:∀x,C x->∀j∈`ads,C j)(hp:∀x,C x->`bgL):`au0 (Dfs `bgM [] c o T r->`bgs->`bfb (xw0 WT WB m `avs=`ac (ws ps F k r [] s'))):=by
 intro c o T r h
 induction h with
 | nil o=>
  intro _ _ m s hm;cases m with
  | zero=>lia
  | succ m=>exact#[s,Ia.ds0 (`ax Oc0)]
 | @skp c o T r x hx hd ih=>
  apply `YI;cases m with
  | zero=>lia
  | succ m=>
   rw[`ae] at hl;apply `bfc;have O:`xM:=`avt;have eb:`bgN=`bgK:=
    `bfe Bt0 `aBw (`jC Gg0 (`bZ (λz=>z O)))
   apply `bgO
 | @visit c o T r x hx hxS hz hd ih=>
  apply `YI;cases m with
  | zero=>lia
  | succ m=>
   have M:=`auR;have J:=hlt x M;have zs:`bff:=`a5
   rw[`S,`es] at hz;let#[s',e]:=ih (λy hy=>by
    rcases `ado with q|q
    ·exact hC x M y (Y3.mp q)
    ·exact `bfg) (by simp only[`S,`e3,`es];lia) m `oB `l
   have p1:v10 `aLd `aiT `QJ=`ac `avu:=by
    have hk:`auW=`q:=`Gd ai0 hx
    have e1:`bgP=kd `k?:=by
     delta xt0;rw[hk,`cB,Nz0];rfl
    have e2:`bgQ=(`Br).map `aCC:=by
     delta xy0;rw[hk,`cB,`au];rfl
    have ev:oA `aMK tb0 `QJ=`ahf:=by
     rw[`As `aLy (`k (`X `aCh `B_ rfl) (yk1 ps _ x J))];exact hp x M
    delta v10 xk0;rw[ev];show (`bfk o ([`bd,k,`uu,`vc (`yi (`bgP) `bgQ),`wI,`kh]:Ds))=_;rw[`I (by delta kd;rw[`x];lia),e1,e2];rfl
   have p2:R9 `aLe `avu=`bgR:=by
    have ev:oA `aML ut0 `avu=`dN `avv:=by
     rw[d9 (ds:=[`Df]) (`O (d50 (by
      show o2 `a6 `cw xg0 [`bd,nt0 k,`uu,.sh (`avw),.sh `aAE,`kh]=_;rw[`X `avw `B_ rfl];exact Tc0 ps _ x `XM) (by
      rw[p90 J];exact Ae0 (`rC _ (D6 J)))) rfl)]
     exact Uh0 (gj0 hw J)
    delta R9 v60;rw[ev];show `qQ (`bL (`aiZ+(`o `avv)<=`R) (`AB,([`bd,k,`uu,.ow (`avw),`vc (`m (`Nt++`avv)),`kh]:Ds)));rw[`I (by rw[qo0,qo0,`es];lia),← it0];delta ws;rw[`YJ,List.reverse_reverse];rfl
   have eb:`bgN=`bgR:=
    p6 (Bt0 s o T x) (p6 (δ':=`aI_) (by
     rw[`ma Gg0 (`bn hx)];exact `un p1 p2) rfl)
   apply `bgO
omit z
def mr0(hw:`cD)(hs:∀p∈ps,Gs p){F:D}{a:Nat}{r:`j}(m:`JL)(h0:`beO)(h1:∀x∈r,Tel F (bg ps x) (pb (pq ps x))):qt0 `Rm=`avp:=by
 skip;have ha:=m.lt a m.me;have hg:=Go0 hw;have hp:∀x,x∈r->`bgL:=λx hx=>by
  have hq:Gq (pq ps x):=`k `avx (`rC _ (D6 _))
  have M:Gs (pq ps x):=`k `avx (hs _ (D6 _))
  exact Ia.Pr0 hq M (h1 x hx) (by have:=wl1 hg x;have:=pg0 hq.gp;lia)
 let#[c,q,d1,d2,d3,d4,_]:=`bgt `bgM #[`p5 `es (`avl).1,λj hj=>(`avl).2 j (Y3.mp hj)];let#[_,f2]:=Wk0 d1 λi hi=>by cases hi
 let#[s',e]:=O60 (F:=F) (k:=`cJ) hw (C:=λx=>x∈r) m.lt m.cl hp d1 `bgB `az 100000 .un `l;have J:∀x∈r,x∈q:=by
  let#[c',dm,_]:=m.ex;refine M10 (C:=λx=>x∈q) (`bgu (Y3.mpr hj)) dm `Wy `iE
  rw[`eb hx];exact i80 d1 a `auL
 done;apply `cp (`tp `bd `cJ `uu) (yr0 ?_) (`eB [`bd,`cJ,`uu,`xJ,.un,.un] (`YE (ws ps F `YD [] [a] .un) e))
 ·apply `Jt
  exact Mj0 hg h0 `g_ `l `l
 ·show oA (z8 `a6 `d_) vq0 [`bd,`cJ,`uu,.sh (dd ps q),`ow (nd [].reverse),nt0 s']=_
  rw[`aG [dd ps q,`iS]];exact Zq0 hw m λx hx=>`u #[rfl,Tc0 ps q x (J x hx)]
omit z
def Sa0{x:Nat}(h:`qR):Tl `Lp x `Df:=(`n (`sB h).1)
omit Qw
namespace K22
open DL W
def py0{l:`i}{k:Nat}(h:∀x∈l,`cI x k=`d):`ej l k=`d:=by
 induction l with
 | nil=>rfl
 | cons a l ih=>rw[`ej,`XD,ih `Ha];rfl
omit K22
namespace Ta
open DL W K22
def bo0{v:D}(vs:`i)(h:`tb∨`aIO):tgs (v::vs)=`qP:=by
 delta tgs;rw[`w3];apply `bgS
omit Ta
namespace Ua
open DL W K22
def i80{S:`j}{c:Nat}{o T r:`j}(h:`Jx):`bfn:=by
 induction h with
 | nil o=>exact`bfo
 | skp _ _ ih=>exact ih
 | @visit c o T r x _ _ _ _ ih=>
  let#[s,e]:=ih;exact`bfr
def Ee0{adj':`R?}(f:`bu){c:Nat}{o T r:`j}(h:`avk):`bgT->(∀i∈r,adj' (f i)=(`Ax).map f)->Dfs adj' [] c (o.map f) (`DO f) (`r1 f):=by
 induction h with
 | nil o=>intro _ _;exact `Fp
 | @skp c o T r x hx hd ih=>
  intro hi ha;exact .skp (`n (Y1 (`avt))) (ih hi ha)
 | @visit c o T r x hx hS hz hd ih=>
  intro hi ha;let#[s,e]:=i80 hd;have J:x∈r:=`aik
  have M:∀y∈o,y∈r:=λy hy=>by rw[e];simp[hy]
  have k:=ih hi ha;refine .visit (`lA) `az ?_ ?_
  ·let#[y,hy,e2]:=`AC
   exact hx (hi y (M y hy) x J e2▸hy)
  ·rw[ha x J]
   simp only[`S,`x] at hz ⊢;exact hz
  ·rw[ha x J]
   rw[`au,`au] at k;exact k
def Qv0(f:`bu):∀{vs:`i},`beZ->tgs (`bgU)=(`qP).map f:=by
 intro z;induction z with
 | nil=>intro _;exact rfl
 | cons v vs iq=>
  intro h
  have ih:=`be0
  rw[`J];skip;apply `be1
  ·done;rw[`bgV,`bz (lkv f `AB=`y),`bgV,ih]
  ·done;rw[`bgW,`bz (lkv f (`de z)=`fG),`bgW,ih]
  ·done;rw[show `bgX from `bgY,Sj0,Sj0,ih]
   rfl
def T40(f:`bu)(p:Pt):(`Ay).vals=`YG:=(`avi)
def cz0:∀(a:`e) (b:`i),`DG=`N_->`pk (a.zip b)=a:=by
 intro z;induction z with
 | nil=>intro _ _;simp
 | cons a as ih=>
  intro z1;cases z1 with
  | nil=>intro h;simp at h
  | cons b bs=>intro h;simp at h;simp[ih bs h]
def Di0(p:Pt)(vs us:`i)(h:`c8=`k!):`DL (`auT) us=`DL p us:=by
 cases p with
 | text w=>rfl
 | row us=>rfl
 | table ps=>
  show `vP _=`vP _;apply `bgZ
 | rcd c ps=>
  show `kv _ _=`kv _ _;apply `bgZ
def mm0(f:`bu)(j:Nat):`bgX:=`bgY
def En0{p:Pt}(h:`Jy)(f g:`bu):rel g (`Ay)=rel (λj=>g (f j)) p:=by
 delta rel;rw[`avi,Di0 _ _ _ (by rw[`x]),`M];congr 1;refine D7 `Y_
 skip;apply `auU
 ·done;rfl
 ·done;rfl
 ·done;show lkv g (lkv f _)=_
  rw[mm0,mm0,mm0]
def Wc0{p:Pt}(h:`Jy){f g:`bu}(e:∀j∈`Jz,f j=g j):`Ay=rel g p:=by
 delta rel;congr 1;refine D7 `Y_
 skip;apply `auU
 ·done;rfl
 ·done;rfl
 ·done;rw[mm0,mm0,e j (i60 hv)]
def O10{f:`bu}:∀{r:`j},`bgT->`auQ->(`r1 f).Nodup:=by
 intro z;induction z with
 | nil=>intro _ _;exact E8
 | cons a r ih=>
  intro hi h
  rw[`zW] at h;rw[`J,`zW];refine#[`lA,ih (λx hx y hy=>hi x `bg_ y (A7 _ hy)) h.2];let#[b,hb,e]:=`AC;exact h.1 (hi b (`DE) a A8 e▸hb)
def Ax0(v:D)(h:`QA):lkv (λj=>j) v=v:=by
 skip;rcases h with rfl|⟨z,rfl⟩|⟨j,rfl,hj⟩
 ·done;rfl
 ·done;rfl
 ·done;rw[mm0]
omit Ua
namespace Rm
open DL W PySem.StrLaws
inductive Want where
 | root|value|sign|name|cls|fin
 deriving DecidableEq
structure RS where
 count:Nat
 begun:`avy
 un:`j
 names:`l6
 wait:`aS
 digits:Int
 length:Nat
 spelled:`j
variable{S' S1:Rm.RS}
def start:RS:=#[0,[],[],[],[`vK],0,0,[]]
def v30:`j:=(`bc 10).map (48+·)++(`bc 26).map (97+·)
def mp0:`j:=32::v30
def RS.hold(S:RS)(d:D):RS:=`bg0 (match `cE with|[]=>`dG|k::_=>`uv) `nT
def wanted:Nat->Nat->`aS
 | 0,n=>`cr n `lc
 | 1,n=>`cr n `eF
 | 2,n=>`avz
 | _,n=>.cls::`avz
def link(k:Nat):D:=`t `bg1
def o10(n:Int):Int:=if n%2=1 then -(n/2) - 1 else n/2
def left(names:`l6)(len:Nat)(pre:`j):`aj:=`an ((`o (`aD4 len))<36 ^ (len - `dI))
def pairsOf:`i->`bg2
 | `avA=>`avB
 | _=>[]
def vt0(p:`il):`i:=match p.1 with
 | 2=>`bg3 `bO
 | 3=>`bg4 `bO
 | _=>[]
def xp0(l:`j):D:=`Y7
def Oz0:`aS->`j->`aS×`j
 | `dj::w,_::u=>Oz0 w u
 | w,u=>(w,u)
def RS.ends(S:RS):RS:={ S with wait:=(`bg5).1,un:=(`bg5).2 }
def codes:`i->`j
 | `cG::r=>`Wr++`N? r
 | _=>[]
def made(p:`il):D:=match p.1 with
 | 0=>`t [`sx,xp0 (`N? p.2)]
 | 1=>`t [`Cs,`t p.2]
 | 2=>`t [`mD,`tl `bg3]
 | _=>`t [`n9,p.2.headD `y,`tl `bg4]
omit Rm
variable{S' S1:Rm.RS}
namespace Bt
open DL W
def vj0{N:`e}{G:GSB}{b:D}{r:D}(hl:`z1)(h:`bg6 `a7k):`arf:=(bw0 hl λp=>`n (h p))
def yv0{G1 G2:GSB}{δ:Ds}{r:`It}(h:`ano)(k:`He=r):`bg7=r:=by delta z80;rw[h];exact k
def vd0{G1 G2:GSB}{δ:Ds}{d:D}(h:`o'=`avC):`bg7=`avC:=by delta z80;rw[h]
def wx0{G:GS}{δ:Ds}(h:`arb):xl0 G δ=`fV:=by delta xl0;rw[h]
def pc0{g:GB}{δ:Ds}(h:`anq):`bg8=Ga δ:=`bg9
def t30{g:GB}{δ:Ds}(h:`aVN):`bg8=Gb δ:=`bg9
def u80{δ:Ds}{d:D}(h:`k9=`c (d,δ')):vp0 gx δ=`avC:=by delta vp0;rw[h];rfl
def q00{g:GE}{δ:Ds}{d:D}(h:`iG):xk0 g δ=`c (d,δ):=by delta xk0;rw[h];rfl
def aa0(i j:Int)(h:`aeO):`asl:=`a'O
def wd0{g:GE}{δ:Ds}{b:`aj}(h:`aA=`SJ):`a'':=by delta ob;rw[h];rfl
open DL W StrLaws
def L70(a b:`j):`a'T:=by
 show (#[a.toArray++b.toArray]:Str)=#[(`hr (a++b))];rw[List.append_toArray]
def Gb0(sep:`j):∀parts:`l6,`ais (`Y8) (`aNb `bR)=`bg':=by
 intro parts;delta Txt.join;rw[StrLaws.glued_eq_join]
 induction `Fe with
 | nil=>rfl
 | cons p r ih=>
  cases r with
  | nil=>rfl
  | cons q r=>
   show `bR p++`Y8++PySem.Str.join (`Y8) ((q::r).map `bR)=`bR (`a'K);rw[ih,L70,L70]
def Ii0{g:GE}{δ:Ds}{S:`F2}(sep:`j)(parts:`l6)(B:Nat)(hS:S=`Y8)(hg:`aA=`c (`bg!))(hB:∀p∈`Fe,`at!<=B)(hz:parts.length*(B+`aGh)<=16777216):
  ot0 (gc (`p S)) `Ci δ=`c (`p (`bg')):=by
 have J:∀l:`l6,(∀p∈l,`at!<=B)->((`aH `bR).map `afc).sum<=`aC*B:=by
  intro l
  induction l with
  | nil=>intro _;simp
  | cons p l ih=>
   intro h;have:=`aqs
   have:=h p A8;rw[`J,`J,List.sum_cons,`ae,sg0,`a!A];lia
 have e1:=`Qt `bR `Fe;rw[Zr0 (x:=`p S) (ds:=[`bg!]) rfl (`O hg rfl)];apply `aM dl0;rw[e1,`s,`I,hS,Gb0];have:=J `Fe hB;rw[hS,sg0,`x];rw[Nat.mul_add] at hz;lia
theorem X60:∀l:`j,`bg?=l
 | []=>rfl
 | [c]=>rfl
 | c::d::r=>by
  show[c]++[]++he0 [] ((d::r).map `aE1)=_;rw[X60 (d::r)];rfl
def Cc0{g:GE}{gl gh:GO}{δ:Ds}{d:D}{l h:`bw}(h1:`iG)(h2:gl δ=`pD)(h3:gh δ=`c h):sk0 g gl gh δ=slA d l h:=by
 delta sk0;rw[h1,`s,h2,`s,h3,`s]
def y61(xs:`i)(k:Nat):cutD xs `bee `g=`p2 k:=by
 delta cutD sIx;simp only[];rw[`auC,`cF]
 by_cases q:k<=`aB
 ·apply `bec
 ·apply `bed
omit Bt
namespace Rk
open DL W Rm
open Bt (vj0 yv0 vd0 wx0 pc0 t30 u80 q00 wd0)
def kindS:Nat->Str
 | 0=> `i5
 | 1=> `g!
 | 2=> `g1
 | _=> `hU
def yt0:`bY->Str
 | `vK=> `ad6
 | `eF=> `mn
 | `lc=> `o6
 | `rm=> `oA
 | .cls=> `O3
 | `dj=> "end"
def xq0(S:RS)(k:Nat):D:=`t [`p (`u0 (`avD k `tg).1),`ahv]
def inst(S:RS):D:=`t [`p `bv,`m [`p `yh,`p `kf,`p `uQ,`p `oi,`p `n7,`p `mS,`p `h6,`p `pT],
 `m [`kN `vu,vb0 1,vb0 2,vb0 3,vb0 4,`RZ,`JN,`tk]]
def nodes(S:RS):`i:=`avE (`ahm::`r7 λp=>`m p.2)
def R(S:RS):D:=`t (`op::`LE)
def Bc0:t10 (N10 `bv) []=`JO `kO:=(
 bw0 rfl λp=>`u #[rfl,[`gs `kO],`eY,rfl])
section
variable(p:`f)(S:RS)(δ:Ds)
def t50:dpN 0 `b!=`c `D?:=(rfl)
def P00:`uw `kf=`bha:=`eY
def kw0:`uw `uQ=`bhb:=`eY
def dg0:`uw `oi=`c (vb0 3):=`eY
def mn0:`uw `n7=`c (vb0 4):=`eY
def I50:`uw `mS=`c (`RZ):=`eY
def G30:`uw `h6=`c (`JN):=`eY
def Ko0:`uw `pT=`c (`tk):=`eY
def ck0:`Y9 `km `avF:=by
 delta up0;rw[mn0,`s,t50];show `AD `avG;rw[`x,`es]
def ja0:`Y9 `rP `Y':=by
 delta up0;rw[P00,`s,t50];show `AD (`o `wK);rw[`x,`d?]
def R50:`Y9 `jG (`h `avH):=by
 delta up0;rw[kw0,`s,t50];show `AD (`o `pJ);rw[`x,`es]
def e60:`Y9 `sd `Y!:=by
 delta up0;rw[dg0,`s,t50];show `AD `bhc;rw[`x]
omit z
def Tm0(S:RS):vm0 `cc []=`c (`ig `JP,R S):=(vj0 rfl λp=>#[`gU,show nn0 `gU=_ from vd0 (u80 (q00 (by
 rw[`X `avF `b' (ck0 p S [])];show `cg (`adw=0);congr 2
 by_cases h:`JP
 ·rw[`eU,`bn (`ax h)]
 ·rw[`fn,`bZ (λz=>h (Bj1 `l))]))),rfl])
def sn0(k:Nat):pa0 (vb0 k)=`f_:=by
 delta vb0 pa0;exact rt0 k
def g10{es:`i}{k:Nat}{z:Int}(h:`lh=`l2):db0 ns (vb0 k) `ov=atI es z:=by
 delta db0 vb0;simp only[rt0,h]
def item_tup{z:Int}(h:`aGp):db0 ns `oP `ov=atI ds z:=by
 delta db0;apply `aM h
structure Ok(S:RS):Prop where
 un:∀k∈`cE,`AE
 few:`JQ
 held:∀p∈`dG,p.2.length<=1000
 wait:`i9<=100000
 names:`avI
def ns0(p:`f)(S S':RS)(δ:Ds)(k:Nat)(n:D)(h:`avJ k n=`L8 S'):`oS 0 k n `b!=`tj::δ:=by
 show `vc (`t [`a6',`t (`op::`avJ k n)])::δ=_;rw[h];rfl
def O40{S:RS}(h:∀k:Nat,(S'.begun.getD k `tg).1=(`avD k `tg).1):xq0 S'=`L6:=by
 funext k
 delta xq0;rw[h]
def put(S:RS)(k:Nat)(d:D):RS:={ S with begun:=`uv }
def Hl0(S:RS)(k:Nat)(d:D)(j:Nat):((`aaV).begun.getD j `tg).1=(`avD j `tg).1:=by
 show ((`uv).getD j `tg).1=_;rw[`cU,`cU,`nU];cases `dG[j]? with
 | none=>rfl
 | some a=>
  by_cases q:k=j
  ·simp[q]
  ·simp[q]
def Kb0(S:RS)(k:Nat)(d:D)(q:`il)(hk:`lb):`avJ (k+5) (`m (`ahk))=`L8 `xR:=by
 show `avE (`ahm::`bhd)=_;have e1:`bhd=(`uv).map `aCq:=by
  apply A60;intro i;rw[`cH,`nU,List.getElem?_set,`cH,`x]
  by_cases z:k=i
  ·subst z
   have hl:=`bgE;rw[`a4,`wx,hk];simp
  ·rw[`qu]
   simp[z]
 rw[e1,← O40 (Hl0 S k d)];show _=inst `xR::`s' (`bc (`o `uv)) (xq0 `xR)::_;rw[`ux];rfl
def v11(p:`f)(S:RS)(δ:Ds)(k:Nat)(u:`j)(h:`im):vz0 0 `aiM `dz `b!=`c (`ahv):=by
 have e1:vz0 0 `jG `og `b!=`bhe:=by
  delta vz0;rw[kw0,`s,`bhf,`s,t50,`s];rw[`bhg];rw[h,`eP,`au];exact `avK
 delta vz0 at e1 ⊢;rw[e1,`s,`bz (gc `Bd (`tf::δ)=`c `Bd),`s,t50,`s];delta xq0;rw[item_tup rfl];rfl
def Le0{N:`e}{G:GSB}{b:D}(hl:`z1)(h:`bg6 `fV):`aDz=`c (`y,b'):=(bw0 hl λp=>`u #[rfl,h p])
def q20(S:RS):RS:={ S with wait:=`nT }
def Qj0(S:RS):RS:=`Y? 0
def Bf0(S:RS)(d:D):`jJ=Qj0 (q20 (match `cE with|[]=>S|k::_=>`aaV)):=by
 skip;let#[c,b,u,n,w,dg,l,sp]:=S;done;cases u<;>rfl
def Tu0(p:`f)(S:RS)(δ:Ds)(h:`qT):popS 0 `km `b!=`nV `AF:=by
 delta popS;rw[mn0,`s,t50,`s,sn0,`s];show `bhh `wJ 4 (`m (`wJ).dropLast);rw[`ap `fX,ns0 p S `AF];cases e:`dU with
 | nil=>exact `K e h
 | cons w ws=>
  show `avE (`m (`avL `uK).dropLast::`r7 _)=inst `AF::`m (`aAD (xq0 `AF))::`m (`aAn (xq0 `AF))::`adv::`m (S.wait.tail.reverse.map `BS)::`r7 _;rw[e,`eP,`au,`JR,`JB];rfl
def bv0(p:`f)(S:RS)(δ:Ds)(g:GE)(z:Int)(hg:`AG=`agH):`avM `mS=`nV ((`Y? z)):=by
 delta pb0;rw[hg,`s];kernel_rfl
def Ju0(p:`f)(S:RS)(δ:Ds)(k:Nat)(u:`j)(h:`im)(hk:`AE)(g:GE)(d:D)(hg:`AG=`aQ)(hn:`l1)(hl:∀q∈`dG,`M_<=1000):
  R9 (kn0 0 `bbd g) `b!=`ac (`bhi::δ):=by
 apply `uy
 have e:`aam=`c `dG[k]:=C9 hk;have hq:=hl _ `atz;delta R9 kn0;apply `Za (v11 p S δ k u h) hg;have e2:`aJg=`c (`m `dG[k].2):=by
  show `avN;rw[`cH,e];rfl
 rw[e2];show `qQ (`D (`l1/\`dG[k].2.length<`R) _ `g);rw[`I #[hn,`U],ns0 p S `xR δ _ _ (Kb0 S k d _ e)];rfl
def jz0(S:RS)(ok:`ge)(hw:`qT)(d:D)(hn:`l1):xv0 `cc [d]=`JO (`jJ):=by
 refine Le0 rfl λp=>#[[`aB!,`kp],?_,rfl]
 show l00 `avO=_;have c0:ob `bbc `avO=`bs (0<`hT):=by
  apply `dR;rw[`X (`h `avH) `b' (R50 p S _)];show `cg (`f5<`avH);congr 2;exact `Zb
 have rest:∀S1:RS,`AH=`dU->z80 `bbe (z80 `bbf `ad) [`aI',`kp]=`ac [`gs (Qj0 (q20 S1)),`kp]:=λS1 h1=>by
  refine `hL (Tu0 p S1 `XE (`k h1 hw)) (`hL (bv0 p (q20 S1) `XE `cT 0 rfl) rfl)
 rw[Bf0];cases hu:`cE with
 | nil=>
  refine `eQ `avO (`bG S rfl);rw[t30 `bhj];rfl
 | cons k u=>
  refine `eQ [`bhi,`kp] (`bG `xR rfl);rw[pc0 `bhj];exact `hL (Ju0 p S `XE k u hu (`bhk) `Z d rfl hn `adG) rfl
def cv0{a b:`bY}:yt0 a=yt0 b↔a=b:=by
 constructor
 ·intro h
  cases a<;>cases b<;>first|rfl|exact `K h `bf
 ·rintro rfl;rfl
def eh0(p:`f)(S:RS)(δ:Ds)(w:`bY)(ws:`aS)(h:`dS):plN (vz0 0 `km `og) `b!=`avP:=by
 delta plN vz0;rw[mn0,`s,`bhf,`s,t50,`s,`ahl `wJ,h,`eP,`au];have:atI (ws.reverse.map (`BS)++[w].map `BS) (-1)=`avP:=`avK;rw[`w];rfl
def Ym0(p:`f)(S:RS)(δ:Ds)(w:`bY)(ws:`aS)(h:`dS)(v:`bY):`Js `tC `bhl `b!=`bs (w=v):=by
 apply `dR;rw[`X `B6 `aI4 (eh0 p S δ w ws h)];apply `bhm;congr 2;exact `avQ
def Bs0(p:`f)(S:RS)(δ:Ds)(k:Nat)(u:`j)(h:`im):popS 0 `jG `b!=`nV `bhn:=by
 delta popS;rw[kw0,`s,t50,`s,sn0,`s];show `bhh `pJ 2 (`bho);rw[`ap (`id h),ns0 p S `bhn];show `mT::`adu::`bho::_=`mT::`adu::`m (u.reverse.map `KT)::_;rw[h,`eP,`au,`JR,`JB]
noncomputable def ET:GB:=`ba?
def EB:GS:=v7 `aiN
 (v7 (popS 0 `jG)
 u6)
def wf1(p:`f)(S:RS):ET `gU=`bs (S.wait.head?=`c `dj):=by
 have c0:ob `aMr `gU=`bs (0<`i9):=by
  apply `dR;rw[`X `avF `b' (ck0 p S _)];show `cg (`f5<`adw);congr 2;exact `Zb
 delta ET ws0;rw[c0];cases h:`dU with
 | nil=>rfl
 | cons w ws=>
  show ob _ _=_;rw[`bz (`OC "end" `dj),Ym0 p S [] w ws h `dj];simp
def W90(p:`f):∀(w:`aS) (S:RS) (n:Nat),`dU=w->`ik<n->w.count `dj<=`hT->xw0 ET EB n `gU=`ac `bhp:=by
 intro w
 intro S
 intro z2;induction z2 generalizing w S with
 | zero=>intro _ h _;exact `K h `ah4
 | succ n iq=>
  intro hw hn hc
  delta xw0;rw[wf1];cases w with
  | nil=>
   have e:`nr=S:=by
    skip;apply `bhq;have:w=[]:=hw;subst this;done;rfl
   rw[hw,e];rfl
  | cons v ws=>
   rw[hw]
   by_cases hv:v=`dj
   ·subst hv
    rw[`bz (`an ((`ahC).head?=`c `acD)=`d)];cases hu:`cE with
    | nil=>
     rw[hu,`bhr] at hc;simp at hc
    | cons k u=>
     have hb:EB `gU=`ac [`gs `avR]:=
      `un (Tu0 p S [] (`avS)) (Bs0 p `AF [] k u hu)
     apply `aM hb;have ih:=iq ws `avR (by show `nT=ws;rw[hw];rfl) (by simp at hn;omega) (by
      rw[hu,`bhr] at hc;show _<=`aI6;simp at hc;exact hc)
     rw[ih];have e:(`rD `avR)=`nr:=by
      skip;let#[c,b,u',nm,w,dg,l,sp]:=S;have h1:w=`i':=hw;have h2:u'=k::u:=hu;subst h1 h2;done;rfl
     rw[e]
   ·have e:`nr=S:=by
     skip;apply `bhq;have:w=v::ws:=hw;subst this;done;cases v<;>first|rfl|exact `bhs
    rw[`bZ `Tk,e]
def R10(S:RS)(hl:`AI)(hc:`nW):ul0 `cc []=`JO `nr:=(
 Le0 rfl λp=>#[`bhp,show qn0 `gU=_ from `hL (W90 p `dU S 100000 rfl hl hc) rfl,rfl])
def s20{f:`bX}{gA:GA}{p:`f}{S:RS}{δ:Ds}{r:D}(hA:gA `b!=`or)(hf:`Zc=`m6):wa0 0 `bv W7 gA f `b!=`c (r,`tj::δ):=by
 have h:`ajy:=`eY
 delta wa0;show `bht;rw[`bM,hA,`s];show `qQ `Zc;rw[hf];rfl
def qr0(S:RS)(kd:Nat):RS:={ S with begun:=`R8,un:=`bhu }
def ah0(S:RS)(kd:Nat):∀k,`AE->xq0 `th k=`QK:=(λk hk=>by
 delta xq0;show `bhv k;rw[`cU,`h' hk,← `cU])
def Nu0(S:RS)(kd:Nat):xq0 `th `dD=`Zd:=by
 delta xq0;show `bhv `dD;rw[`cU,`xA,`pC];rfl
def Rl0(S:RS)(kd:Nat)(hu:∀k∈`cE,`AE):`bhw=`mT::`m (`wK++[`Zd])::`m (`pJ++[`Zd])::`bhx:=by
 show `mT::`s' (`bc (`o `R8)) (xq0 `th)::`m ((`bhu).reverse.map (xq0 `th))::`eo::`eo::(`R8).map (`aI5)=_;rw[`S,`e3,`as1,`au,`JR,`eP,`au,`JR,`au,Nu0,
  `bhy (g:=`L6) (λk hk=>ah0 S kd k (`H!)),`bhy (g:=`L6) (l:=S.un.reverse) (λk hk=>ah0 S kd k (hu k (Y3.mp hk)))]
 rfl
def Hx0(p:`f)(S:RS)(kd:Nat)(s2 s3:Sl)(hu:∀k∈`cE,`AE)(h1:`dD<=1000)(h2:`Ze):
  kg0 0 3 `Z `rP `jG `avT=`ac [`gs `th,`vJ,s2,.un]:=by
 skip;apply `uy
 obtain⟨dp,M⟩:∃dp:D,dp=`Zd:=`al;have O:(`o `LE)=`dD+5:=by
  show (`o `ady)+5=_;rw[`x]
 obtain⟨L,hL⟩:∃L:`i->`i->`i,L=λb u=>`mT::`m b::`m u::`bhx:=`al
 obtain⟨N0,J⟩:∃N0:`i->`i->D,N0=λb u=>`t (`op::L b u):=`al
 have dN:`JS (dpN 0 `JT=`c (L b u)):=λb u δ=>`avU
 have a0:(nh0 0 `q3 `avT).set 3 .un=[`oC (N0 (`wK) (`pJ)),`vJ,s2,.un]:=`eO J hL
 have fb:`JS (yg0 0 `bv `kf `K_ `JT=`bha):=`bhz
 have fu:`JS (yg0 0 `bv `uQ `K_ `JT=`bhb):=`bhz
 have a1:`JS (`bhA->mx0 0 `rP dp `JT=`c (`oC (N0 (b++[dp]) u)::δ)):=λb u δ hb=>by
  delta mx0;rw[fb,`s,dN,`s,sn0,`s,hL];show (`bL `bhA (`oS 0 1 (`m (b++[dp])) _))=_;rw[`l_,J,hL];rfl
 have a2:`JS (`bhB->mx0 0 `jG dp `JT=`c (`oC (N0 b (u++[dp]))::δ)):=λb u δ hb=>by
  delta mx0;rw[fu,`s,dN,`s,sn0,`s,hL];show (`bL `bhB (`oS 0 2 (`m (u++[dp])) _))=_;rw[`l_,J,hL];rfl
 done;delta kg0;rw[`bz (gv 1 `avT=`c (`om)),`s,t50,`s,`I (`bz (`cV (`bH (`u0 kd))=`d)),O,← M,a0,a1 _ _ _ (`hg `x `d?),`s,a2 _ _ _ (`bhC)];have e:N0 (`wK++[dp]) (`pJ++[dp])=R `th:=by
  rw[J,hL,M];show `cb _=`t (`op::`bhw);rw[Rl0 S kd hu]
 rw[e];rfl
def wd(w:`aS):`i:=w.map `aCD
def Km0(w:`aS):∀n:Nat,(`d2 n (wd w))=`bhD:=by
 intro z;induction z with
 | zero=>exact rfl
 | succ n ih=>rw[`ex,`jV,ih,`ex,`jV];delta wd;rw[`au]
def Yz0(w:`bY):∀n:Nat,(`d2 n [w])=`cr n w:=by
 intro z;induction z with
 | zero=>exact rfl
 | succ n ih=>rw[`ex,`jV,ih,`ex];rfl
def am0(w:`aS)(hw:w≠[])(hl:`ik<=2)(n:Nat)(hn:`Yy):`ly (`m (wd w)) `Bj=`dN `bhD:=by
 show `j5 (wd w≠[]/\0<=`bm/\`bd1/\`avV*`auA<=`s3) `vH (`d2 `auA (wd w));have h1:wd w≠[]:=by delta wd;simpa using hw
 have h2:`avV<=2:=by delta wd;rw[`x];exact hl
 have h3:`avV*n<=2*100:=`bd0 h2 hn;rw[`I #[h1,`U,`U,`d1 `cF],`cF,Km0]
def mr0(kd:Nat)(hk:kd<4)(n:Nat)(hn:`Yy):v90 `avW=`dN (wd (`pL)):=by
 apply `cq
 have c:`bhE `he:=`bhF
 apply `JU
 ·refine `nP;show `eu [`auG,`he]=_;apply `AJ;apply `l7;rw[`aho [`lc],`ahp [`lc],Yz0];rfl
 ·apply `cp `bhG (`AK `bhG) `g2;apply `AJ;apply `l7;rw[`aho [`eF],`ahp [`eF],Yz0];rfl
 ·apply `cp `avX (`AK `avX) (`AL `avX `g2);apply `AJ;apply `l7;rw[`bhH,`bhI];rfl
 ·apply `cp `Zf (`AK `Zf) (`AL `Zf (`AL `Zf `ec));rw[j4 (x:=`m (wd [.cls])) (y:=`m (wd `avz)) rfl (by
   rw[`bhH];exact `bhI)]
  apply `aM yf0;have hl:`avY=n*2:=`a_
  rw[`I (by delta wd;rw[`x,`x,hl];simp;lia)];rfl
def Bb0(kd:Nat)(hk:kd<4):pf0 [`om]=`c (`bhJ):=by
 apply `JU
 ·kernel_rfl
 ·kernel_rfl
 ·kernel_rfl
 ·kernel_rfl
def await(S:RS)(w:`aS):RS:={ S with wait:=w++`dU }
def Ho0(p:`f)(S:RS)(δ:Ds)(w:`bY)(hl:`AI):R9 (kn0 0 `km (gc `C4)) `b!=`nV `bhK:=by
 have z:`bhL:=`a5
 delta R9 kn0;apply `Za mn0 (`bz (gc `C4 (`tf::δ)=`avP));show `avZ (nrf `C4=`d/\`avG<`R) 4 `bhM;rw[`FB `bhC,ns0 p S `bhK]
 ·rfl
 ·show `Zg `bhM=`Zg (`m (`avL (w::`dU)))
  rw[`eP,`au];rfl
def G90(p:`f)(S:RS)(δ:Ds)(g:GE)(ws:`aS)(hg:`AG=`c (`m `ahq))(hl:`i9+`Fk<100000):R9 (U40 0 `km g) `b!=`nV `bhN:=by
 have z:`bhL:=`a5
 have hf:∀ws:`aS,`bhO:=λws=>by
  refine li0 ?_;delta flats wd;rw[`gT];intro d hd;rw[`bhP] at hd;let#[w,_,rfl]:=`gC;rfl
 delta R9 U40;apply `Za mn0 hg;show `avZ (`bhO/\`avG+(wd ws).reverse.length<=`R) 4 `bhQ;rw[`I #[hf ws,by delta wd;rw[`x,`es,`es,`x];lia],ns0 p S `bhN]
 ·rfl
 ·show `Zg `bhQ=`Zg (`m (`avL (ws++`dU)))
  rw[`YJ,`au];delta wd;rw[← `ug];rfl
def cy0(k:Nat):nrf (link k)=`d:=by
 delta link nrf;rw[`a?];refine#[?_,rfl];show (s30 `bg1).isNone=`d;show (`hu (("at" : Str) = "@") (`cS).toNat).isNone=`d;rw[`ap `bf];rfl
def cw0(S:RS)(d:D):(`L_ `jJ)=`dD:=by
 delta RS.hold;cases `cE with
 | nil=>rfl
 | cons k u=>exact `ux ..
def Yv0(S:RS)(d:D):(`jJ).un=`cE:=(rfl)
def qq0(S:RS)(d:D):(`jJ).wait=`nT:=(rfl)
def le0(S:RS)(kd:Nat)(n:Nat):RS:=`QL `bhR (`pL)
def gc0(kd n:Nat)(hn:n<=20):(`o `pL)<=50:=by
 have hl:`avY=n*2:=`a_
 match kd with
 | 0=>show `bhS;rw[`GZ];lia
 | 1=>show `bhS;rw[`GZ];lia
 | 2=>show `avY<=_;rw[hl];lia
 | k+3=>show (`o (Want.cls::`bhT))<=_;rw[`ae,hl];lia
def V40(S:RS)(ok:`ge)(hw:`qT)(hl:`av_)(hul:`Ze)(kd:Nat)(hk:kd<4)(n:Nat)(h1:`av0)(h2:`av1):tz0 `cc `avW=`bhU:=by
 have J:n<=20:=`bhV
 apply `gf [`bhW,`vJ,`he,.un]
 show qb0 `JV=_;have c1:ob `bbl `JV=`br:=by
  apply `dR;rw[`iv `fP `bhJ (`l5 `om (Bb0 kd hk))];show `cg ((`D (kd=0) (20:Int) 12)<`bm);rw[`bZ (by split at h1<;>split<;>lia)]
 have c2:ob `bbm `JV=`br:=by
  apply `dR;rw[`X `Y' `Ro `Zh];show `cg (`r_=60);rw[`ds]
 refine yv0 (δ':=`JV) (by
  rw[t30 (by delta wt0;rw[c1];exact c2)];rfl) ?_
 have hh:xv0 `cc [`aa5]=`JO `QM:=jz0 S ok hw _ (cy0 _);have ca:wa0 0 `bv W7 `bbn xv0 `JV=`c (`y,`bhX):=
  s20 (`O (w70 (`qO rfl `Zh) `Il) rfl) hh
 refine `Zi `bhX (wx0 (by delta R9;rw[ca];rfl));have O:=`bhY;have few:=`Oc;refine yv0 (Hx0 p `QM kd (`he) .un (λk M=>`k O (`DN k M)) `l hul) ?_;have tl:`bhZ<=10000:=by
  rw[qq0,`Fl];lia
 refine `hL (Ho0 p `aLz _ `dj (`bE (`bhZ<_))) ?_;refine yv0 (wx0 (G90 p `bhR _ _ (`pL) (by
  rw[d9 (ds:=[`m (wd (`pL))]) (`O (by
   rw[`aG `avW];exact mr0 kd hk n `l) rfl)]
  rfl) (by
  have:=`bh_;show (`o (`acD::(`CA).wait))+_<_;rw[`ae];lia))) ?_
 exact `aAC
def Rb0(n:Int):t90 [`gz]=`lU (o10 n):=by
 have c:ob `aiP `Av=`bs (n%2=1):=`ahn
 by_cases h:n%2=1
 ·refine `nP
  show `eu `Av=_;rw[`ma c `eU];delta o10;rw[`bM];exact `Zj
 ·apply `cp `Av (by show `eu `Av=_;rw[`jC c `fn];rfl) ?_
  delta o10;rw[`bV];exact `Zj
def Hs0(q:Nat)(hq:q<4):atC `C2 (`h (q:Int))=`c (`p (`u0 q)):=by
 rcases k4 hq with rfl|rfl|rfl|rfl
 ·kernel_rfl
 ·kernel_rfl
 ·kernel_rfl
 ·kernel_rfl
def Ly0(S:RS)(ok:`ge)(hw:`qT)(hl:`av_)(hul:`Ze)(kd:Nat)(hk:kd<4)(n:Nat)(h1:`av0)(h2:`av1):va0 `cc [`h `bh0]=`bhU:=by
 obtain⟨N,hN⟩:∃N:Int,N=`bh0:=`al;rw[← hN];apply `gf [`bhW,`ve,`BP]
 show `bh1;refine yv0 (δ':=`uz) (wx0 rfl) `Zk;rw[pc0 (by
  apply `dR;show `cg (N%4=3);rw[`qJ])]
 refine `DT (s20 (`O (d:=`om) ?_ (`ix `fP)) (V40 S ok hw hl hul kd hk n h1 h2))
 ·show atC _ (`h (N/4%4))=_
  rw[`aZ (N/4%4=(`ak kd))];exact Hs0 kd hk
 ·show `dd (N/4/4)
  rw[`aZ (N/4/4=`bm)]
def Oq0(S:RS)(ok:`ge)(ws:`aS)(hw:`av2)(N:Int)(d:D)(hn:`l1)
  (h:N%4=1/\d=`h (o10 (N/4))∨N%4=2/\N/4<`r_/\0<=N/\d=`bh2∨N=0/\`xU):va0 `cc [`K?]=`la (`jJ):=by
 have J:`qT:=`avS
 apply `gf `Zl
 show `bh1;have cm:∀j:Int,`Js `Yl (gc `NZ) `uz=`bs (N%4=j):=λj=>`ahn
 refine `Zi `uz (wx0 rfl);refine `Zi `uz (by apply `av3;rfl);refine yv0 (δ':=`uz) (by
  rw[t30 (`eO `aD0 (Ym0 p S _ `eF ws hw `vK))];rfl) ?_
 have hold:∀(gA:GA),gA `uz=`c [d]->z80 (`At gA) `ad `uz=`ac `Zl:=λgA hA=>by
  refine `JW `Zl rfl;delta R9;rw[s20 hA (jz0 S ok J d hn)];rfl
 refine `eQ `Zl `uA;skip;rcases h with⟨h1,rfl⟩|⟨h1,h2,h3,rfl⟩|⟨h1,rfl⟩
 ·done;rw[pc0 (by rw[cm,`Zm])]
  exact hold _ (`O (`l5 `Lt (Rb0 _)) rfl)
 ·done;apply `av3
  refine `eQ [`gs (`kd (`bh2)),`ve,`BP] rfl;rw[pc0 (by
   delta ws0;rw[cm,`Zm,`s,`a4];apply `dR;rw[`iv `Lt `Y' `Zh];show `cg (N/4<`r_);rw[`bn h2])]
  refine hold _ (`O (`Lo (`ix (`h (`ak `aI8))) `Il) rfl);rw[`X (`h (`r_ - 1)) `Lt (`ax (`X `Y' `dl `Zh))];show `dd (`r_ - 1 - N/4);congr 2;omega
 ·done;apply `av3
  apply `bh3;rw[t30 (by
   delta ws0;rw[cm,`RY];rfl)]
  apply `bh3;rw[pc0 (by
   apply `dR;show `cg (N=0);rw[`Zm])]
  exact hold _ `e'
def wx1{ga gb:GE}{δ:Ds}(h:`dO=`f4):`bh4=`f4:=`bh5
def xy1{ga gb:GE}{δ:Ds}(h:`dO=`ql):`bh4=`d4:=`bh5
def Pn0(S:RS)(w:`bY)(ws:`aS)(hw:`dS)(n:Int):tv0 `cc [`gz]=`c (`ig (`kH∨`bh6),R S):=by
 apply `gf `Zn
 show pt0 `Zn=_;refine `DT (q00 ?_);have c1:o2 `tC `Ru eqD `Zn=`c (`ig `kH):=by
  rw[`X `B6 (`p (`adz)) `bh7];show `cg (yt0 w=`adz);congr 2;exact `avQ
 have c2:o2 `bba `bbb leD `Zn=`c (`ig `bh6):=by
  rw[j4 (x:=`h (n*128)) (y:=`h 323) (`k (`X `gz `uN rfl) `ai_) `iV];rfl
 by_cases hv:`kH
 ·rw[wx1 (by rw[c1,`bn hv]),`bn (Or.inl hv)]
 ·rw[xy1 (`Gd c1 hv),c2]
  congr 2;exact `wd #[`u,λz=>z.resolve_left hv]
def Xs0(p:`f)(S:RS)(δ:Ds):plN `bbr `b!=`c (`RZ):=by
 delta plN;rw[I50];rfl
def Ja0(S:RS)(w:`bY)(ws:`aS)(hw:`dS)(b:Int)(hb:128<=b)(h0:`Zo≠0)(hg:`kH∨(`Zo)*128<=323):`av4=`la ((`Y? `Zo)):=by
 obtain⟨n,hn⟩:∃n,n=`Zo:=`al;rw[← hn] at h0 hg ⊢;apply `gf [`gs ((`Y? n)),`ed,`K6]
 show t80 `j6=_;refine yv0 (δ':=`ti) (wx0 (yr0 (d:=`gz) (by
  rw[`X (`h (`MY)) (`h (b%128)) `bh8,hn];rfl))) ?_
 refine yv0 (δ':=`ti) (by
  rw[t30 (by
   apply `dR;show `bh9;rw[`ds])]
  rfl) ?_
 refine `eQ `ti ?_
 ·have t1:`Zp `at3 `ti=`bh':=by
   delta DL.liftT;rw[show ob `ah9 `ti=`br from wd0 (by
    show `Kw `bdw;rw[`bZ h0])]
   rfl
  have t2:o50 `bbs `ti=`bh':=by
   delta o50 uc0;rw[s20 `e' (Pn0 S w ws hw n),`bn hg];rfl
  delta ifX orT;rw[t1,`s];apply `bh!;rw[`fm,t2];rfl
 ·refine `hL (bv0 p S _ `aL n rfl) `uA
def K60(S S':RS)(b:Int)(hb:0<=b/\b<128)(r:D)(h:va0 `cc [`Zq]=`m6):`av4=`m6:=by
 apply `gf [`tj,`ed,.sh (`Zq)]
 show t80 `j6=_;refine yv0 (δ':=[`c1,`ed,.sh (`Zq)]) (wx0 (yr0 (d:=`Zq) (by
  rw[j4 (x:=`h (`MY)) (y:=`ki) `bh8 (by
   show `dd (b%128);rw[Int.emod_eq_of_lt hb.1 hb.2])]
  rfl))) `Zk
 rw[pc0 (by
  apply `dR;show `bh9;rw[`bn hb.2])]
 apply `Zr
def ex0(S:RS)(w:`bY)(ws:`aS)(hw:`dS)(b:Int)(p:`f)(G:GSB)(r:`It)(h:G `Zs=r):
  z80 (ifX `Yp (z80 `hK `ad) `ad) (z80 `bbP G) `j6=r:=by
 refine `eQ `j6 (`hL (yr0 `bh7) h);have t:uc0 `aB6 `j6=`c (`q,`j6):=by
  delta uc0;rw[`bh?,hw];rfl
 delta ifX;rw[t];rfl
def mj0(w v:`bY)(s0 s1:Sl):`Js `aL `bhl [s0,s1,`acb]=`bs (w=v):=by
 apply `dR;apply `bhm;congr 2;exact `avQ
def e80(S S':RS)(w:`bY)(ws:`aS)(hw:`dS)(hv:`JX)(b:Int)(r:D)(h:`av4=`m6):`av5:=by
 apply `bia
 show sw0 `j6=_;refine `av6 w `Zk;rw[pc0 (by
  delta wt0;apply `av7;apply `av8)]
 apply `Zr
def Rg0(S S':RS)(ws:`aS)(hw:`dU=`lc::ws)(b:Int)(r:D)(h:ud0 `cc `pc=`m6):`av5:=by
 apply `gf [`tj,`ed,`bib]
 show sw0 `j6=_;refine `av6 `lc (`eQ [`c1,`ed,`bib] `Zk)
 ·rw[t30 (by
   delta wt0;apply `av7;rfl)]
  rfl
 ·rw[pc0 (by apply `bic;rfl)]
  apply `Zr
def fz0(p:`f)(S:RS)(δ:Ds):plN `aJ' `b!=`c (`JN):=by
 delta plN;rw[G30];rfl
def Fh0(p:`f)(S:RS)(δ:Ds):ob `bbQ `b!=`bs (0<`hk):=by
 apply `dR;rw[`X `JN `b' `av9];show `cg (`f5<`abr);congr 2;exact `Zb
def m30(S S':RS)(w:`bY)(ws:`aS)(hw:`dS)(hv:`JY)(b:Int)(r:D)
  (h:0<`hk/\ve0 `cc `pc=`m6∨`Zt/\wm0 `cc `pc=`m6):`av5:=by
 apply `bia
 show sw0 `j6=_;refine `av6 w (`eQ `Zs (`eQ `Zs ?_))
 ·rw[t30 (by
   delta wt0;apply `av7;apply `av8)]
  rfl
 ·rw[t30 (by apply `bic;apply `av8)]
  rfl
 ·rcases h with⟨h0,h⟩|⟨h0,h⟩
  ·refine `aca
   rw[pc0 (by rw[Fh0,`bn h0])];apply `Zr
  ·refine `eQ `Zs (`aB?)
   rw[t30 (`eO Fh0 h0)];rfl
def Ez0(b:Int)(h:`Zu):qs0 `pc=`f4:=by
 have w:p40 `pc=`f4:=rfl;refine `iN;show js0 `at6 `bbR [`ed]=_;delta js0;rw[show ob `at6 [`ed]=`eN from wd0 w,`s,`a4];have e1:leD `q2 `uL=`f4:=`pW (`cg (0<=b)) (`bn h.1)
 have e2:leD `uL `RH=`f4:=`pW (`cg (`MZ)) (`bn h.2)
 delta iy0;simp only[`bz (gc `q2 [`ed]=`c `q2),`bz (gv 0 `bid=`c `uL),`bz (gc `RH `bid=`c `RH),`s,e1,e2];rfl
def next(S:RS):RS:=`rD `Zv
def Th(S:RS):Prop:=∀q∈`dG,`av'
inductive Runs:RS->`ai->RS->Prop
 | nil (S:RS):`d0 S [] S
 | cons {S S1 S':RS} {b:Int} {r:`ai} (hb:`Zu) (ht:`av!) (hl:`av?) (hc:`Zw) (hr:`d0 (next S1) r S') (th:Th S1) (hk:`bie):`d0 S (b::r) S'
def Runs.app{S S2:RS}{l r:`ai}(h:`d0 S l S1)(h':`d0 S1 r S2):`d0 S (l++r) S2:=by
 induction h with
 | nil=>exact h'
 | cons hb ht hl hc _ th hk ih=>exact `aE hb ht hl hc (ih h') th hk
def Mx0(p:`f)(S:RS)(δ:Ds):Un0 0 `bv `yh `dz `b!=`nV `Zv:=`eY
def GBy:GSB:=z80 (ifX (orT (`Zp `at7) `bbS)
 (z80 (xl0 re0)
 `ad)
 `ad)
 (z80 `bbT
 (z80 `bbU
 `ad))
def Yu0(p:`f)(S S1:RS)(b:Int)(s1:Sl)(hb:`Zu)(ht:`av!)(hl:`av?)(hc:`Zw):
  GBy `AM=`ac `bif:=by
 refine `eQ `big (`hL (Mx0 p S1 _) (`JW `bif rfl))
 ·have t1:`Zp `at7 `AM=`c (`q,`AM):=by
   delta DL.liftT ta0;rw[show ob `aMB `AM=`eN from wd0 (`k (`aG `pc) (Ez0 b hb))];rfl
  have t2:o50 `aK6 `AM=`c (`q,`big):=by
   delta o50 uc0;rw[s20 `e' ht];rfl
  delta ifX orT;rw[t1,`s];apply `bh!;rw[`fm,t2];rfl
 ·delta R9
  rw[s20 (S:=`bih) (ds:=[]) rfl (R10 `bih hl hc)];rfl
open T in
def Ki0(p:`f)(s1:Sl){S:RS}{l:`ai}(h:`bii):∀s2,∃s2',hf0 `bp GBy `vy `bij=`ac [`tj,s1,s2']:=by
 induction h with
 | nil S=>exact λs2=>`bik
 | cons hb ht hl hc _ _ _ ih=>
  rename_i S S1 S' b r _ _ _;intro s2;let#[s2',e]:=ih (`ed);refine#[s2',?_];rw[`J];delta hf0;rw[`bz (gN 2 `uL `bij=`c `AM),`s,Yu0 p S S1 b s1 hb ht hl hc];exact e
def Dh0{S:RS}{l:`ai}(h:`bii):pl0 `cc [`m `vy]=`JO S':=by
 refine bw0 rfl λp=>`u `R6
 let#[J,e]:=Ki0 p (`Fh) h .un;refine#[`bil,?_,rfl];show l40 `bim=_;refine `eQ `bil rfl;show Tf0 `qI `bp GBy _=_;delta Tf0;rw[`bz (vs0 `Z `bim=`c `vy),`s];exact e
def SB:GS:=v7 (ifD `Yn
 (v7 `Yo
 u6)
 u6)
 u6
theorem X80(b:Nat)(s1:Sl):∀(l:`j) (s2:Sl),(b∈l->`bin=`Fz (`Lu))/\(b∉l->∃s2',`bin=`ac [`ks,s1,s2'])
 | [],s2=>#[(λh=>by cases h),λ_=>`bik]
 | c::l,s2=>by
  let#[i1,i2]:=X80 b s1 l (`LZ);have cc:ob `ab9 `JZ=`bs (c=b):=by
   apply `dR;rw[`X `Ct `iX rfl];show `cg (`vt=`iY);congr 2;exact `Zb
  by_cases h:c=b
  ·subst h
   refine#[`Ic,λn=>`K A8 n];rw[`J];delta w90;have e:SB [`LX,s1,`LZ]=`Fz (`aby):=by
    refine W5 ?_;rw[`ma cc `yb];exact `Zj
   show `bio [`LX,s1,`LZ];rw[e]
  ·have e:SB `JZ=`ac `JZ:=by
    refine `atw;rw[`jC cc `fn];rfl
   have st:`xL ((c::l).map `aBm) `aI!=`xL `QN `JZ:=by
    rw[`J]
    apply `Ub
    show `bio `JZ;rw[e]
   rw[st];exact#[λhm=>i1 (`bav (λz=>h `i!)),λhn=>i2 λz=>hn `z']
def bm0(b:Nat)(s:Str)(l:`j)(hs:`e6=l)(hl:`aC<=100):vk0 [`iX,`dh]=`c (`D (b∈l) `Lu `y):=by
 have it:∀δ:Ds,fi0 `Z (`ks::`wa::δ)=`c `QN:=fun δ=>by
  show `c (`y' s)=_;delta signs;rw[hs];rfl
 let#[i1,i2]:=X80 b (`wa) l .un
 by_cases h:b∈l
 ·rw[`bM]
  exact `eA (W5 (v40 (it _) (i1 h)))
 ·rw[`bV]
  let#[J,e]:=i2 h;exact `um (v40 (it _) e) (`Zj)
def M70:(`Ec: Str).cps.toList=mp0:=`aU
def Kr0:(`vZ: Str).cps.toList=v30:=`aU
def Vb0(S:RS)(ok:`ge)(hw:`qT)(b:Nat)(hb:b∈mp0):ud0 `cc [`iX]=`la (`QO):=by
 apply `gf `bip
 show qc0 `AN=_;refine yv0 (δ':=`AO) (wx0 (yr0 (by
  rw[`aG [`iX,`aMA],bm0 b _ _ M70 `E,`l_]))) ?_
 refine `Zi `AO (`ax (t30 `iV));refine `JW `bip `uA;delta R9;rw[s20 `e' (jz0 S ok hw (`abL) rfl)];rfl
open DL W Rm StrLaws
def starts_pre(a b:`j):`aib (`bR a) (`bR b)=`awa:=by
 delta Txt.startswith;rw[subAt_eq,lo0,lo0,sg0,sg0,`b4,`biq]
 by_cases h:b <+: a
 ·rw[List.isPrefixOf_iff_prefix.mpr h]
  have:=h.length_le;rw[`bn `w,List.prefix_iff_eq_take.mp h];simp
 ·have hf:`awa=`q:=by
   cases q:`awa with
   | false=>rfl
   | true=>exact `K (Bl1.mp q) h
  rw[hf,Bool.and_eq_false_iff]
  by_cases hl:`N_<=`DG
  ·right
   rw[beq_eq_false_iff_ne];intro z;exact h (z▸List.take_prefix _ _)
  ·left
   exact T0 hl
def Ie0{f:`aR}{G:GS}{d:D}{δ δ2:Ds}(h1:`T?)(h2:`anm):`aVR:=by
 apply `Ub
 rw[h1,`s,h2]
def LB:GS:=v7 `bbt
 u6
theorem We0(s0 s1 s2:Sl):∀(k:Nat) (m:Nat) (s4:Sl),∃s4',w90 `hj LB ((`xN m k).map λ(j:Nat)=>`de `bN) [s0,s1,s2,`aD2,s4]=`ac [s0,s1,s2,`Ju (36 ^ (m+k)),s4']
 | 0,m,s4=>#[s4,rfl]
 | k+1,m,s4=>by
  let#[s4',e]:=We0 s0 s1 s2 k (m+1) (`g9);refine#[s4',?_];rw[`xK,`J];have J:oA `RU xh0 `awb=`c (`h 36):=`eY
  have hb:LB `awb=`ac [s0,s1,s2,.sh (`bir),`g9]:=by
   refine `gd `bir rfl;rw[`iv `aKI (`h 36) J,`ai_,`bis];simp
  rw[Ie0 (δ1:=`awb) rfl hb,`aZ (m+`fZ=m+1+k)];exact e
def Ol0(names:`l6)(hn:names.length<=100)(hl:∀n∈`qi,`nX)(L:Nat)(pre:`j)(hp:`dI<=L)(hL:L<=100):sf0 [`m (`N'),`rh,`B8]=`t1 (left `qi L pre):=by
 apply `cq
 let#[J,e]:=We0 (`awc) (`rt) (`DM) (`adA) 0 .un;rw[`b4] at e;apply `cp [`awc,`rt,`DM,`Ju (36 ^ 0),.un] rfl (p6 (δ':=[`awc,`rt,`DM,`fN `awd,J]) (v40 (items:=u00 0 (`awe)) (i30 (`ix (`h (`awe))) `l `l) ?_) `ec)
 ·rw[j4 (x:=`rh) (y:=`h `aD3) rfl (by
   rw[`aG [`B8]];show `j5 (`bit<=`R) `de (`bit:Int);rw[sg0,`Yc])]
  rfl
 ·rw[← e]
  delta u00;rw[`aZ ((`awe - 0).toNat=`adA),`au6];congr 1;refine `biu
  rw[`VZ]
 ·have c:=r00 (f:=gN 0) (gt:=`bbu) (ge:=gv 0) (δ:=[.un,`rt,`DM]) (`biv) (`WR) (items:=`N') (λd hd=>by
   let#[n,M,rfl]:=`gC;have Y:=hl n M;refine#[`awf,rfl,?_,`lv];show ws0 _ _ _=`c (`an ((`vQ).cps.toList.length=L)&&`adC (`vQ).cps.toList);rw[lo0];delta ws0;have t1:ob `aIx `awf=`c (`awg):=by
    apply `dR;rw[j4 (x:=`h `biw) (y:=`rh) (by
     rw[`aG [`adB]];show `j5 (`bix<=`R) `de (`bix:Int);rw[sg0,`Yc]) rfl]
    show `cg (`biw=`u');congr 2;exact `Zx
   have t2:ob `aIy `awf=`c (`ad7):=by
    apply `dR;show `Kw (`aib (`vQ) (`aa4));rw[starts_pre]
   rw[t1,`s,t2];cases `awg<;>rfl)
  obtain⟨F,hF⟩:∃F:`i,F=((`Mb `LI).filter `biv):=`al;have O:`aJa=(`o (`aEz λn=>`awg&&`ad7)):=by
   rw[hF,`X1,`x];congr 1
  rw[j4 (x:=`h `biy) (y:=`h `awd) (by
   rw[`cC [`m F] (`gK `N' `em (by rw[hF];refine c.trans ?_;rw[List.map_id']))];rfl) rfl]
  show `cg (`biy<`awd);delta left;congr 2;rw[O];exact `Zx
def sub_len'[`JC]:`agF `aV:=by
 intro z;induction z with
 | nil=>intro _ _ _;exact `bP
 | cons a l iq=>
  intro m hn h
  rw[`zW] at hn;have ha:=`XD;have ih:=iq (m:=m.erase a) hn.2 λb hb=>by
   have J:`ps:=λz=>hn.1 (z▸hb)
   exact(List.mem_erase_of_ne J).mpr (h b (`DE))
  rw[List.length_erase_of_mem ha] at ih;have:=List.length_pos_of_mem ha;rw[`ae];lia
def words(A:`j):Nat->`l6
 | 0=>[[]]
 | k+1=>A.flatMap λc=>`biz
theorem W30(A:`j):∀k,(`o `ahu)=`biA
 | 0=>rfl
 | k+1=>by
  delta words;rw[List.length_flatMap];have:(A.map λc=>(`o `biz))=A.map λ_=>`biA:=D7 λc _=>by rw[`x,W30 A k]
  rw[`w,List.map_const',List.sum_replicate_nat,`bis,`H8]
def e30(A:`j):∀(k:Nat) (w:`j),`ik=k->(∀c∈w,c∈A)->w∈`ahu:=by
 intro z;induction z with
 | zero=>intro w h _;rw[List.eq_nil_of_length_eq_zero h];exact A8
 | succ k ih=>
  intro z1;cases z1 with
  | nil=>intro h _;cases h
  | cons c w=>intro h hA;exact i5.mpr #[c,hA c A8,`jq w (ih w `fX (`Ar hA))]
def Ng0:v30.length=36:=`a5
def Wn0(names:`l6)(hnd:names.Nodup)(hA:∀n∈`qi,∀c∈n,`qU)(w:`j)(hw:∀c∈w,`qU)(hn:w∉`qi)(pre:`j)(hp:pre <+: w):left `qi `ik pre=`d:=by
 delta left;refine E9 ?_;have key:(`o ((`awh).map (·.drop `dI)))<=(`o (words v30 (`ik - `dI))):=by
  refine `awi ?_ `asa
  ·refine `biB
   have nd:(`awh).Nodup:=`acH #[λz=>hn `biC,hnd.filter _];refine a30 ?_ (Q2.mp nd);intro a b ha hb J e;have pf:∀x∈(`awh),pre <+: x:=λx hx=>by
    apply `y4
    ·exact hp
    ·have:=(`pK hx).2
     apply `ay `a?;exact Bl1.mp this.2
   let#[a',rfl]:=pf a ha;let#[b',rfl]:=pf b hb;simp only[`J_] at e;exact J `LU
  ·let#[x,hx,rfl]:=`c2 ha
   apply `y4
   ·exact e30 _ _ _ (by rw[`pV]) λc hc=>hw c (a40 hc)
   ·let#[h1,h2]:=`pK hx
    rw[`a?,`VK] at h2;exact e30 _ _ _ (by rw[`pV,h2.1]) λc hc=>hA x h1 c (a40 hc)
 rw[W30,Ng0,`x,`ae] at key;lia
def Oi0(names:`l6):`mB (`Mb `LI)=`d:=by
 delta flats;rw[`gT];intro d hd;apply `atn;rfl
def Qm0(p:`f)(S:RS)(δ:Ds)(gA:GA)(L:Nat)(pre:`j)(hA:gA `b!=`c `biD)(hn:`F4)(hl:∀n∈`cn,`nX)(hp:`dI<=L)(hL:L<=100):
  ob (`ajk gA) `b!=`c (left `cn L pre):=by
 apply `dR;delta fnN;rw[dg0,`s,hA,`s,t50,`s,Hi0 (sn0 3)];show (`zY (`mB (`Ff)=`d/\`mB `biD=`d) ((sf0 [`m (`Ff),`rh,`B8]).bind (`a8t)))=_;rw[`I #[Oi0 _,rfl],Ol0 `cn hn hl L pre hp hL];rfl
def aq0(p:`f)(S:RS)(δ:Ds)(g:GE)(n:Nat)(hg:`AG=`atG):`avM `h6=`nV ((`adH n)):=by
 delta pb0;rw[hg,`s];kernel_rfl
def c90(p:`f)(S:RS)(δ:Ds)(g:GE)(l:`j)(hg:`AG=`c (`Y7)):`avM `pT=`nV ((`Na S l)):=by
 delta pb0;rw[hg,`s];kernel_rfl
def Pj0(S:RS)(hn:`awj)(hl:∀n∈`cn,`nX)(L:Nat)(h1:1<=L)(h8:L<=8)(hleft:left `cn L []=`d):wm0 `cc [`h `biE]=`c (`n',`biF):=by
 obtain⟨b,hb⟩:∃b:Int,b=`biE:=`al;have J:b/2=`u':=`U
 rw[← hb];apply `gf [`oC (`biF),`ed,`rt]
 show vy0 `j6=_;refine yv0 (δ':=`j6) (by
  rw[t30 (by
   apply `dR;show `cg (b%2=0);rw[`ds])]
  rfl) ?_
 refine yv0 (δ':=`AP) (wx0 (yr0 (d:=`rh) (by
  show `dd (b/2);rw[J]))) ?_
 refine yv0 (δ':=`AP) (by
  rw[t30 (by
   have t1:ob `ah9 `AP=`br:=wd0 (by
    show `cg (`u'=0);rw[`ds])
   have t2:ob `bbN `AP=`br:=wd0 (by
    show `cg ((8:Int)<`u');rw[`ds])
   have t3:ob `bbO `AP=`br:=wd0 (by
    rw[`X `Y! `Ro `awk];show `cg (`C_=60);rw[`ds])
   delta wt0;rw[t1,`s,`fm,t2,`s,`fm,t3])]
  rfl) ?_
 refine yv0 (δ':=`AP) (by
  rw[t30 (by
   delta ta0;rw[Qm0 p S _ _ L [] `E6 `l hl `s2 `l,hleft];rfl)]
  rfl) ?_
 exact `hL (aq0 p S _ `aL L rfl) `uA
def la0(p:`f)(S:RS)(δ:Ds):plN `aAY `b!=`c (`tk):=by
 delta plN;rw[Ko0];rfl
def Kg0(p:`f)(S:RS)(δ:Ds)(hl:`avI):R9 (kn0 0 `sd `Eb) `b!=`nV `biG:=by
 apply `uy
 delta R9 kn0;apply `Za dg0 la0;show `avZ (nrf (`tk)=`d/\`bhc<`R) 3 `biH;rw[`FB `aAe,ns0 p S `biG]
 ·rfl
 ·show `mT::`eo::`eo::`biH::_=`mT::`eo::`eo::`s' `aJb `LI::_
  rw[`au];rfl
def an0(S:RS)(b:Nat)(hb:`Zy)(hn:`F4)(hl:∀n∈`cn,`nX)(hs:`xT<`hk)(hL:`awl)(hleft:`awm)(p:`f)(G:GSB)(r:`It)
  (h:G `awn=r):
  (z80 `bbx
 (z80 (ifB `bby
 (z80 `hK
 `ad)
 `ad)
 (z80 `bbz G))) `AN=r:=by
 apply `uy
 have sp:o2 `Eb `aL yf0 `AO=`c (`p (`bR `wL)):=by
  rw[`X `tk `Lu `biI];exact Gw.wz1 _ _ `asW
 refine yv0 (δ':=`AO) (wx0 (yr0 (by
  rw[`aG [`iX,`p `vZ],bm0 b _ _ Kr0 `E,`l_]))) ?_
 refine yv0 (δ':=`AO) (by
  rw[t30 (by
   delta wt0;rw[`Oa (ob `aKC `AO=`br),`s,`fm];delta ta0;rw[Qm0 p S _ _ `hk `wL (`qO `av9 sp) hn hl (`aqn) `l,hleft];rfl)]
  rfl) ?_
 exact `hL (c90 p S _ _ `wL sp) h
def L30(p:`f)(S:RS)(δ:Ds)(hs:`xT<=8):ob `bbA `b!=`bs (`xT=`hk):=by
 apply `uy
 apply `dR;rw[j4 (x:=`h `biJ) (y:=`JN) (by
  rw[`cC [`tk] `biI];show `j5 (`biK<=`R) `de (`biK:Int);rw[sg0,`Yc]) `av9]
 show `cg (`biJ=`abr);congr 2;exact `Zx
def Mf0(S:RS)(b:Nat)(hb:`Zy)(hn:`F4)(hl:∀n∈`cn,`nX)(hs:`xT+1<`hk)(hL:`awl)(hleft:`awm):
  `biL=`la `adD:=by
 apply `gf `awn
 show uu0 `AN=_;refine `biM (`eQ `awn `uA);rw[t30 (by
  rw[L30 p `adD _ (`Zz `biN 8),`bZ];show ¬`biN=`hk;apply `r0;lia)]
 rfl
def named(S:RS)(w:`j):RS:={ (((`QS `abt):RS).hold `awo) with length:=0,spelled:=[] }
def N00(S:RS)(ok:`ge)(hw:`qT)(b:Nat)(hb:`Zy)(hn:`F4)(hl:∀n∈`cn,`nX)(hs:`xT+1=`hk)(hL:`awl)(hleft:`awm):
  `biL=`la (`va S `wL):=by
 obtain⟨w,J⟩:∃w,w=`Lc:=`al;have wl:`ik=`hk:=by rw[J,`S,`e3];exact hs
 apply `gf `biO
 show uu0 `AN=_;refine `biM (`eQ `biO `uA);rw[← J];rw[pc0 (by
  rw[L30 p `biP _ (`bE (`ik<=8)),`bn];exact wl)]
 refine `hL (Kg0 p `biP _ (`bE `avI)) ?_;have M:Ok `J0:=#[`DN,`Oc,`adG,ok.wait,`Zz (`o `abt) 1000];refine `JW (`N! ((`J0:RS).hold `awo)) ?_
 ·delta R9
  rw[s20 (S:=`J0) (`O (la0 p `J0 _) rfl) (jz0 `J0 M hw `awo rfl)];rfl
 ·refine `hL (aq0 p _ _ `cT 0 rfl) (`hL (c90 p _ _ `yg [] rfl) ?_)
  rfl
def P10:(∀n∈`bc 40,`ar1 `awp `awp `awp=(`bc (`lm/2)).map (2*·)) /\
  ∀n∈`bc 40,`ar1 `awq `awq `awq=(`bc (n/2)).map (2*·+1):=`aU
def Ys0(xs:`aV)(d:α):∀l:`j,(∀i∈l,`y0)->`ar3=`aH (`Uc · d):=by
 intro z;induction z with
 | nil=>intro _;exact rfl
 | cons i l ih=>
  intro h
  have hi:=h i A8;rw[`IL (C9 hi),ih λj hj=>h j (A7 _ hj),`J];simp[`cU,hi]
theorem h90:∀xs:`i,`F3=(`bc (`aB/2)).map λj=>(`Uc (2*j) `y,`Uc (2*j+1) `y)
 | []=>rfl
 | [a]=>by delta pairsOf;simp
 | `avA=>by
  show `avB=_;rw[h90 r,`ae,`ae,`aZ ((`a2+1+1)/2=`a2/2+1),`VL,`J,`M];rfl
open A
def I40(xs:`i)(h:`aB<40):`biQ=`F3:=by
 delta vu0;rw[P10.1 _ (`kr h),P10.2 _ (`kr h),Ys0 xs `y _ (λi hi=>by
  apply `biR;have:=`x1;show 2*j<_;lia),Ys0 xs `y _ (λi hi=>by
  apply `biR;have:=`x1;show 2*j+1<_;lia),h90]
 refine i6 `m3 `a0H
 simp
def fd0(xs:`i)(h:`aB<40):u70 [`dx]=`c `biS:=by
 refine `iN;rw[d9 (ds:=[`m (`aJc),`m `aJd]) `E6];show `J1 ((`biQ).map `a1K)=_;rw[I40 xs h]
def Fits(kd:Nat)(held:`i):Prop:=`aux<=30/\(kd=0->∀d∈`b5,`biT)/\(kd=3->`b5≠[])
theorem gu0:∀l:`j,`awr=l
 | []=>rfl
 | c::l=>by
  show (`bR [c]).cps.toList++`awr=_;rw[gu0 l,lo0];rfl
def fr0(kd:Nat)(hk:kd<4)(held:`i)(h:Fits kd `b5):wk0 [`om,`Nb]=`c (`biU):=by
 apply `uy
 let#[hl,h0,h3]:=h;have c:`bhE `adF:=`bhF
 match kd,hk,h0,h3 with
 | 0,_,h0,_=>
  obtain⟨l,rfl⟩:∃l:`j,`b5=`wM:=by
   have:∀held:`i,(∀d∈`b5,`biT)->∃l:`j,`b5=`wM:=by
    intro held
    induction `b5 with
    | nil=>exact λ_=>`bdm
    | cons d ds ih=>
     intro hd;let#[c,rfl]:=hd d A8;let#[l,rfl]:=ih `aws
     exact#[c::l,rfl]
   exact `w `b5 (h0 rfl)
  refine `nP;show `eu [`auG,`ow (`wM)]=_;apply `AJ;refine `Yv (`ix `Y7) |>.trans ?_
  ·have hp:l=`bg?:=(Bt.X60 l).symm
   rw[`x] at hl
   conv=>rhs;rw[hp]
   refine Bt.Ii0 [] `aI1 1 rfl ?_ (λq hq=>by let#[c,_,rfl]:=`awt;exact `fA) `m3;show `IU (`wM);rw[`M];rfl
  ·show `c (Res.rt (`cb [`sx,`Y7]))=`c (Res.rt (`cb [`sx,xp0 (`awr)]))
   rw[gu0];rfl
 | 1,_,_,_=>
  apply `cp `biV (`AK `biV) `g2;apply `AJ;exact `kZ (`a?Z)
 | 2,_,_,_=>
  apply `cp `awu (`AK `awu) (`AL `awu `g2);apply `AJ;exact `Yv (`O (`l5 `Nb (fd0 `b5 `l)) rfl)
 | 3,_,_,h3=>
  cases `b5 with
  | nil=>exact `K rfl (h3 rfl)
  | cons d ds=>
   apply `cp `ZA (`AK `ZA) (`AL `ZA (`AL `ZA `ec));refine w70 (`O rfl (`O (d:=d) (by
    show atI `m7 0=_;rw[q50 `E `S5 `y];rfl) (`ix (`tl (`h4 ds).map)))) `I9
   rw[d9 (ds:=`qo) (`O (by
    rw[Bt.Cc0 (d:=`aCa) (l:=`c `Lr) (h:=`g) rfl rfl rfl];show `IU (cutD `m7 (`c `Lr) `g);rw[Bt.y61];rfl) rfl)]
   exact fd0 ds `bdZ
def cg0(xs:`i):(`o `F3)<=`aB:=by
 rw[h90,`x,`d?];lia
def Xz0(X:D)(ps:`bg2)(hX:ixD X (`O_)=`c (`tl `c3))(hl:`bac):`IX `rW `gB [.sh X]=`dN `g?:=by
 apply `uy
 refine `ato (`c3 `aAx) ?_
 ·show `ut (o2 `Q `og ixD [.sh X])
  rw[`X X `O_ rfl,hX];rfl
 ·rw[u10 (`iK (`t [a,_]) a) (λd hd=>by
   apply `awv;exact`nM [.sh (`aJf)] rfl),`M]
  rfl
def my0(kd:Nat)(hk:kd<4)(held:`i)(h:`aux<=1000):xi0 [`biU]=`dN (vt0 `aJe):=by
 apply `JU
 ·refine `IV;rw[wr0 (by delta wt0;rw[`Oa (ob `aah (`yc (`ic (0,`b5)))=`eN)];rfl)];exact `biW
 ·refine `IV;rw[wr0 (`aww `biX `biX `eN)];exact `biW
 ·refine w50 rfl (p6 (δ':=[.sh (`awx)]) (by
   rw[yd0 (`aww (`yc `awx) (`yc `awx) `br)];rfl) `lC)
  exact Xz0 _ (`h4 `b5) (`adx [`mD] _) (C3 (cg0 _) h)
 ·refine w50 rfl (p6 (δ':=[.sh (`awy)]) (by
   rw[yd0 (`aww (`yc `awy) (`yc `awy) `br)];rfl) `lC)
  exact Xz0 _ (`biY) (`adx [`n9,`biZ] _) (C3 (cg0 _) (`Q2 `pV))
structure Held(q:`il):Prop where
 kd:q.1<4
 fits:`bi_
 tr:`av'
 nr:`bi0
 fl:`mB (`wn)=`d
def Mv0(S:RS)(k:Nat)(q:`il)(hq:`lb)(h:`Ob):`bi1:=by
 have e2:`bi2:=by
  show `avN;rw[`cH,hq];rfl
 have e1:`bi3:=by
  delta xq0;rw[`cU,hq];rfl
 rw[e1];delta pe0 vb0;simp only[rt0,`s,e2];rw[`I #[rfl,h.tr,h.nr]]
def V30(S:RS)(k:Nat)(u:`j)(hu:`im)(q:`il)(hq:`lb)(h:`Ob):ue0 `cc []=`c (`ahw,R S):=by
 apply `gf `awz
 show ty0 `awz=_;have e1:vz0 0 `jG `og `awz=`bhe:=by
  delta vz0;rw[kw0,`s,`aI2 [`tf,.un],`s,t50,`s];rw[`bhg];rw[hu,`eP,`au];exact `avK
 delta ty0 Vh0;rw[e1,`s,t50,`s,Mv0 S k q hq h,`s];have e3:oA `bbI xi0 ((`cr ([`tf,Sl.un]:Ds).length Sl.un).set 1 (`awA))=`c (`ahw):=by
  rw[d9 (ds:=[`ic q]) (`O (by
   rw[`bi4];exact fr0 q.1 h.kd q.2 h.fits) rfl)]
  exact my0 q.1 h.kd q.2 (`cX h.fits.1)
 rw[e3,`s];simp only[];rw[`I h.fl]
def Jk0(p:`f)(S:RS)(δ:Ds)(g:GE)(i:Nat)(nm:`j)(hg:`AG=`c (`tF))(hn:`cn[i]?=`c nm):plN (vz0 0 `sd g) `b!=`bi5:=by
 delta plN vz0;rw[dg0,`s,hg,`s,t50,`s,`ahl `Ff];have hi:=(`c9 hn).1;rw[`X7,`cF,`cU,`cH,hn];rfl
def Ij0(S:RS)(ok:`ge)(w:`bY)(ws:`aS)(hw:`dS)(b:Nat)(hb:b<`kx)(nm:`j)(hnm:`awB)
  (hin:`awC):u20 `cc [`iX]=`bi6:=by
 apply `gf `bi7
 show t60 `AN=_;refine yv0 (δ':=`AN) (by
  rw[t30 (by
   apply `dR;rw[`iv `iX `Y! `awk];show `cg (`C_<=`iY);rw[`RY])]
  rfl) ?_
 refine yv0 (δ':=`AQ) (wx0 (yr0 (Jk0 p S _ _ (`aD5) nm (by
  rw[`X (`h (`C_ - 1)) `iX (`ax (`X `Y! `dl `awk))];show `dd (`C_ - 1 - `iY);congr 2;omega) hnm))) ?_
 refine `eQ `AQ ?_
 ·have t1:`Zp `bbJ `AQ=`c (`an (`vL),`AQ):=by
   delta DL.liftT;rw[`bz (`OC `oA `rm),Ym0 p S _ w ws hw `rm];rfl
  delta ifX N80;rw[t1,`s]
  by_cases hwn:`vL
  ·skip;let#[k,u,q,hu,hq,hh,M]:=hin hwn
   have t2:uc0 `bbK `AQ=`c (`q,`AQ):=by
    delta uc0 S90;rw[`bz (gv 2 [`tf,`ks,`aa1]=`bi5),`s,`I (`bz `bi8),s20 (ds:=[]) rfl (V30 S k u hu q hq hh),`s];have e:`bi9=`ql:=by
     show `j5 (`bi8/\(`wn).all `cV=`d) `lG (xor `q (`bi'));rw[`FB hh.fl];congr 2;rw[`pv];cases ha:`bi' with
     | false=>rfl
     | true=>
      exfalso;let#[y,hy,he]:=List.any_eq_true.mp ha;have J:`cV y=`d:=`Xk hh.fl y hy;cases y with
      | str t=>
       have:t=`bR nm:=W1.mp he;rw[`w] at hy;exact M hy
      | non=>cases he
      | bl _=>cases he
      | int _=>cases he
      | tup _=>cases J
      | lst _=>cases J
      | dct _ _=>cases J
      | fn _ _=>cases J
    show `ut (`Bp _ (`bi9));rw[e];rfl
   done;rw[`bn hwn];show `ut (`D (`d=`d) (uc0 _ _) _);rw[`a4,t2];rfl
  ·rw[`bZ hwn]
   rfl
 ·refine `JW `bi7 `uA
  delta R9;rw[s20 `e' (jz0 S ok (`avS) `rO rfl)];rfl
def Sg0(S:RS)(ok:`ge)(w:`bY)(ws:`aS)(hw:`dS)(b:Nat)(hb:b<`kx)(nm:`j)(hnm:`awB)
  (hin:`awC):wm0 `cc [`h `awD]=`bi6:=by
 obtain⟨c,hc⟩:∃c:Int,c=`awD:=`al;rw[← hc];apply `gf [`aJh,`bi!,.un]
 show vy0 [`c1,`bi!,.un]=_;refine `aca;rw[pc0 (by
  apply `dR;show `cg (c%2=0);rw[`bdv])]
 refine `DT (s20 (`ix `iX) (`bi? Ij0));show `dd (c/2);congr 2;omega
open Bw (bs hi)
def k00{S:RS}{w:`bY}{ws:`aS}(hw:`dS)(hv:`mb):`nr=S:=by
 skip;apply `bja;have:w'=`uK:=hw;subst this;done;cases w<;>first|rfl|exact `bhs
def Y70{S:RS}{w:`bY}{ws:`aS}(hw:`dS)(hv:`mb):next S=`Zv:=(k00 (S:=`Zv) hw hv)
def Runs.one{S:RS}{b:Int}(hb:`Zu)(ht:`av!)(hl:`av?)(hc:`Zw)(th:Th S1)(hk:`bie):`d0 S [b] (next S1):=(`aE hb ht hl hc (`Fp) th hk)
def o00{S:RS}(th:Th S){d:D}(hd:`l3):Th (`jJ):=by
 cases hu:`cE with
 | nil=>
  delta Th RS.hold;rw[hu];exact th
 | cons k u=>
  intro q hq;delta RS.hold at hq;rw[hu] at hq;let#[i,hi]:=`Wi hq;rw[`nU] at hi;cases e:`dG[i]? with
  | none=>rw[e] at hi;cases hi
  | some y=>
   have hy:=th y (C8 e);rw[e] at hi
   by_cases z:k=i
   ·simp[z] at hi
    rw[← hi];show trs (y.2++[d])=`d;have:∀l:`i,`ZB->`bjb:=by
     intro l
     induction l with
     | nil=>intro _;show `bjc;rw[hd];rfl
     | cons a l ih=>
      intro h;delta trs at h;rw[`a?] at h;show `bjd;rw[h.1,ih h.2];rfl
    exact `w _ hy
   ·simp[z] at hi
    rw[← hi];exact hy
def Dy0(S:RS)(w:`bY)(ws:`aS)(hw:`dS)(hv:`JX)(hd:`AR)(hl:`AI)(hc:`nW)(th:Th S):∀r:Nat,(`kH∨r*128<=323)->∃c,`d0 S (hi r) (`vr `jo c):=by
 intro r
 induction r using Nat.strongRecOn with
 | ind r ih=>
  intro hg
  by_cases h0:r=0
  ·subst h0
   rw[Bw.bi0];refine`bje;have e:((`vr `vA `vu):RS)=S:=by
    skip;apply `bja;have:dg=0:=hd;subst this;done;rfl
   rw[e];exact `ah S
  ·let#[c,h]:=ih `s8 `l `bjf
   refine`awE;rw[Bw.O90 r h0];refine h.app ?_;obtain⟨S1,J⟩:∃S1:RS,S1=(`vr `Xz c):=`al;have e1:S1.digits*128+`j4%128=`jo:=by
    rw[J];show `Xz*128+`j4%128=`jo;lia
   have w1:`AH=`uK:=`Tt
   have ht:wn0 (R S1) [`h `j4]=`la `awF:=by
    refine e80 S1 _ w ws w1 hv _ _ ?_;have:=Ja0 S1 w ws w1 `j4 `l (`d1 e1) (by rw[e1];rcases hg with z|z;exact `hd;right;lia);apply `ay e1;exact `w
   have:=`J2 (b:=`j4) `l ht (`k J hl) `bjg `bjh;rw[← J];have e2:next `awF=(`vr `jo (c+1)):=(Y70 (S:=`awF) w1 (`J3)).trans `bji;apply `ay e2;exact `w
def Sx0(S:RS)(w:`bY)(ws:`aS)(hw:`dS)(hv:`JX)(hd:`AR)(hl:`AI)(hc:`nW)(N:Nat)(hg:`kH∨N<=323)
  (th:Th S) (S2:RS) (hl2:S2.wait.length<100000) (hc2:S2.wait.count `dj<=S2.un.length) (th2:Th S2)
  (ht:∀c,va0 (R `AS) [`h `mV]=`la `J4):`awG (bs N) `J4:=by
 let#[c,h]:=Dy0 S w ws hw hv hd hl hc th (N/128) `bjf;refine`awE;delta bs;refine h.app ?_;have t:=`J2 (S:=`AS) (S1:=`J4) (b:=`ZC) `l (e80 `AS `J4 w ws hw hv _ _ (K60 `AS `J4 `ZC `l _ (by
  have e:((`AS:RS).digits*128+`ZC)=`mV:=by
   show `aAR*128+`ZC=`mV;lia
  rw[e];exact ht c))) hl2 hc2 th2
 exact t
def Rd0(z:Int):o10 (`ak `ZD)=z:=by
 delta o10 Bw.fold
 by_cases h:z<0
 ·rw[`bM,`I `cK]
  omega
 ·rw[`bV,`ap `cK]
  omega
def Pk0(S:RS)(ok:`ge)(ws:`aS)(hw:`av2)(hd:`AR)(hl:`J5)(hc:`nW)(th:Th S)(N:Nat)(d:D)(hn:`l1)(htr:`l3)
  (h:`bjj d∨`bjk d `xU):`awH N `jJ:=by
 refine Sx0 S `eF ws hw `TQ hd `l hc N `gY th (`jJ) ?_ ?_ (o00 th htr) `awI
 ·rw[qq0,`Fl];lia
 ·rw[qq0,Yv0,hw]
  rw[hw] at hc;have:`Fj (`aJm::ws)=`J6:=`id `uB
  show `J6<=_;lia
 ·have:=Oq0 `AS `awJ ws hw `mV d hn h
  exact `w
def Lb0(S:RS)(ok:`ge)(w:`bY)(ws:`aS)(hw:`dS)(hv:`JX)(hd:`AR)(hl:`i9<=9000)(hul:`Ze)(hc:`nW)(th:Th S)(kd n:Nat)(hk:kd<4)(h1:`av0)(h2:`av1):`awH (`ahr) `xS:=by
 have J:n<=20:=`bhV
 have Y:=`bh_;have M:`bjl:=by
  rw[`bjm];intro z
  apply `JU
  ·have:=`ZE;cases `w
  ·have:=`ZE;cases `w
  ·apply `ZF;apply `ZG;simp at hm
  ·rcases `Y3 with z|z
   ·cases z
   ·apply `ZF
    apply `ZG;simp at hm
 have O:`J6<=`hT:=by
  rw[hw,`uB] at hc;lia
 have e1:(`xS).wait=`pL++`i':=by
  show `pL++([`dj]++`nT)=_;rw[hw];rfl
 refine Sx0 S w ws hw hv hd `l hc _ (by rcases hv with rfl|rfl;right;split at h1<;>lia;exact `mi) th (`xS) ?_ ?_ (λq hq=>by
  rcases `c7 (show q∈(`CA).begun++[(kd,[])] from hq) with z|z
  ·exact o00 th rfl q z
  ·rw[`gb];rfl) `awI
 ·rw[e1,`S,`ae]
  have:`bjn:=`bjo
  lia
 ·rw[e1,`bjp,`uB,M]
  have:(`xS).un.length=`hT+1:=rfl;rw[`w];simp;lia
 ·have:=Ly0 (`vr ((`ahr)/128:Nat) c) `awJ (by show `qT;rw[hw];simp) (`bE `av_) hul kd hk n h1 h2
  exact `w
open Bw (bs hi sg)
def Lv0(n:Nat)(h:n<128):bs n=[`bm]:=by
 delta bs;rw[`aZ (`LT=0),Bw.bi0,`aZ (n%128=n)];rfl
def count_tail{w:`bY}{ws:`aS}(hv:`mb):`Fj `uK=`J6:=by
 rw[`uB];simp[hv]
def N40(S:RS)(ok:`ge)(w:`bY)(ws:`aS)(hw:`dS)(hv:`JY)(h0:`Zt)(hl:`J5)(hc:`nW)(th:Th S)(h60:`kx<=60)(b:Nat)(hb:b<`kx)(nm:`j)(hnm:`awB)
  (hin:`awC):`awH (2*b) `QT:=by
 have hf:`mb:=`J3
 rw[`bjq];refine#[`C0,?_];have:=`J2 (S:=S) (S1:=`QT) (b:=`awD) `l (`bjr (`bi? Sg0)) `bjs (by
  rw[qq0,Yv0,hw];rw[hw,`awK] at hc;exact hc) (`awL)
 exact `w
def S10(S:RS)(ok:`ge)(w:`bY)(ws:`aS)(hw:`dS)(hv:`JY)(hl:`J5)(hc:`nW)(th:Th S)(h60:`awj)(hln:∀n∈`cn,`nX)(nm:`j)(h8:`ff<=8)(hnd:`bjt)(hA:∀n∈`cn,∀c∈n,`qU)(hN:∀c∈nm,`qU)(hni:`bju):
  ∀(rest sp:`j) (c:Nat),sp++`bG=nm->`bG≠[]->∃c',`d0 `bjv (rest.map `ZH) (`rD (`jc `sA c')):=by
 have hf:`mb:=`J3
 have O:∀b∈v30,`MZ:=`a5
 intro rest
 induction `bG with
 | nil=>intro sp c _ h;exact `alK
 | cons b rest ih=>
  intro sp c he _;obtain⟨S1,J⟩:∃S1:RS,S1=`bjv:=`al;rw[← J];have hb:`Zy:=hN b (by rw[← he];simp);have a1:=`Xj;have Y:`awM+(`J7+1)=`ff:=by rw[← he,`S,`ae]
  have M:left `cn `ff `ZI=`d:=Wn0 `cn hnd hA nm hN hni `ZI #[`bG,`aD7];have w1:`AH=`uK:=`Tt
  rw[`J]
  by_cases hr:`bG=[]
  ·subst hr
   refine`awE;have Z:`acc=nm:=he;have ht:=N00 S1 (`p5 J `awJ) (`id w1) b hb `bjw `bjx (by rw[J];show `awM+1=`ff;simpa using Y) `bjy `bjz;have e1:`va S1 (`aJi)=`awN:=by
    rw[J];show `va _ `ZI=_;rw[Z];rfl
   rw[e1] at ht;have e2:(`sA).wait=`nT:=rfl;have e3:(`sA).un=`cE:=rfl;exact `J2 (S:=S1) (S1:=`awN) (b:=`iY) `l `bjA (by show (`sA).wait.length<100000;rw[e2,`Fl];lia) (by
    show (`sA).wait.count `dj<=(`sA).un.length;rw[e2,e3,hw];rw[hw,`awK] at hc;exact hc) (o00 (S:=(`QS (`cn++[nm]))) th rfl)
  ·let#[c',h]:=ih `ZI (c+1) `adI hr
   refine#[c',?_];have a2:0<`J7:=B91.mpr hr;have ht:=Mf0 S1 b hb `bjw `bjx (`tD J (`awM+1<`ff)) `bjy `bjz;have e2:next `bjB=(`ahz `acc (c+1)):=(Y70 (S:=`bjB) w1 hf).trans `bji;refine `aE `l `bjA (`tD J `AI) `bjg ?_ `bjh;rw[e2];exact h
def Jc0(S:RS)(ok:`ge)(w:`bY)(ws:`aS)(hw:`dS)(hv:`JY)(h0:`Zt)(hsp:`Cq=[])(hl:`J5)(hc:`nW)(th:Th S)(h60:`awj)(hln:∀n∈`cn,`nX)(nm:`j)(h1:1<=`ff)(h8:`ff<=8)(hnd:`bjt)(hA:∀n∈`cn,∀c∈n,`qU)(hN:∀c∈nm,`qU)(hni:`bju):
  `awG (bs (2*`ff+1)++nm.map `ZH) `awN:=by
 have hf:`mb:=`J3
 let#[c,h]:=S10 S ok w ws hw hv hl hc th h60 hln nm h8 hnd hA hN hni nm [] (`C0) rfl (by intro z;rw[z] at h1;simp at h1);refine#[c,Runs.app ?_ h];rw[`bjq];have ht:=Pj0 S h60 hln `ff h1 h8 (Wn0 `cn hnd hA nm hN hni [] (List.nil_prefix));have:=`J2 (S:=S) (S1:=`awO) (b:=(`ak (2*`ff+1))) `l (`bjr ht) (`bE `AI) hc th;have e2:next `awO=(`ahz [] `C0):=(Y70 (S:=`awO) hw hf).trans (by rw[← hsp]);apply `ay e2;exact `w
def sp0(S:RS)(k:Nat)(l:`j)(ws:`aS):RS:=`bg0 (`BO k λp=>(p.1,p.2++`wM)) ws
def modify_id(f:`AT)(hf:∀a,f a=a)(l:`aV)(k:Nat):`ZJ=l:=by
 have:f=id:=funext hf;rw[`w];exact List.modify_id k l
def sx0(f g:`AT)(l:`aV)(k:Nat):(`ZJ).modify k g=`aCb k (λa=>g (f a)):=by
 apply A60;intro i;rw[`nU,`nU,`nU];cases `LN with
 | none=>rfl
 | some a=>
  by_cases q:k=i
  ·simp[q]
  ·simp[q]
def Pm0:∀(l:`j) (S:RS) (k:Nat) (u:`j) (ws:`aS),`ge->`im->`dU=`awP->(∀q∈`dG,`bjC)->`AR->`J5->`nW->Th S->(∀c∈l,c∈mp0)->∃c,`d0 `nr (`aH `ZH) (`rD (`QU S l c)):=by
 have O:∀b∈mp0,`MZ:=`a5
 intro l
 induction l with
 | nil=>
  intro S k u ws ok hu hw hq hd _ _ _ _;refine`bje;have e:((`QU S [] `vu):RS)=S:=by
   skip;let#[c,b,u',nm,w',dg,le,sp]:=S;have e1:w'=ws:=hw;have e2:dg=0:=hd;subst e1 e2;done;delta sp0;simp only[];rw[modify_id _ (`bjD)]
  rw[e];exact `Fp
 | cons b l ih=>
  intro S k u ws ok hu hw hq hd hl hc th hs;have J:`dU=`lc::(`awP):=by rw[hw,`ae,`ex];rfl
  have hb:=hs b A8;have a1:=`Xj;have ht:=Vb0 S ok (`id J) b hb;have hk:=`bhk;obtain⟨S1,M⟩:∃S1:RS,S1=(`jc `QO `C0):=`al;have b1:`ZK=`BO k λp=>(p.1,p.2++[`abL]):=by
   rw[M];delta RS.hold;rw[hu]
  have w1:`AH=`awP:=by rw[M];show `nT=_;rw[J];rfl
  have u1:S1.un=k::u:=`k M hu
  have Y:∀q∈`ZK,`bjC:=λq hm=>by
   rw[b1] at hm;let#[i,hi]:=`Wi hm;rw[`nU] at hi;cases e:`dG[i]? with
   | none=>rw[e] at hi;cases hi
   | some q0=>
    have:=hq q0 (C8 e);apply `ay `ae;rw[e] at hi
    by_cases z:k=i
    ·simp[z] at hi
     rw[← hi];simp;lia
    ·simp[z] at hi
     rw[← hi];lia
  have Z:Ok S1:=#[λj hj=>by
   rw[b1,`ux];rw[u1,← hu] at hj;exact `DN j hj,`ii b1 `ux `Oc,λq hm=>`cX (Y q hm),`bjE,`k M `aD6]
  have c1:`Zw:=by
   rw[w1,u1,← hu];rw[J,`Od `E] at hc;exact hc
  let#[c,h]:=ih S1 k u ws Z u1 w1 Y (`ax M) (`bjE) c1 (`k M `awL) (`Ar hs)
  refine#[c,?_];have e3:((`QU S1 l c):RS)=`bjF:=by
   delta sp0;rw[b1,sx0,M];apply `ZL;rfl
  rw[e3] at h;rw[k00 J `E,`J];have:=Runs.cons (S:=S) (S1:=`QO) (b:=`iY) (r:=`aH `ZH) (S':=(`rD `bjF)) `l (Rg0 S _ _ J _ _ ht) `bjs (by
   rw[qq0,Yv0,J];rw[J,`Od `E] at hc;exact hc) (by
   delta next;rw[M] at h;exact h) (`awL)
  exact `w
open Bw (bs its)
open Km (hb nB nT nW pk lkd It Wb)
inductive Pk (ps:`aD):`j->`e->`i->`j->`e->`ai->Prop
 | nil (B:`j) (T:`e):Pk ps B T [] B T []
 | str {B:`j} {T:`e} {s:Str} {ds:`i} {B':`j} {T':`e} {b:`ai} (h:Pk ps B `QW ds B' T' b):`By (`dh::ds) (`au!++b)
 | val {B:`j} {T:`e} {d:D} {ds:`i} {B':`j} {T':`e} {b:`ai} (hd:`bjG) (h:`nY):`By `m7 (`sz++b)
 | old {B:`j} {T:`e} {j:Nat} {ds:`i} {B':`j} {T':`e} {b:`ai} (hj:`fY) (h:`nY):`By `bjH (`QV++b)
 | new {B:`j} {T:`e} {j:Nat} {ds:`i} {B1 B':`j} {T1 T':`e} {b1 b:`ai} (hj:`FS) (h1:Pk ps `wV T (`Ed) B1 T1 b1) (h2:Pk ps B1 T1 ds B' T' b):`By `bjH (`QV++(b1++b))
def i10{B:`j}(hn:`JJ)(hj:`FS):`bgb:=(`IN hn (`xP (`QG `QH (hj `aIZ))))
def Ay0{d:D}(hd:`bjG):`eZ≠d:=by
 rcases hd with rfl|⟨z,rfl⟩<;>exact λz=>nomatch z
def X10(h:lkd i=`eZ):i=j:=by
 delta lkd at h;injection h with h
 injection h with _ h
 injection h with h _
 injection h with h
 lia
def Pk.pre{B B':`j}{T:`e}{b:`ai}(h:`nY):∃N,B'=B++N:=by
 induction h with
 | nil B T=>exact`bjI
 | str _ ih=>exact ih
 | val _ _ ih=>exact ih
 | old _ _ ih=>exact ih
 | new _ _ _ i1 i2=>
  let#[N,rfl]:=i1;let#[M,rfl]:=i2;exact#[_,by rw[`be,`be]]
def Pk.nodup{B B':`j}{T:`e}{b:`ai}(h:`nY):`JJ->B'.Nodup:=by
 induction h with
 | nil B T=>exact id
 | str _ ih=>exact ih
 | val _ _ ih=>exact ih
 | old _ _ ih=>exact ih
 | new hj _ _ i1 i2=>exact λhn=>i2 (i1 (i10 hn hj))
open T in
def Pk.links{B B':`j}{T:`e}{b:`ai}(h:`nY):(∀j,`eZ∈ds->j∈B')/\∀k∈B',k∉B->∀j,`bjJ->j∈B':=by
 induction h with
 | nil B T=>exact#[(λj h=>by cases h),λk hk hn=>`K hk hn]
 | str _ ih=>exact`bjK λz=>nomatch z
 | val hd _ ih=>exact`bjK (Ay0 hd)
 | old hj h ih=>
  rename_i B T j ds B' T' b;refine#[`Ys,ih.2];rcases `bF hi with z|z
  ·rw[X10 z]
   let#[N,rfl]:=h.pre;exact D1 _ hj
  ·exact ih.1 i z
 | new hj h1 h2 i1 i2=>
  apply `awQ;let#[N,e1]:=h1.pre;let#[M,e2]:=h2.pre;have m1:∀x∈B1,x∈B':=λx hx=>`k e2 (D1 _ hx)
  have J:j∈B1:=`id e1
  refine#[`Ys,λk hk hn i hi=>?_]
  ·rcases `bF hi with z|z
   ·rw[X10 z];exact m1 _ J
   ·exact i2.1 i z
  ·by_cases hk1:k∈B1
   ·by_cases hkj:k=j
    ·subst hkj
     exact m1 _ (i1.1 i hi)
    ·exact m1 _ (i1.2 k hk1 (λz=>by
      rcases `c7 z with z|z
      ·exact hn z
      ·exact hkj `ar0) i hi)
   ·exact i2.2 k hk hk1 i hi
def Tl0(h:It n `kY):j<n:=by
 skip;rcases h with⟨s,e,_⟩|e|⟨z,e,_⟩|⟨i,e,hi⟩
 ·cases e
 ·cases e
 ·cases e
 ·done;rw[X10 (j:=i) e];exact hi
def Pk.range(hw:`cD){B B':`j}{T:`e}{b:`ai}(h:`nY):`ZM->`awR->∀j∈B',`oV:=by
 induction h with
 | nil B T=>exact λh _=>h
 | str _ ih=>exact `awS
 | val _ _ ih=>exact `awS
 | old _ _ ih=>exact `awS
 | new hj _ _ i1 i2=>
  intro h hd;have J:=`bjL;refine i2 (i1 (`iE) λd m=>`JK `awT d m) `ad8
  apply `qS
  ·exact h x z
  ·rw[`gb];exact J
open T in
def Pk.steps(hw:`cD){B B':`j}{T:`e}{b:`ai}(h:`nY):`ZM->`awR->∃n,n+51*`cl<=`b2+51*B'.length/\∀(f:Nat) (W:`i),pk ps (n+f) B T `ajH=b++pk ps f B' T' W:=by
 induction h with
 | nil B T=>exact λ_ _=>#[0,`a_,λf W=>`ax `b4]
 | str _ ih=>
  intro h hd;apply `awU
  apply `awV;apply `awW;rfl
 | val hd' _ ih=>
  intro h hd;apply `awU
  apply `awV;apply `awW;rcases hd' with rfl|⟨z,rfl⟩<;>rfl
 | old hj _ ih=>
  rename_i B T j ds B' T' b _;intro h hd;apply `awU
  apply `awV;apply `awW;show `bjM (n+f);rw[Km.Gh0,Km.Fo0,`awX,`awX]
 | new hj p1 p2 i1 i2=>
  apply `awQ;intro h hd;have J:=`bjL;have M:∀x∈`ot,`qR:=λx hx=>by
   apply `qS
   ·exact h x z
   ·rw[`gb];exact J
  have hI:=`JK `awT;let#[n1,a1,a2]:=i1 M hI;let#[n2,c1,c2]:=i2 (p1.range hw M hI) `ad8
  have O:=(`rC _ `awT).gp.len;refine#[n1+n2+1,by rw[`S,`e3] at a1;rw[`ae];lia,`aKm];rw[`aZ (n1+n2+1+f=`bjN+1),`be,`be,← c2 f W,← a2 (n2+f) `ajH];show `bjM `bjN;rw[Km.Gh0,Km.Fo0,`awY,`awY]
def Pk.ex(hw:`cD):∀(m:Nat) (ds:`i) (B:`j) (T:`e),`ael<=m->`JJ->`ZM->`awR->∃B' T' b,`nY:=by
 intro m
 induction m with
 | zero=>
  intro ds
  induction ds with
  | nil=>apply `bjO
  | cons d ds ih=>
   intro B T hm hn hB hd;skip;have J:∀d∈ds,`pd:=`aws
   apply `bjP
   ·apply `bjQ
    done;exact`bjR
   ·apply `AU
    done;exact`bjS
   ·apply `AU
    done;exact`bjT
   ·by_cases hj':`fY
    ·apply `AU
     done;exact`bjU
    ·done;exfalso
     have:=`awZ `aw_ (m:=`Lq) λy hy=>`kr (by
      apply `auS
      ·exact hB y z
      ·rw[`gb];exact hj)
     rw[`d?,`S,`e3] at this;omega
 | succ m im=>
  intro ds
  induction ds with
  | nil=>apply `bjO
  | cons d ds ih=>
   intro B T hm hn hB hd;skip;have J:∀d∈ds,`pd:=`aws
   apply `bjP
   ·apply `bjQ
    done;exact`bjR
   ·apply `AU
    done;exact`bjS
   ·apply `AU
    done;exact`bjT
   ·by_cases hj':`fY
    ·apply `AU
     done;exact`bjU
    ·have M:∀x∈`ot,`qR:=λx hx=>by
      apply `qS
      ·exact hB x z
      ·rw[`gb];exact hj
     have hI:=`JK `aw0;let#[B1,T1,b1,h1]:=im (`Ed) `wV T (by apply `r0;omega) `aw_ M hI;let#[N,e1]:=h1.pre;let#[B',T',b,h2]:=im ds B1 T1 (by rw[e1];simp only[`S,`e3];omega) (h1.nodup `aw_) (h1.range hw M hI) J;done;exact#[B',T',_,.new hj' h1 h2]
def G70(hw:`cD):∃L T b1,`aw1/\`aw2/\`Y0/\(∀k∈L,`iP)/\(∀k∈L,∀j,`bjJ->j∈L)/\∃N,L=0::N:=by
 skip;have J:=hw.len;apply `bjV J.1
 have hI:=`JK (`sB J.1).2;let#[L,T,b1,h]:=Pk.ex hw 60 (`Oe) [0] [] `l `az hB hI;have hn:=h.nodup `az;have hr:=h.range hw hB hI;apply `ZN;have hp:Pk ps [] [] `YW L T (`aD9++(b1++[])):=.new `az h (`ah L T);let#[n,a1,a2]:=hp.steps hw (λj hj=>by cases hj) (λd hd=>`k `YX (`u (`u (`u #[0,rfl,J.1]))));have hl:`bjW:=by
  have:=`AA `awZ hn (hr y hy)
  apply `iD r9
 have M:n<=100000:=by simp only[`ae,`rp] at a1;lia
 done;refine#[L,T,b1,h,?_,hn,hr,`bjX,N,hN]
 ·have:=a2 (`ZO) []
  rw[`aZ (n+(`ZO)=100000),`du] at this;show pk ps 100000 [] [] `YW=_;rw[`w];have e:pk ps (`ZO) L T []=[]:=by
   generalize `ZO=m;cases m<;>rfl
  rw[e,`du,`du]
 ·by_cases z:k∈[0]
  ·rw[`gb] at hj
   exact h.links.1 j hj
  ·exact h.links.2 k hk z j hj
open Bw (bs its two kn cnt Vb Gq)
open K22 (lkv rel)
def ez0:∀(ps:`_) (pre:`i) (d:D) (rest:`i),`fH=`AV->∃ps1 q ps2,ps=ps1++q::ps2/\(pre=ps1.flatMap two/\d=`r3∨pre=ps1.flatMap two++[`r3]/\d=q.2):=by
 intro z;induction z with
 | nil=>
  intro pre d rest h
  cases pre<;>cases h
 | cons q ps ih=>
  intro pre d rest h
  have h:`LY::q.2::`fH=`AV:=h
  match pre,h with
  | [],h=>
   apply `J8
   exact#[[],q,ps,rfl,`n #[rfl,h1.symm]]
  | [x],h=>
   apply `J8
   injection h2 with h2 h3
   exact#[[],q,ps,rfl,`u #[`UL h1,h2.symm]]
  | x::y::pre,h=>
   apply `J8
   injection h2 with h2 h3
   let#[ps1,q',ps2,e,hh]:=ih pre d `bG h3;refine#[q::ps1,q',ps2,`alv,?_];subst h1 h2;apply `aw3
   ·left
    exact`bjY
   ·right
    exact`bjY
def pw(n:Nat):`aS:=`bhT
def Yi0(n:Nat):pw `lm=`rm::`eF::pw n:=by
 delta pw;rw[`ex,`jV];rfl
def Ls0(n:Nat):(`o (pw n))=2*n:=by
 induction n with
 | zero=>rfl
 | succ n ih=>rw[Yi0,`ae,`ae,ih];lia
def i90:∀(a b:Nat),(pw (a+b)).drop (2*a)=pw b:=by
 intro z;induction z with
 | zero=>intro b;rw[`b4];rfl
 | succ a ih=>
  intro b
  rw[`aZ (a+1+b=(a+b)+1),Yi0,`aZ (2*(a+1)=2*a+1+1)];exact ih b
def vf0(ps:`_):`Ad=2*`V:=by
 induction ps with
 | nil=>rfl
 | cons q ps ih=>
  rw[`cO,`S,ih,`ae];show 2+_=_;lia
theorem kr0:`l9 (`h4 `rN=`c3 λp=>(`aem,p.2))
 | []=>rfl
 | `jD=>by
  show (`LY,q.2)::`h4 `rN=_;rw[kr0 ps];rfl
def p70:∀{l:`i},(∀d∈l,`l3)->`ZB:=by
 intro z;induction z with
 | nil=>intro _;exact rfl
 | cons d l ih=>
  intro h
  delta trs;rw[h d A8,ih `Ha];rfl
def gn0:∀{l:`i},(∀d∈l,`l1)->ql0 l=`d:=by
 intro z;induction z with
 | nil=>intro _;exact rfl
 | cons d l ih=>
  intro h
  delta ql0;rw[h d A8,ih `Ha];rfl
def Yq0(π:`bu)(s:Str):lkv π `g8=`dh:=(rfl)
def Zn0{d:D}(h:It n d)(π:`bu):tr `bjZ=`d/\nrf `bjZ=`d:=by
 skip;rcases h with⟨s,rfl,_⟩|rfl|⟨z,rfl,_⟩|⟨j,rfl,_⟩
 ·done;exact`iz
 ·done;exact`iz
 ·done;exact`iz
 ·done;rw[show lkv π `mm=`bgk from Km.fk0 π j]
  exact#[rfl,cy0 _]
def Om0(p:Pt):`fJ<4:=`cX (Bw.dt0 p)
def ls0{p:Pt}(hp:p.Ok):`Qc<=25:=by
 cases p with
 | text w=>exact `bP
 | row vs=>have:=hp.1;show `c8<=25;lia
 | table ps=>have:=`nZ hp;show `Ad<=25;rw[vf0];lia
 | rcd c ps=>have:=`nZ hp.2;show `XL<=25;rw[`ae,vf0];lia
def stage(p:Pt)(hp:p.Ok)(hq:Gq p)(hI:∀d∈`fU,It n d)(ht:`ZP)(pre:`i)(d:D)(rest:`i)(h:`fU=`AV):∃w wr,`aw4=w::wr/\((∀s,d≠`dh)->`kH) /\
  ∀s,d=`dh->`abs∨`vL/\∀π,Held `bj_/\`xV ∉vt0 `bj_:=by
 skip;have a3:∀x∈pre,It n x:=λx hx=>hI x (`k h (D1 _ hx))
 have a4:`dI<=24:=by
  have:=ls0 hp;rw[h,`S,`ae] at this;lia
 have hv:=hq.vals;have hs:∀(s:Str),`xV=`dh:=λs=>rfl
 have Y:∀(v:D),`a3->∀s,v≠`dh:=λv hv s e=>by subst e;cases hv
 have a1:∀π,trs (`Fm)=`d:=fun π=>p70 λx hx=>by
  apply `aoY;exact(`bj0).1
 have a2:∀π,ql0 (`Fm)=`d:=fun π=>gn0 λx hx=>by
  apply `aoY;exact(`bj0).2
 have fl:`l9 (`mB (`c3 `aJl)=`d):=λps=>by
  delta flats;rw[`gT];intro x hx;let#[y,_,rfl]:=`wB;rfl
 have O:∀(J:`_) (π:`bu),`pk (`h4 ((J.flatMap two).map `hb))=`bj1:=λJ π=>by
  rw[← `aJq,kr0,`M,`M];rfl
 have Z:∀(J M:`_) (q:`gh),(`pk (J++q::M)).Nodup->`LY ∉`bj1:=λJ M q nd z=>by
  let#[y,hy,e]:=`AC;apply `Af
  rw[`au,`J] at nd;exact(F8.mp nd).2.2 y.1 (`jq y hy) q.1 A8 e
 cases p with
 | text w=>done;exact `aw5
 | row vs=>
  have h:vs=`AV:=h;done;refine#[`eF,`cr `J7 `eF,?_,`lv,λs e=>?_]
  ·show (`bj2).drop `dI=_
   rw[List.drop_replicate,h,`S,`ae,`aZ (`dI+(`J7+1) - `dI=`J7+1),`ex]
  ·exact `K e (Y d (hv d (by show d∈vs;rw[h];simp)) s)
 | table ps=>
  have h:`fH=`AV:=h;let#[J,q,M,e,hh]:=ez0 ps pre d `bG h;apply `bj3
  apply `aw3
  ·done;refine`bj4 (`bE (2<4)) #[`ZQ (`o `Fm),`g4,`g4]
   ·apply `ZR
    rw[a,vf0,hl,i90,Yi0]
   ·apply `bj5
    rw[a,O];exact fl J
   ·show `bj6
    rw[a,O,hs,← es,b];exact `bj7 hp
  ·done;apply `bj8
   ·apply `ZR
    apply `bj9;rfl
   ·refine `bj'
    show d∈`ky;rw[b,e];simp
 | rcd c ps=>
  have h:`CT=`AV:=h;cases pre with
  | nil=>
   done;apply `J8
   exact#[.cls,`R_,rfl,λz=>`K h1.symm (z c),λs _=>`mi]
  | cons x pre=>
   done;apply `J8
   skip;subst h1;let#[J,q,M,e,hh]:=ez0 ps pre d `bG h2;apply `bj3
   apply `aw3
   ·done;refine`bj4 (`bE (3<4)) #[`ZQ (`o ((`B4::pre).map `hb)),`g4,`aOM]
    ·apply `ZR
     rw[a,vf0,hl,i90,Yi0]
    ·apply `bj5
     rw[a,O];exact fl J
    ·show `bj6
     rw[a,O,hs,← es,b];exact `bj7 hp.2
   ·done;apply `bj8
    ·apply `ZR
     apply `bj9;rfl
    ·refine `bj'
     show d∈`ky;rw[b,e];simp
def hl(π:`bu):`Xo
 | `iM=>`ta `Ld
 | p=>`avh
def qf0(ps:`aD)(π:`bu)(j:Nat):`il:=(`ph,hl π `ob)
def Lg0(π:`bu)(p:Pt):`ic (`fJ,hl π p)=(`MV).d:=by
 cases p with
 | text w=>
  show `cb [`sx,xp0 (`N? (`ta `Ld))]=_;rw[gu0];rfl
 | row vs=>rfl
 | table ps=>
  show `cb [`mD,`bj!]=`cb [`mD,`bj?];apply `bka;rfl
 | rcd c ps=>
  show `cb [`n9,`dC,`bj!]=`cb [`n9,`dC,`bj?];apply `bka;rfl
def ly0{w:Str}(h:`a'n):`ur<=20/\∀c∈`E!,c∈mp0:=by
 delta isWord at h;rw[`a?,`z7] at h;have e:`ur=`ik:=rfl;refine#[`U,`bkb];have:=`Xk h.2 c hc;rw[← M70];have h3:`as2:=`bkc
 exact h3
def de0{w:Str}(h:`CV w=`d):1<=`ur/\`ur<=8/\∀c∈`E!,`qU:=by
 delta isName at h;rw[`a?,`a?,`z7,`z7] at h;have e:`ur=`ik:=rfl;refine#[`ch,`ch,`bkb];have:=`Xk h.1.2 c hc;rw[← Kr0];have h3:`Yx:=`bkc
 exact h3
open Bw (bs sg its two kn cnt tx Vb Gq)
open Km (hb nB nT nW pk lkd It Wb ix)
structure Wf(ps:`aD)(pool:`e):Prop where
 wb:`cD
 pl:pool.length<=60
 pn:∀s∈`gm,`XO
 ok:∀p∈ps,p.Ok
 nm:∀p∈ps,∀s∈`iO,`AW
structure Inv(pool:`e)(B:`j)(T:`e)(S:RS):Prop where
 len:`dD=`cl
 few:`JF
 nms:`cn=`DO `aw6
 tnd:T.Nodup
 tin:∀s∈T,`AW
 d0:`AR
 l0:`Zt
 s0:`Cq=[]
 un:∀k∈`cE,`AE
 unl:`hT<=`dD
 held:∀q∈`dG,`ahB
 wl:`i9<=60*`dD+1
 wc:`aAl=`hT
 th:Th S
section
variable{B:`j}{T:`e}{S:RS}
def Inv.tl(W:`j7)(I:`qV):`fS<=60:=(C3 (`awi `Fn `Fo) W.pl)
def Inv.okS(W:`j7)(I:`qV):`ge:=by
 have h1:=`hm;have h2:=I.few;have h3:=I.wl;have h4:=I.tl W;exact#[I.un,`U,λq hq=>`cX (`ZS q hq),`U,`hg `nm `x]
def Inv.wlen(I:`qV):`i9<=4000:=by
 have h1:=`hm;have h2:=I.few;have h3:=I.wl;lia
def He0{l:`i}{d:D}(h:`ZB)(hd:`l3):`bjb:=by
 induction l with
 | nil=>show `bjc;rw[hd];rfl
 | cons a l ih=>
  delta trs at h;rw[`a?] at h;show `bjd;rw[h.1,ih h.2];rfl
def Y80{l:`aV}{k:Nat}{f:`AT}{P:α->Prop}{a:α}(h:∀x∈l,P x)(ha:`bkd)(hf:P (f a)):∀x∈`ZJ,P x:=(λx hx=>by
 let#[i,hi]:=`Wi hx;rw[`nU] at hi;cases e:`LN with
 | none=>rw[e] at hi;cases hi
 | some y=>
  rw[e] at hi
  by_cases z:k=i
  ·subst z
   rw[ha] at e;cases e;simp at hi;rw[← hi];exact hf
  ·simp[z] at hi
   rw[← hi];exact h y (C8 e))
def bn0{l:`aV}{k:Nat}{f:`AT}{a:α}(ha:`bkd):(`ZJ)[k]?=`c (f a):=by
 rw[`nU,ha];simp
structure Aft(S S1:RS)(k:Nat)(d:D):Prop where
 bg:`ZK=`uv
 un:S1.un=`cE
 wt:`AH=`nT
def i50{k:Nat}{u:`j}(hu:`im)(d:D):(`jJ).begun=`uv:=by
 delta RS.hold;rw[hu]
def Inv.aft(I:`qV){k:Nat}{d:D}(A:`QX d){T1:`e}(hq:`lb)(hl:`ZT){w:`bY}{ws:`aS}(hw:`dS)(hf:`mb)
  (hn:S1.names=T1.map `aw6) (h1:T1.Nodup) (h2:∀s∈T1,`AW) (h3:S1.digits=0) (h4:S1.length=0) (h5:`aE2=[]) (htr:`l3):`QY T1:=by
 have bl:S1.begun.length=`dD:=by rw[A.bg,`ux]
 refine#[`k bl `hm,I.few,hn,h1,h2,h3,h4,h5,`qt,`ii bl A.un I.unl,?_,?_,?_,?_]
 ·rw[bl]
  rw[A.un] at hj;exact I.un j hj
 ·rw[A.bg]
  exact Y80 (P:=`bke) (f:=`aaL) `ZS hq (`Zz (`o `ahk) 30)
 ·rw[bl,A.wt,`Fl]
  have:=I.wl;lia
 ·rw[A.wt,A.un,hw]
  have:=I.wc;rw[hw,`awK] at this;exact `w
 ·delta Th
  rw[A.bg];exact Y80 (P:=λq=>`av') (f:=`aaL) I.th hq (He0 (I.th q (C8 hq)) htr)
def zz1{B M:`j}(h:`fY):ix (B++M) j=`v?:=by
 induction B with
 | nil=>cases h
 | cons a B ih=>
  rw[`jh];delta ix
  by_cases e:a=j
  ·rw[`cf,`cf]
  ·rw[`bW,`bW,ih `au5]
def zt1{B M:`j}(h:`FS):ix (B++j::M) j=`cl:=by
 induction B with
 | nil=>
  rw[`c'];delta ix;rw[`a4];rfl
 | cons a B ih=>
  rw[`jh];delta ix;have h1:a≠j:=λz=>h (z▸A8)
  rw[`amq,ih λz=>h `z',`ae]
def Xk0{s t:Str}(h:`e6=`M7):s=t:=by
 have:`bR `e6=`bR `M7:=`atR
 exact `w
def Hp0{T:`e}(h:T.Nodup):(`DO `aw6).Nodup:=by
 refine `biB;exact`a?K λhn e=>hn (Xk0 e)
def Hj0(W:`j7)(I:`qV){k:Nat}{u:`j}(hu:`im)(hq:`lb)(hl:`ZT){w:`bY}{ws:`aS}(hw:`dS)(s:Str)(hs:`AW)
  (hv:`abs∨`vL/\`Ob/\`xV ∉`wn):`ZU `au! (`QY `QW/\`bkf):=by
 have ok:=`aw7;have hf:`mb:=`bkg hv
 have M:`JY:=by rcases hv with h|⟨h,_⟩;exact `u h;exact `CF
 have a2:=I.wlen;have a3:=I.tl W;have a1:`kx=`fS:=by rw[`nm,`x]
 let#[n1,n8,nS]:=de0 (W.pn s hs);show `ZU `YN (`QY (`avc)/\`bkf)
 by_cases h:`kV
 ·rw[`bM,`bM]
  have Y:=Km.p50 h;have Z:=Km.d30 h;let#[c,r]:=N40 S ok w ws hw M I.l0 `cK `ZV I.th `cK `ad! `cK `e6 (by
   rw[a1,`Jq (`aJ! - `ad!=`N8),`nm,`cH,Z];rfl) (λz=>by
   rcases hv with h|⟨_,h1,h2⟩
   ·rw[h] at z;cases z
   ·exact#[k,u,q,hu,hq,h1,h2])
  have A:`aw8 (`kd (`xV)) `g8:=`bkh;exact`bki hf rfl
 ·rw[`bV,`bV]
  have O:`e6 ∉`cn:=λz=>by
   rw[`nm] at z;let#[t,ht,e]:=`AC;exact h (Xk0 e▸ht)
  have tnd:(`adp).Nodup:=`IN `Fn `bgc;have tin:∀x∈`adp,x∈`gm:=λx hx=>by
   apply `qS
   ·exact `Fo x z
   ·rw[`gb];exact hs
  have Y:`fS<60:=by
   have:=`awi tnd tin;rw[`S,`e3] at this;have:=W.pl;omega
  have J:∀n∈`cn,`nX/\∀c∈n,`qU:=λn hn=>by
   rw[`nm] at hn;let#[t,ht,rfl]:=`c2 hn;let#[_,a,b]:=de0 (W.pn t (`Fo t ht));exact#[`ch,b]
  let#[c,r]:=Jc0 S ok w ws hw M I.l0 I.s0 `cK `ZV I.th `cK (λn hn=>(J n hn).1) `e6 n1 n8 (`k `nm (Hp0 `Fn)) (λn hn=>(J n hn).2) nS O;have A:`aw8 (`va S `e6) `g8:=by
   refine#[?_,rfl,rfl];show ((`bkj:RS).hold (`xV)).begun=_;exact i50 (S:=`bkj) hu _
  refine#[_,r,I.aft A hq hl hw hf ?_ tnd tin rfl rfl rfl rfl,A];show `aJr=_;rw[`nm,`au];rfl
def U00(W:`j7)(I:`qV){k:Nat}{u:`j}(hu:`im)(hq:`lb)(hl:`ZT){ws:`aS}(hw:`av2)(L:`j)(hL:∃M,L=B++M)(d:D)
  (hd:`xU∨(`aJj)∨∃j:Nat,`fY/\d=`eZ):`ZU `sz (`bkk/\`QX (lkv `dJ d)):=by
 skip;have ok:=`aw7;have Z:=I.wlen;have fin:∀(N:Nat) (d':D),nrf d'=`d->tr d'=`d->(`bjj d'∨`bjk d' (d'=`y))->`ZU (bs N) (`bkk/\`QX d'):=λN d' hn J h=>by
  let#[c,r]:=Pk0 S ok ws hw I.d0 `cK `ZV I.th N d' hn J h;have A:`aw8 (`kd d') d':=`bkh;exact`bki `E J
 rcases hd with rfl|⟨z,rfl⟩|⟨j,hj,rfl⟩
 ·done;exact fin 0 `y rfl rfl (`u (`u `iz))
 ·done;refine fin (4*`ZD+1) `ov rfl rfl (`n #[`ch,?_])
  rw[`Jq ((`ak (4*`ZD+1))/4=(`ZD:Int)),Rd0]
 ·have O:=Km.p50 hj
  have Y:=`hm;let#[M,rfl]:=hL;done;rw[Km.fk0,zz1 hj,Km.Ow0,`awX];refine fin `aIT (lkd (`v?)) (cy0 _) rfl (`u (`n #[`ch,`ch,`ch,?_]));show link (`v?)=_;congr 1;omega
def Zw0(A:`aV)(x:α)(f:`AT)(n:Nat)(hn:n=A.length):(A++[x]).modify n f=A++[f x]:=by
 subst hn
 induction A with
 | nil=>rfl
 | cons a A ih=>
  rw[`jh,`ae,`jh,← ih];rfl
def Hh0(A N:`aV)(k:Nat)(f:`AT)(h:k<A.length):`bkl=A.modify k f++N:=by
 induction A generalizing k with
 | nil=>cases h
 | cons a A ih=>
  cases k with
  | zero=>rfl
  | succ k=>
   have:=ih k (by rw[`ae] at h;lia);show a::`bkl=_;rw[`w];rfl
def N50(kd n:Nat)(hk:kd<4):`bjl:=by
 rw[`bjm];intro z
 apply `JU
 ·have:=`ZE;cases `w
 ·have:=`ZE;cases `w
 ·apply `ZF;apply `ZG;simp at hm
 ·rcases `Y3 with z|z
  ·cases z
  ·apply `ZF
   apply `ZG;simp at hm
def enter(W:`j7)(I:`qV){w:`bY}{ws:`aS}(hw:`dS)(hv:`JX)(hun:∀k u,`im->∃q,`lb/\`ZT)(j:Nat)(hj:`oV)(h60:`cl<60):
  ∃S1,`d0 S (`aIU) `acd/\Inv `gm `wV T S1/\S1.un=`aw9 /\
   `ZK=`ZW++[(`ph,if `ph=0 then hl (λx=>x) `ob else [])] /\
   `AH=(`D (`ph=0) [] (`aaz (`ph) (cnt `ob)))++`i':=by
 have ok:=`aw7;have a8:=I.wlen;have a1:=`hm;have a5:`mb:=`J3
 have M:=W.ok _ `aw0;generalize `mp=p at M ⊢;have hc:`u_<=(`D (`fJ=0) 20 12):=by
  cases p with
  | text t=>
   have:=(`bkm).1;show t.length<=20;exact `w
  | row vs=>exact M.1
  | table ps=>exact `nZ M
  | rcd c ps=>exact `nZ M.2
 have a3:`nR:=by split at hc<;>lia
 have b1:=I.unl;let#[c,r]:=Lb0 S ok w ws hw hv I.d0 `l `l `ZV I.th `rG `vU (Om0 p) hc `l;obtain⟨S0,J⟩:∃S0:RS,S0=(`jc (le0 S `rG `vU) c):=`al;rw[← J] at r;have a4:=`bhY;have b0:S0.begun=`ZW++[(`fJ,[])]:=by
  rw[J,← a1];rfl
 have u0:S0.un=`aw9:=by
  rw[J,← a1];show (`L_ `CA)::`cE=_;rw[a4]
 have w0:S0.wait=`Og++`i':=by
  rw[J];show `Og++([`dj]++`nT)=_;rw[hw];rfl
 have a2:`J6=`hT:=by
  have:=I.wc;rw[hw,`Od a5] at this;exact `w
 have a7:`bjn:=`bjo
 have hh:∀q∈`ZW,`ahB:=by
  cases hu:`cE with
  | nil=>
   delta RS.hold;rw[hu];exact `ZS
  | cons k u=>
   let#[q,q1,q2]:=hun k u hu;rw[i50 hu];exact Y80 (P:=`bke) (f:=`aE3) `ZS q1 (`Zz (`o (q.2++[`we])) 30)
 have O:(`L_ (`kd (`we)))=`cl:=`k cw0 a1
 have I0:Inv `gm `wV T S0:=by
  have Y:S0.begun.length=`cl+1:=`P7 b0 O
  refine#[`eO Y `S,`aqn,`k J `nm,`Fn,`Fo,`avU,`k J I.l0,`k J I.s0,`J9,?_,`x8,?_,?_,`x8]
  ·rw[Y]
   rw[u0] at hk;rcases `bF hk with z|z
   ·lia
   ·have:=I.un k z
    lia
  ·rw[Y,u0,`ae]
   lia
  ·rw[b0] at hq
   apply `ZX
   ·exact hh q z
   ·rw[`gb];exact `bP
  ·rw[Y,w0,`S,`ae]
   have:=gc0 `rG `vU a3;have:=I.wl;lia
  ·rw[w0,u0,`bjp,N50 _ _ (Om0 p),`uB,`ae,a2]
   simp
  ·rw[b0] at hq
   apply `ZX
   ·exact `bkn
   ·rw[`gb];rfl
 by_cases h0:`fJ=0
 ·cases p with
  | text t=>
   have a6:=`bkm;let#[c',r']:=Pm0 `M7 S0 `cl `cE (`i') (I0.okS W) u0 (by
    rw[w0];rfl) (λq hq=>`cX (I0.held q hq)) I0.d0 (`cX I0.wlen) (K2 I0.wc) I0.th a6.2
   refine#[(`jc `abu c'),`ajz,?_,u0,?_,?_]
   ·have bb:`aw'=`ZW++[(0,`bko `Ld)]:=by
     show `bkp;rw[b0,`bkq];rfl
    have Z:`J'=`cl+1:=`P7 bb O
    have w1:`bkr<=60*(`cl+1)+1:=by
     rw[`ae];have:=I.wl;lia
    refine#[by show `J'=_;rw[Z,`S];rfl,I0.few,I0.nms,I0.tnd,I0.tin,rfl,I0.l0,I0.s0,`J9,?_,`x8,?_,?_,`x8]
    ·show k<`J'
     rw[Z];have:=I0.un k hk;have:=I0.len;rw[`S,`e3] at this;lia
    ·show `bks<=`J'
     rw[Z,u0,`ae];lia
    ·have hq:q∈`aw':=hq
     rw[bb] at hq;apply `ZX
     ·exact hh q z
     ·rw[`gb]
      show (`o (`bko _))<=30;rw[`x];lia
    ·show `bkr<=60*`J'+1
     rw[Z];exact w1
    ·show `Fj `ahC=`bks
     rw[u0,`uB,`ae,a2];simp
    ·have hq:q∈`aw':=hq
     rw[bb] at hq;apply `ZX
     ·exact `bkn
     ·rw[`gb]
      exact p70 λd hd=>by apply `ZY;rfl
   ·show `bkp
    rw[b0,`bkq];rfl
   ·rfl
  | row _=>cases h0
  | table _=>cases h0
  | rcd _ _=>cases h0
 ·have ht:tx p=[]:=by cases p with|text _=>exact `K rfl h0|_=>rfl
  rw[ht,`du,`amr,`amr];exact#[S0,r,I0,u0,b0,w0]
omit z
def Ni0{p:Pt}(h:`ZP):(`o `Og)=`Qc:=by
 cases p with
 | text w=>exact `alK
 | row vs=>show (`o `bj2)=`c8;rw[`GZ]
 | table ps=>show (`o `R_)=`Ad;rw[Ls0,vf0]
 | rcd c ps=>show (`o (Want.cls::`R_))=`XL;rw[`ae,Ls0,`ae,vf0]
def jh0{l:`aV}{a:α}{r:`aV}(h:l.drop n=a::r):l.drop `lm=r:=by
 rw[← `aJo,h];rfl
def T80(S:RS)(k:Nat)(u:`j)(ws:`aS)(hu:`im)(hw:`dU=`i'):`nr=(`rD ({ S with un:=u,wait:=ws })):=by
 skip;let#[c,b,u',nm,w',dg,l,sp]:=S;have e1:u'=k::u:=hu;have e2:w'=`i':=hw;subst e1 e2;done;rfl
def J50(W:`j7){p:Pt}(hp:p∈ps):∀s:Str,`bH s∈`fU->`AW:=(λs hs=>by
 have hv:=(`aCE).vals;have hn:=W.nm p hp;have J:∀qs:`_,(∀v∈`aw!,`a3)->`bH s∈qs.flatMap two->s∈`wO `bO:=λqs hv h=>by
  let#[q,hq,hm]:=i5.mp h;delta two at hm;rcases `Qr with e|hm
  ·apply `Af
   exact e▸`aAJ
  ·have:=hv q.2 `wH
   rw[← `asZ] at this;cases `w
 cases p with
 | text w=>cases hs
 | row vs=>exact `K (hv _ hs) (λz=>by cases z)
 | table qs=>exact `bkt
 | rcd c qs=>
  rcases `bF hs with e|hs
  ·apply `Af
   exact hn s (D4 _ (`k e `aAU))
  ·exact `bkt)
structure Done(ps:`aD)(pool:`e)(L:`j)(S S':RS)(k:Nat)(u:`j)(ws:`aS)(ds:`i)(B B':`j)(T':`e):Prop where
 inv:Inv `gm B' T' S'
 un:S'.un=k::u
 wt:S'.wait=`i'
 bg:S'.begun=`BO k (λq=>(q.1,q.2++ds.map (lkv `dJ)))++(B'.drop `cl).map `ahG
open T in
def sim(W:`j7)(L:`j){B B':`j}{T:`e}{b:`ai}(h:`nY):∀(S:RS) (k:Nat) (u:`j) (ws:`aS) (p:Pt) (pre:`i),`qV->`JJ->`ZM->(∃M,L=B'++M) ->
  `im->`aam=`c (`fJ,`vz (lkv `dJ))->p∈ps->`ZP->`fU=pre++ds->`dU=`aw4++`i' ->
  ∃S',`d0 `nr b S'.ends/\Done ps `gm L S S' k u ws ds B B' T':=by
 induction h with
 | nil B T=>
  apply `J!;have e:`aw4=[]:=List.drop_eq_nil_of_le (by rw[Ni0 h0,he,`du];exact `fA);rw[e] at hw;refine#[S,`Fp,I,hu,hw,?_];rw[`UK,`hE,`hE,`du,modify_id _ `bjD]
 | str h ih=>
  rename_i B T s ds B' T' b;apply `J!;apply `ahE `g8;rw[s1] at hw;have hl:`ZZ:=by
   have:=`Z_;apply `Z0;lia
  have hs:`AW:=J50 W hp s `bku;have b6:`mb:=`bkg (s3 s rfl)
  let#[S1,r,I1,A]:=Hj0 W I hu hk (`ahD) hw s hs (by
   rcases s3 s rfl with z|⟨z,q⟩
   ·exact `hd
   ·exact `u #[z,q `dJ])
  apply `aw? `P? hL;refine`bkv (`k (k00 hw b6) `ajz);rw[D'.bg,A.bg,sx0];apply `ZL;rfl
 | val hd h ih=>
  rename_i B T d ds B' T' b;apply `J!;apply `ahE d;have Y:`kH:=s2 λs e=>by rcases hd with rfl|⟨z,rfl⟩<;>cases e
  subst Y;rw[s1] at hw;have hl:`ZZ:=by
   have:=`Z_;apply `Z0;lia
  apply `axa;apply `ZN;apply `bkw d (by rcases hd with z|z;exact `hd;exact `u `Iw);apply `aw? [d] `axb;apply `bkx;rw[D'.bg,A.bg,sx0];apply `ZL
 | old hj h ih=>
  rename_i B T j ds B' T' b;apply `J!;apply `bky;apply `bkz
  subst Y;rw[s1] at hw;have hl:`ZZ:=by
   have:=`Z_;apply `Z0;lia
  apply `axa;apply `ZN;apply `bkw `kY (`u (`u #[j,hj,rfl]));apply `aw? [`eZ] `axb;apply `bkx;rw[D'.bg,A.bg,sx0];apply `ZL
 | new hj h1 h2 i1 i2=>
  apply `awQ;apply `J!;apply `bky;apply `bkz
  subst Y;rw[s1] at hw;have hw:`dU=`eF::(`AX):=hw;have hl:`ZZ:=by
   have:=`Z_;apply `Z0;lia
  have a2:`oV:=Tl0 (`wo hp `kY `bku);have a1:=i10 hn hj;have Z:∀x∈`ot,`qR:=λx hx=>by
   apply `qS
   ·exact hB x z
   ·rw[`gb];exact a2
  have b2:`cl<60:=by
   have:=`AA `awZ a1 (Z y hy)
   rw[`d?,`S,`e3] at this;have:=W.wb.len;lia
  apply `axa;let#[N1,a5]:=h1.pre;let#[N2,a4]:=h2.pre;have hπ:`J?=`cl:=by
   rw[hM,a4,a5,`be,`be,`be];exact zt1 hj
  have a7:=(`sB a2).2;have hI:=`wo a7;let#[S1,r,I1,u1,O,w1]:=enter W I hw `TQ (λk' u' e=>by
   rw[hu] at e;cases e;exact#[_,hk,`ahD]) j a2 b2
  have b0:=i50 hu (`we);have a8:k<`bkA:=by
   rw[`ux];exact I.un k `aI3
  have a3:`bkA=`cl:=`k `ux `hm
  have b7:`aJu=j::B1.drop `bgd:=by
   rw[a5,`J_,`be,`J_];rfl
  obtain⟨S2,r2,I2,u2,w2,c1⟩:∃S2,`bkB/\Inv `gm B1 T1 S2/\S2.un=`aw9/\S2.wait=`dj::(`AX)/\`axc=`bkC:=by
   by_cases ht:`ph=0
   ·have b4:`Ed=[]:=by
     cases e:`mp with
     | text _=>rfl
     | row _=>rw[e] at ht;cases ht
     | table _=>rw[e] at ht;cases ht
     | rcd _ _=>rw[e] at ht;cases ht
    rw[`ap0] at O w1;rw[b4] at h1;cases h1;refine`bkD;rw[O,b0,`J_];congr 1;show[_]=[`bkE];delta qf0;rw[ht];cases e:`mp with
    | text _=>rfl
    | row _=>rw[e] at ht;cases ht
    | table _=>rw[e] at ht;cases ht
    | rcd _ _=>rw[e] at ht;cases ht
   ·rw[`ap ht] at O w1
    rw[b0] at O;let#[S2,r2,D2]:=i1 S1 `cl `cE (`AX) `ob [] I1 a1 Z #[N2++M,by rw[hM,a4,`be]] u1 (by rw[O,`Iv,a3,`pC];rfl) a7 ht rfl w1;apply `bkF;rw[D2.bg,O,Zw0 _ _ _ _ a3.symm,b7,`J,`be];congr 1;show (`ph,[]++(`Ed).map (lkv `dJ))::_=`bkE::_;congr 1;delta qf0;cases e:`mp with
    | text _=>rw[e] at ht;exact `aw5
    | row _=>rfl
    | table _=>rfl
    | rcd _ _=>rfl
  obtain⟨S3,J⟩:∃S3:RS,S3={ S2 with un:=`cE,wait:=`AX }:=`al;have e3:`ahF=S3.ends:=`k J (T80 S2 `cl `cE _ u2 w2)
  have b5:S3.begun.length=B1.length:=`k J I2.len
  have I3:Inv `gm B1 T1 S3:=by
   have c2:=I2.wc;have l2:=I2.wl;have n2:=I2.unl;rw[w2,u2,`uB,`ae] at c2;rw[w2,`ae] at l2;rw[u2,`ae] at n2;refine#[b5,I2.few,`k J I2.nms,I2.tnd,I2.tin,`k J I2.d0,`k J I2.l0,`k J I2.s0,`iE,?_,`k J I2.held,?_,?_,`k J I2.th]
   ·rw[J] at hx ⊢
    exact I2.un x (`k u2 (A7 _ hx))
   ·rw[J]
    show `hT<=`axd;lia
   ·rw[J]
    show (`o `AX)<=60*`axd+1;lia
   ·rw[J]
    show `Fj `AX=`hT;simp at c2 ⊢;lia
  have b3:S3.begun=`bkC:=`k J c1
  have a6:lkv `dJ `kY=`we:=`eO Km.fk0 hπ
  let#[S',r',D']:=i2 S3 k u ws p (pre++[`eZ]) I3 (h1.nodup a1) (h1.range W.wb Z hI) `axb (`k J hu) (by
   rw[b3,`h' a8,bn0 hk,`au,`JR,a6]) hp h0 `adI (by
   rw[J,`S,`e3,jh0 s1])
  refine`bkv ?_
  ·rw[`aNc,Km.Ow0,`awY]
   refine r.app (r2.app ?_);rw[e3];exact r'
  ·rw[D'.bg,b3,Hh0 _ _ _ _ a8,sx0,`be]
   congr 1
   ·congr 1
    funext q
    rw[`J,a6,`be];rfl
   ·rw[← `au]
    congr 1;rw[a4,`J_,List.drop_append_of_le_length (by rw[a5];apply `aM `S;lia)]
structure Whl(q:`il):Prop where
 kd:q.1<4
 fits:`bi_
 tr:∀d∈q.2,`l3
 nr:`bi0
def Nh0(S:RS)(k:Nat)(q:`il)(hq:`lb)(h:`tn):`bi1:=by
 have e2:`bi2:=by
  show `avN;rw[`cH,hq];rfl
 have e1:`bi3:=by
  delta xq0;rw[`cU,hq];rfl
 rw[e1];delta pe0 vb0;simp only[rt0,`s,e2];rw[`I #[rfl,p70 h.tr,h.nr]]
theorem W80(S:RS):∀(ks:`j) (qs:`avy),`dY=qs.length->(∀(i k:Nat) (q:`il),ks[i]?=`f_->qs[i]?=`KL->`lb)->`bkG->`ab5 `D? (ks.map `KT)=`c (`wO λq=>`t `wN)
 | [],[],_,_,_=>rfl
 | [],_::_,h,_,_=>by cases h
 | _::_,[],h,_,_=>by cases h
 | `qx,q::qs,h,hat,hw=>by
  have ih:=W80 S ks qs `fX (λi k' q' h1 h2=>hat `dn k' q' h1 h2) (`Ar hw)
  rw[`J,`J];delta partsOf;rw[Nh0 S k q (hat 0 k q rfl rfl) (hw q A8),ih];rfl
theorem b40:∀(xs:`i),(∀d∈xs,`l3)->∀q∈`F3,tr q.1=`d/\tr q.2=`d
 | [],_,q,hq=>by cases hq
 | [a],_,q,hq=>by cases hq
 | `avA,h,q,hq=>by
  rcases `bF (show q∈`avB from hq) with rfl|hq
  ·exact#[`XD,h b (`ai9)]
  ·exact b40 r (λd hd=>h d (A7 _ (A7 _ hd))) q hq
def aj0(a b:D)(ha:tr a=`d)(hb:tr b=`d):tr (`U5)=`d:=by
 show trs `mO=`d;exact p70 λd hd=>by
  apply `IW
  ·exact ha
  ·rw[`YX];exact hb
def Ub0(xs:`i)(h:∀d∈xs,`l3):tr `biS=`d:=by
 show trs _=`d;exact p70 λd hd=>by
  apply `axe;exact aj0 _ _ (`bkH).1 (`bkH).2
def Ew0(h:`tn):tr (`ic q)=`d:=by
 skip;let#[kd,held]:=q;have ht:=h.tr
 rcases k4 h.kd with rfl|rfl|rfl|rfl
 ·done;exact aj0 _ _ rfl rfl
 ·done;exact aj0 _ _ rfl (show trs `b5=`d from p70 ht)
 ·done;exact aj0 _ _ rfl (Ub0 `b5 ht)
 ·done;show trs [`bH `hU,`biZ,`tl (`biY).map]=`d;refine p70 `qK
  skip;apply `IW
  ·done;rfl
  apply `IW
  ·cases `b5 with
   | nil=>done;rfl
   | cons a r=>done;exact ht a A8
  ·done;rw[`YX]
   exact Ub0 _ λd hd=>ht d (a40 hd)
def Do0(S:RS)(hl:`JQ)(h:∀q∈`dG,`tn)(p:`f):bs0 0 `rP 1 [] `eW `Yr `gU=`c (`axf,`gU):=by
 apply `cq
 delta bs0;rw[P00,`s,t50,`s,sn0,`s];show (`ab5 `D? (`wK)).bind _=_;rw[W80 S (`bc `dD) `dG (by rw[`d?]) (λi k q h1 h2=>by
  let#[a,b]:=`c9 h1;rw[`axg] at b;rw[← b];exact h2) h,`s]
 have e:`IX (λ_=>`c (`r7 `bkI)) `Yr (`cr ([`tf]:Ds).length .un)=`c (`m `adJ):=by
  refine w00 rfl `em ?_;have key:∀qs:`avy,`bkG->`nk `Yr (`wO `bkI)=`c (`wO `ic):=by
   intro qs
   induction qs with
   | nil=>exact `lv
   | cons q qs ih=>
    intro hq;have h1:=hq q A8;rw[`J];delta wl0;have e1:oA `aB7 wk0 [`awA]=`c (`ic q):=by
     rw[`bi4];exact fr0 q.1 h1.kd q.2 h1.fits
    simp only[`bz (gN 0 (`cb `wN) `aar=`c [`awA]),`s,noT,e1,ih (`Ar hq)];rfl
  exact key `dG h
 rw[e,`s];simp only[];rw[`I (p70 λd hd=>by apply `axe;exact Ew0 (h q hq))]
def ya1(S:RS)(hw:`JP)(hl:`JQ)(h:∀q∈`dG,`tn):o80 `cc []=`c (`axf,R S):=by
 apply `gf `gU
 show ka0 `gU=_;refine `eQ `gU (`DT ?_)
 ·have t:o50 `Yp `gU=`c (`q,`gU):=by
   delta o50 uc0;rw[`bh?,hw];rfl
  delta ifX;rw[t];rfl
 ·exact Do0 S hl h p
def S40{f:`bX}{gA:GA}{S:RS}{s0:Sl}{r:D}(hA:gA `bkJ=`or)(hf:`Zc=`m6):wa0 1 `bv W7 gA f `bkJ=`c (r,[s0,.ow (R S')]):=by
 have h:`ajy:=`eY
 delta wa0;show `bht;rw[`bM,hA,`s];show `qQ `Zc;rw[hf];rfl
def R30(l:`ai)(S:RS)(h:`d0 `kO l S)(hw:`JP)(hl:`JQ)(hq:∀q∈`dG,`tn):rs0 [`m `vy]=`c (`axf):=by
 apply `cp [`Fh,.ow (R `kO)] ?_ (`bU [`Fh,.ow `cc] `g2)
 ·delta Zl0
  rw[Bc0];rfl
 ·delta R9
  rw[S40 `e' (Dh0 h)];rfl
 ·delta Oo0
  rw[S40 (ds:=[]) rfl (ya1 S hw hl hq)];rfl
def Jr0(W:`j7)(hj:`oV)(π:`bu):Whl (qf0 ps π j):=by
 have hp:=`aw0;have ho:=W.ok _ hp;have hI:=`wo hp;have J:=ls0 ho;delta qf0;generalize `mp=p at ho hI J;have gen:`ZP->(`fJ=3->`fU≠[])->Whl (`fJ,`avh):=λh0 h3=>by
  refine#[Om0 p,#[`ZQ (`o (`aDW _)),λz=>`K z h0,λz=>`a7 (h3 z)],`qK,gn0 `qK]
  ·let#[x,hx,rfl]:=`gC
   exact(`bkK).1
  ·let#[x,hx,rfl]:=`gC
   exact(`bkK).2
 cases p with
 | text w=>
  have hw:=(ly0 (w:=w) ho).1;refine#[`bE (0<4),#[`ZQ (`o (`ta _)),λ_ d hd=>?_,λz=>nomatch z],`qK,gn0 `qK]
  ·apply `ZY
   exact#[c,rfl]
  ·apply `ZY
   rfl
  ·apply `ZY
   rfl
 | row vs=>apply `bkL
 | table qs=>apply `bkL
 | rcd c qs=>exact gen `g4 λ_ z=>nomatch z
def Ix0(W:`j7){T:`e}{b1:`ai}(h:`aw1)(hp:`aw2):∃S,`d0 `kO (`Of) S/\`JP/\`cE=[]/\`JQ/\(∀q∈`dG,`tn)/\`cb `adJ=`bkM:=by
 skip;have M:=W.wb.len;apply `bjV M.1
 have hI:=`wo `bkN;have hr:=h.range W.wb hB hI;apply `ZN;have I0:Inv `gm [] [] `kO:=#[rfl,`a_,rfl,E8,(λs hs=>by cases hs),rfl,rfl,rfl,(λk hk=>by cases hk),`a5,(λq hq=>by cases hq),`a5,`a5,λq hq=>by cases hq];let#[S1,r,I1,u1,J,w1]:=enter W I0 (w:=`vK) (ws:=[]) rfl `gY (λk u e=>by cases e) 0 M.1 `az;have a1:(start.hold (link ([]:`j).length)).begun=[]:=rfl;rw[a1,`c'] at J;obtain⟨S2,r2,I2,u2,w2,O⟩:∃S2,`bkB/\Inv `gm L T S2/\S2.un=[0]/\S2.wait=[`dj]/\`axc=L.map `ahG:=by
  by_cases ht:kn (`rH)=0
  ·have Z:`Oe=[]:=by
    cases e:`rH with
    | text _=>rfl
    | row _=>rw[e] at ht;cases ht
    | table _=>rw[e] at ht;cases ht
    | rcd _ _=>rw[e] at ht;cases ht
   rw[`ap0] at J w1;rw[Z] at h;cases h;refine`bkD;rw[J];show[_]=[qf0 ps (ix [0]) 0];delta qf0;rw[ht];cases e:`rH with
   | text _=>rfl
   | row _=>rw[e] at ht;cases ht
   | table _=>rw[e] at ht;cases ht
   | rcd _ _=>rw[e] at ht;cases ht
  ·rw[`ap ht] at J w1
   let#[S2,r2,D2]:=sim W L h S1 0 [] [] (`rH) [] I1 `az hB `bjI u1 (`avU) `bkN ht rfl w1;apply `bkF;rw[D2.bg,J,hN];show[(kn (`rH),[]++(`Oe).map (lkv (ix ([0]++N))))]++`BT _=qf0 ps (ix ([0]++N)) 0::`BT _;rw[List.singleton_append];congr 1;delta qf0;cases e:`rH with
   | text _=>rw[e] at ht;exact `aw5
   | row _=>rfl
   | table _=>rfl
   | rcd _ _=>rfl
 have e2:`ahF=`bkO:=`ax (T80 S2 0 [] [] u2 w2)
 rw[e2] at r2;have Y:`d0 `kO (`Of) `bkO:=by
  rw[hp,Km.Ow0,`cB];exact Runs.app r r2
 done;refine#[_,Y,rfl,rfl,`Rt (`axd<=60) I2.len I2.few,`x8,?_]
 ·have hq:q∈`axc:=hq
  rw[O] at hq;let#[j,hj,rfl]:=`awt;exact Jr0 W (hr j hj) _
 show `cb (S2.begun.map `ic)=`cb ((`bgl).map `ia);rw[O,`M,`M];congr 1;refine `biu
 exact Lg0 _ _
def Ck0(W:`j7){T:`e}{b1:`ai}(h:`aw1)(hp:`aw2):rs0 `bkP=`c (`bkM):=by
 skip;let#[S,r,h1,_,h3,h4,h5]:=Ix0 W h hp;done;rw[R30 _ _ r h1 h3 h4,h5]
open Bt (wd0)
open K22 (lkv rel Lv tgs nd)
def Qf0(a b:`i):tgs `OX=tgs a++tgs b:=by delta tgs;rw[List.filterMap_append]
def Es0{p:Pt}:tgs `OY=`Jz:=by
 have key:∀qs:`_,tgs (qs.flatMap two)=tgs (`aw!):=λqs=>by
  induction qs with
  | nil=>rfl
  | cons q qs ih=>
   rw[`cO,Qf0,ih];show tgs [`r3,q.2]++tgs _=tgs ([q.2]++`aw!);rw[Qf0];rfl
 cases p with
 | text w=>rfl
 | row vs=>rfl
 | table qs=>exact key qs
 | rcd c qs=>exact key qs
omit Rk
namespace Qw
open DL W K22
open Km (Wb ix p50 d30 laid lkd)
structure Cl(ps:`aD)(L:`j):Prop where
 nd:`Y0
 lt:∀k∈L,`iP
 cl:∀k∈L,∀j∈A ps k,j∈L
 hd:∃s,L=0::s
def pr0(ps:`aD)(L:`j):`bgm:=by delta Km.laid;rw[`x]
def y41(h:`Y0)(hi:`Ka):ix L L[i]=i:=by
 have h1:L[ix L L[i]]?=`c L[i]:=d30 (D6 hi);have h2:=p50 (D6 (l:=L) hi);rw[`fW h2] at h1;exact(i7 h).mp (B4 h1)
def ew0(h:j∈L):`vx (`J?) 0=j:=by
 rw[`cU,d30 h];rfl
def Yf0(ps:`aD)(hi:`Ka):`bkQ=rel `dJ (pq ps L[i]):=by
 delta pq Km.laid;simp[`cU,hi]
section
variable(hw:`cD)(c:`AY)
include c in
def Cl.len:0<`oD/\`bjW:=by
 have:=`AA `us c.nd (c.lt y hy)
 apply `ay `d?;let#[s,e]:=c.hd;exact#[`aik,`w]
include hw c
def M60(hi:`Ka):A `gJ i=(A ps L[i]).map `dJ:=by
 delta A;rw[Yf0 ps hi,Ua.T40];exact Ua.Qv0 `dJ (gj0 hw (c.lt _ (D6 hi))).lv
def Ux0:Wb `gJ:=(Km.Dc0 hw #[c.len.1,C3 `ahJ `td] c.lt c.cl)
def Xe0{r:`j}(cr:Cl `gJ r):`e9 `gJ r=`e9 ps `axh/\Cl ps `axh:=by
 have hr:∀i∈r,`Ka:=λi hi=>by have:=cr.lt i hi;apply `iD pr0
 have gt:∀i∈r,∃h:`Ka,`D1=L[i]:=λi hi=>#[hr i hi,by simp[`cU,hr i hi]]
 have inj:∀a∈r,∀b,b<`oD->`vx a 0=`vx b 0->a=b:=λa ha b hb e=>by
  let#[h1,e1]:=gt a ha;rw[e1,`F_ (`vx b 0=L[b]) hb] at e;exact(i7 c.nd).mp e
 constructor
 ·show `r1 _=`Qw _ (`r1 _)
  rw[`M];refine D7 `Ys
  apply `axi;show rel (ix r) (`bkQ)=rel (ix `axh) (pq ps (`D1));have hp:=gj0 hw (`bkR);rw[Yf0 ps h,e,Ua.En0 hp];refine Ua.Wc0 hp `qt
  have J:=`bkS;have:=Km.idx_map (`aD') (`J?) r λb hb e=>inj b hb _ (p50 J) e
  apply `ay (ew0 J);exact this.symm
 ·refine#[Ua.O10 (`xP (inj a ha b (hr b hb) e)) cr.nd,`J9,`bjX,?_]
  ·apply `bkT
   apply `axi;show `D1<_;rw[e];exact `bkR
  ·apply `bkT
   apply `axi;have hj:j∈A ps (`D1):=hj;rw[e] at hj;have J:=`bkS;have:`J?∈A `gJ i:=by
    rw[`bkU];exact Y1 hj
   exact `iZ #[`J?,cr.cl i hi _ `w,ew0 J]
  ·let#[s,rfl]:=cr.hd
   let#[t,rfl]:=c.hd;exact`al
omit z
def Mt.hd{r:`j}(m:`AZ):∃s,r=0::s:=by
 let#[c,h,_]:=m.ex;cases h with
 | skp hx _=>exact `K (`avt) `az
 | visit _ _ _ hd=>
  let#[s,e]:=Ua.i80 hd;exact#[s,e]
def Mt.cl'{r:`j}(m:`AZ):Cl ps r:=(#[m.nd,m.lt,m.cl,m.hd])
def Mt.sub{r:`j}(m:`AZ)(h0:0∈L)(hc:∀k∈L,∀j∈A ps k,j∈L):∀x∈r,x∈L:=by
 let#[c,h,_]:=m.ex;exact M10 (C:=λx=>x∈L) hc h `Wy λx hx=>`k (`eb hx) h0
section
variable(hw:`cD){r:`j}(c:`AY)(m:`AZ)
include c in
def Cl.zero:0∈L:=by let#[s,rfl]:=c.hd;exact A8
include c in
def ze1:∀a∈L,∀b∈L,`bkV:=(`xP (by rw[← ew0 ha,← ew0 hb,e]))
include hw c m
def dk0:Mt `gJ 0 (`Z1):=by
 have sub:=`bkW;have h0:ix L 0=0:=by let#[s,rfl]:=c.hd;rfl
 have adj:∀i∈r,A `gJ `aNa=(`Y2).map `dJ:=λi hi=>by
  have h:=p50 `axj;rw[`bkU];congr 2;have:=d30 `axj;apply `ay (`fW h);exact `xq
 have inj:∀a∈r,∀b∈r,`bkV:=`xP (ze1 c a (sub a ha) b (sub b hb) e)
 refine#[?_,Ua.O10 inj m.nd,`Th,λy hy j hj=>?_,?_]
 ·let#[n,h1,h2]:=m.ex
  refine#[n,?_,h2];have:=Ua.Ee0 (adj':=A `gJ) `dJ h1 inj adj;rw[`hE,`J,`hE,h0] at this;exact `w
 ·apply `bkX
  rw[pr0];exact p50 `axj
 ·apply `bkX
  rw[adj i hi] at hj;let#[k,hk,rfl]:=`c2 hj;exact Y1 (m.cl i hi k hk)
 ·exact `iZ #[0,m.me,h0]
def Bj0:`e9 `gJ (`Z1)=`Cx:=by
 rw[(Xe0 hw c (`axk).cl').1,`M];congr 1;have sub:=`bkW;refine(D7 `qt).trans (p9 r);exact ew0 (sub j hj)
def ld0:vq0 `bkY=`avp:=by
 have ml:=`axk;have:=Zq0 `bkZ ml `bk_
 apply `ay (Bj0 hw c m);exact `w
def Je0:qh0 `bkY=`dN (K22.nd (`Z1)):=by
 have ml:=`axk;exact Ff0 `bkZ ml `bk_
omit z
def Ic0(h:j<n):ix (`ww) j=j:=by
 have:=y41 (L:=`ww) B20 (i:=j) (by rwa [r9])
 apply `iD `axg
def G20(p:Pt):`DL p `dE=p:=by
 have key:∀l:`_,`aLB (`iy)=l:=λl=>by
  rw[`Z2];exact p9 l
 cases p with
 | text w=>rfl
 | row vs=>rfl
 | table l=>exact D9 `vP (key l)
 | rcd c l=>exact D9 (`kv c) (key l)
def di0(hw:`cD):`e9 ps (`Lq)=ps/\Cl ps (`Lq):=by
 refine#[?_,B20,λk hk=>`H!,λk hk j hj=>`kr ((Yl0 hw (`H!)).2 j hj),?_]
 ·refine i6 (by rw[pr0,`d?]) `bdJ
  have hp:=gj0 hw h2;rw[← p90 h1,Yf0 ps (`k `d? h2),`axg];rw[Ua.Wc0 hp (g:=λj=>j) λj hj=>Ic0 ((Yl0 hw h2).2 j hj),p90 h2];delta K22.rel;rw[p90 h2] at hp;rw[(D7 λv hv=>Ua.Ax0 v (hp.lv v hv)).trans (p9 _),G20]
 ·have:=hw.len.1
  obtain⟨n,hn⟩:∃n,`V=n+1:=#[`V - 1,`U];rw[hn];exact#[_,`VL]
open Km (Wb ix laid lkd)
open Bw (Vb)
open Mk (dkv val yy0 kys Ent ent ap Yn0)
open Nx (eff fil np' pu0 s80 ru0 ph0 ro0 nf0 ij0 ig0 J60 dm0 nc0 q90 Xv0)
def NL(v:D):Prop:=`tb∨∃z:Int,v=`fG
def NL.lkv{v:D}(h:NL v)(f:`bu):lkv f v=v:=by
 apply `bgS
def lm(f:`bu)(l:`_):`_:=`aH λq=>(q.1,lkv f q.2)
theorem cs0(g:`hF):∀(ks:`a1) (vs:`i),`rE `Fq=`bk0 λp=>(p.1,g p.2)
 | [],vs=>`a_
 | `qx,[]=>`a_
 | `qx,v::vs=>by rw[`J,`d!,`d!,`J,cs0 g ks vs]
def Mp0(g:`hF)(ks:`a1)(vs:`i)(k:Q3)(v:D):xy0 ks `Fq k (g v)=(`ath).map g:=by
 delta xy0
 by_cases h:`agN
 ·rw[`bM,`bM,cs0,`M,`M]
  refine D7 λp _=>?_
  show (`D `Cg (g v) (g p.2))=g (`bk1);split<;>rfl
 ·rw[`bV,`bV,`au]
  rfl
theorem Rt0(g:`hF):`a?I (dkv ks `Fq (`aH λq=>(q.1,g q.2))=(`axl,(`Oh).2.map g))
 | [],ks,vs=>rfl
 | p::l,ks,vs=>by
  rw[`J];show dkv `Qh (xy0 ks `Fq `vX (g p.2)) _=_;rw[Mp0];exact Rt0 g l _ _
def T90(g:`hF)(k:Q3):∀(ks:`a1) (vs:`i),`bk2=(`Ah).map g:=by
 intro z;induction z with
 | nil=>intro vs;cases vs<;>rfl
 | cons a ks ih=>
  intro z1;cases z1 with
  | nil=>exact rfl
  | cons v vs=>
   show (if a=k then `c (g v) else `bk2)=(`D (a=k) `aX `Ah).map g
   by_cases e:a=k
   ·rw[`cf,`cf];rfl
   ·rw[`bW,`bW];exact ih vs
def zq1(f:`bu)(l:`_):`DV `sN=(`e8,(`aaa).2.map `v!):=(Rt0 `v! l [] [])
def Z20(hf:∀p∈fl,`pO)(n:Str):NL `N3:=by
 delta Nx.fil Mk.val;cases e:`baB with
 | none=>exact `mi
 | some v=>exact Mk.ni0 NL fl [] [] `I0 hf v `bk3
def Tp0(f:`bu)(hf:∀p∈fl,`pO)(n:Str):`aNd=`aNe:=by
 delta Nx.eff;rw[zq1];dsimp only
 by_cases h:`ul
 ·rw[`bM,`bM]
  delta Mk.val;rw[T90];cases `atm<;>rfl
 ·rw[`bV,`bV]
  exact((`axm).lkv f).symm
def Dk0{v w:D}(hv:`a3)(hw:NL w)(f:`bu):deq (lkv f v) w=deq v w:=by
 cases hv with
 | non=>rfl
 | int z _=>rfl
 | lk j _=>
  rw[Ua.mm0];rcases hw with rfl|⟨z,rfl⟩<;>simp[deq]
def xs1(f:`bu)(hl:∀p∈l,`f3)(hf:∀p∈fl,`pO)(hfv:∀p∈fl,`f3)(fs:`e):np' `sN fs fl=lm f (`aE4):=by
 have e:pu0 `sN fs fl=`bk4:=by
  refine L2.gd0 (`baC fs fs) (ph0 fs) (ph0 fs);rw[`axn,`axn,`aNf,Dk0 (ij0 hl hfv n) (`axm)]
 rw[s80,s80,e];delta lm;rw[`au,`M,`M];congr 1
 ·apply `bk5
 ·apply `bk5
def d60(f:`bu)(c:Str)(l:`_):rel f `vT=`hQ c `sN:=by
 show `kv c `bk6=_;rw[`M,`Z2];rfl
structure Fl(es:`aI):Prop where
 nl:∀e∈es,∀p∈`ck,`pO
 vb:∀e∈es,∀p∈`ck,`f3
def ll0(es:`aI)(as:`a!)(c:Str):(∀l,`atB)∨∃e fs,`nS/\`pN/\(`bk7)/\`bk8:=by
 cases h1:`kU with
 | none=>exact `n λl=>by delta Mk.yy0;simp only[];rw[h1]
 | some x=>
  cases h2:`gp with
  | none=>exact `n λl=>by delta Mk.yy0;simp only[];rw[h1];simp only[];rw[h2]
  | some e=>exact `u #[e,`OG,L6 h2,rfl,#[x.2,rfl],λl=>nf0 h1 h2]
section
variable{es:`aI}(hF:Fl es)(as:`a!)
include hF
def Ik0(f:`bu){p:Pt}(hp:∀v∈`dE,`a3):`Cv (`Ay)=rel f `Z3:=by
 cases p with
 | text w=>rfl
 | row vs=>rfl
 | table ps=>rfl
 | rcd c l=>
  have hl:∀p∈l,`f3:=λp h=>hp p.2 (`jq p h)
  rw[d60];skip;apply `bk9
  ·done;rw[h,h,d60]
  ·done;rw[h,h,d60,xs1 f hl (hF.nl e he) (hF.vb e he)]
omit hF in
def Qq0{vs:`i}(h:∀v∈vs,`a3):j∈`qP↔`eZ∈vs:=by
 refine#[λhj=>?_,λhj=>i60 hj];let#[v,hv,e]:=d6.mp hj;cases h v hv with
 | non=>cases e
 | int z _=>cases e
 | lk k _=>
  simp only[`cF] at e;cases e;exact hv
omit hF in
def y81(hn:`axo){p:`gh}(hp:p∈l):`ahI=p.2:=by
 have hk:p.1∈`mI:=nc0.mpr `pM;delta Nx.eff;rw[`I (`I' hk)];delta Mk.val;rw[dm0 (λn=>(`jz (`E5 λa=>`an (a.1=n))).getD `y) l [] [] rfl `baD (λq hq=>`ax (Mk.nu0 `bO hn hq)) p.1 (Mk.vl0.mp (`I' hk)),Mk.nu0 `bO hn hp];rfl
omit hF in
def Ka0(hf:∀p∈fl,`pO)(n:Str):`kM∈`iy∨NL `N2:=by
 delta Nx.eff;split
 ·delta Mk.val
  cases e:`atm with
  | none=>exact `bfx
  | some v=>exact `n (Mk.ni0 (λv=>v∈`iy) l [] [] `I0 (λp hp=>`aaB) v `bk3)
 ·exact `u (`axm)
omit hF in
def Zj0(hf:∀p∈fl,`pO)(fs:`e):∀v∈`bk',v∈`iy∨NL v:=by
 intro v hv;rw[s80,`au] at hv;rcases `axp with h|h
 ·rw[`M] at h
  let#[n,_,rfl]:=`qC;exact Ka0 hf n
 ·rw[`M] at h
  let#[n,_,rfl]:=`qC;exact Ka0 hf n
omit hF in
def v41(hn:`axo)(hf:∀p∈fl,`pO)(hfv:∀p∈fl,`f3)(fs:`e)(j:Nat):`eZ∈`bk'↔`eZ∈`iy:=by
 constructor
 ·intro h
  rcases Zj0 hf fs _ h with h|h
  ·exact h
  ·rcases h with h|⟨z,h⟩<;>cases h
 ·intro h
  let#[p,hp,e]:=`qC;have he:=y81 (fl:=fl) hn hp;rw[s80,`au,`M,`M]
  by_cases hm:p.1∈fs
  ·exact D1 _ (`iZ #[p.1,hm,`bk!])
  ·refine D4 _ (`iZ #[p.1,(`axn).mpr #[hm,?_],`bk!])
   rw[he,e];rcases Z20 hf p.1 with h|⟨z,h⟩<;>rw[h]<;>simp[deq,Km.lkd]
def Ft0{p:Pt}(ho:p.Ok)(j:Nat):`eZ∈(`Cu).vals↔`bk?:=by
 skip;cases p with
 | text w=>done;exact P8
 | row vs=>done;exact P8
 | table ps=>done;exact P8
 | rcd c l=>
  apply `bk9
  ·done;rw[h]
  ·done;rw[h]
   exact v41 ho.2.nd (hF.nl e he) (hF.vb e he) fs j
omit z
omit Qw
namespace Rk
open DL W Rm StrLaws
open Bt (wd0)
open Bw (bs sg its two kn cnt tx Vb Gq)
open Km (lkd It Wb ix)
open K22 (lkv rel Lv tgs nd)
def Ai0{p:Pt}(h:p.Ok):`asY:=by
 cases p with
 | text w=>exact `bP
 | row vs=>exact h.1
 | table qs=>show `bla;rw[`x];exact `nZ h
 | rcd c qs=>show `bla;rw[`x];exact `nZ h.2
def Gi0{k:Nat}(hk:`iP):ixD `Lp `uP=`c ps[k].d:=by
 show atI `mj `cS=_;rw[`X7,`cF];simp[`cU,hk]
omit Rk
namespace Qw
open DL W K22
open Km (Wb ix laid lkd)
open Bw (Vb Gq Gs bg sts af0 bun pb pg0 bs Gw' xr0 web small)
open Mk (dkv val yy0 kys Ent ent ap GP GB' GE')
open Nx (eff fil np' pu0 s80 ru0 ro0 nc0)
open Ia (Tel)
open Rk (Wf)
def N9:`e:=["a", "bb", "c1", "d", "e9", "ff", "g", "hh", "i0"]
def N3:`e:=[`oF, `rF, "owl"]
def NN:`e:=N9++N3
def lx0:∀s∈NN,`XO:=`aU
structure Pa(n:Nat)(p:Pt):Prop where
 ok:p.Ok
 vb:∀v∈`dE,`blb
 nm:∀s∈p.pnames,`to
 cl:∀s∈p.cls,s∈N3
structure Ws(ps:`aD):Prop where
 len:`bfw
 pa:∀p∈ps,Pa `V p
def Pa.all{p:Pt}(h:`n_):∀s∈`iO,s∈NN:=(λs hs=>by
 rcases `axq with z|z
 ·exact D1 _ (h.nm s z)
 ·exact D4 _ (h.cl s z))
def Pa.gq{p:Pt}(h:`n_):Gq p:=by
 have ho:=h.ok;refine#[?_,`blc,λs hs=>C3 (Nk0 (`bld)) `l,Rk.Ai0 ho];cases p with
 | text w=>exact(Rk.ly0 (w:=w) ho).1
 | row vs=>exact C3 ho.1 `l
 | table qs=>exact C3 (`nZ ho) `l
 | rcd c qs=>exact C3 (`nZ ho.2) `l
def Pa.gs{p:Pt}(h:`n_):Gs p:=(#[λs hs=>`bld,λw e=>by
 subst e;exact(`ble).2])
def Pa.gp{p:Pt}(h:`n_):GP NN p:=(#[`cX h.gq.few,λw e=>by
 subst e;exact(`ble).1,`blc,`NJ])
section
variable(h:`j8)
include h
def Ws.wb:`cD:=(#[`d7,λp hp=>(`xW).gq,λp hp v hv=>(`blf).2])
def Ws.wf:Wf ps NN:=(#[h.wb,`a5,lx0,λp hp=>(`xW).ok,λp hp=>(`xW).all])
def Ws.gp:∀p∈ps,GP NN p:=(λp hp=>(`xW).gp)
def Ws.gs:∀p∈ps,Gs p:=(λp hp=>(`xW).gs)
def Ws.lean:`FE (`ro):=(Mx.Hq0 h.gp 45)
omit z
def ip0{v:D}(h:`a3):`a'o:=by
 cases h with
 | non=>rfl
 | int z _=>rfl
 | lk j _=>
  show (marks (`ri) "at"&&`an (`f5<=`bN))=`d;rw[`qJ];rfl
def Af0{v:D}{m:Nat}(hv:`a3)(hl:`Q_)(f:`bu)(hm:m<=60)(hf:∀j,v=`eZ->f j<m):Vb (lkv f v)/\`CB m (lkv f v):=by
 cases hv with
 | non=>exact`blg
 | int z h=>exact`Z4 (`h z h)
 | lk j _=>
  have:=hf j rfl;rw[Ua.mm0];exact#[.lk _ `l,`ahP `w]
def U50(f:`bu)(l:`_):`blh `bO=`k1:=by delta lm;rw[`M];rfl
def Fj0(h:PsOk l)(f:`bu)(hv:∀v∈`blh `fB,`a3):PsOk `sN:=by
 refine#[by delta lm;rw[`x];exact `d7,`lK,λp hp=>ip0 (hv _ `pM),`k U50 `d6];apply `axr;exact h.names q hq
def Ej0(f:`bu)(l:`_):rel f (`n! l)=`n! `sN:=by
 show `vP `bk6=_;rw[`M,`Z2];rfl
def Pa.rel{m:Nat}{p:Pt}(h:`n_)(f:`bu)(hm:m<=60)(hf:∀j∈`Jz,f j<m):Pa m (`Ay):=by
 have vb:∀v∈(K22.rel f p).vals,`a3/\`CB m v:=λv hv=>by
  rw[Ua.T40] at hv;apply `avj;let#[h1,h2]:=h.vb u hu;exact Af0 h1 h2 f hm λj e=>hf j (i60 (show `bk? from e▸hu))
 cases p with
 | text w=>exact`Kb h.ok h.nm
 | row vs=>exact`Kb #[`Rt (`Fr `bgU) `x h.ok.1,`bli] h.nm
 | table l=>
  rw[Ej0] at vb ⊢;exact`Kb (Fj0 h.ok f `blj) `blk
 | rcd c l=>
  rw[d60] at vb ⊢;exact`Kb #[h.ok.1,Fj0 h.ok.2 f `blj] `blk
def Ws.laid(h:`j8)(c:`AY):Ws `gJ:=by
 have e:=pr0 ps L;refine#[`p5 e #[c.len.1,`bll],`lK];rw[e];apply `YZ;have J:=`Kc;have:=`blm;exact this.rel (Km.ix L) (`bll) λj hj=>Km.p50 (c.cl k hk j hj)
def wm1(W:`j7):∃L:`j,`AY/\Rk.kd0 [`ro]=`c (`aJv)/\Rk.rs0 `bkP=`c (web `gJ):=by
 skip;let#[L,T,b1,h,hp,hn,hL,hc,N,hN]:=Rk.G70 W.wb;done;refine#[L,#[hn,hL,λk hk i hi=>?_,N,hN],(Km.Et0 W.wb).1,Rk.Ck0 W h hp];skip;have hi:i∈tgs (`xQ).vals:=hi;rw[← Rk.Es0] at hi;let#[v,hv,e]:=d6.mp hi;let#[_,w2]:=`sB (hL k hk);have hI:=`wo w2 v hv;rcases hI with⟨s,rfl,_⟩|rfl|⟨z,rfl,_⟩|⟨j,rfl,_⟩
 ·cases e
 ·cases e
 ·cases e
 ·simp only[`cF] at e
  cases e;done;exact hc k hk i hv
section
open Bw (ix)
theorem Li0:∀(ds:`i) (a i:Nat),yz0 ((`xN a `b2).map λ(j:Nat)=>`au7) ds (`n `auj)=`Ui
 | [],a,i=>`en yz0
 | `b1,a,0=>by
  rw[`ae,`xK,`J];delta yz0;rw[`I (by rw[Nat.add_zero])];rfl
 | `b1,a,i+1=>by
  have ih:=Li0 ds (a+1) i;rw[`ae,`xK,`J];delta yz0;rw[`z8 `bgr,`Iu,← ih,`aZ (a+`dn=a+1+i)]
def lk(T:`ai):D:=.fn (rk `fS) `axs
def Gy0{T l pre post:`ai}{a:Nat}(hT:T=pre++(l++post))(ha:`dI=a):Tel (lk T) a l:=(λi hi=>by
 have h:=Li0 `axs 0 (a+i);rw[`b4,`x,← `au6] at h;show yz0 (rk `fS) `axs (`n `auj)=_;refine `Cy ?_;subst hT ha;rw[`cH,`Iv,`T3,`h' hi,`fW hi];rfl)
def yo1{k:Nat}(hk:`iP):∃post,`adK=(`pE++`bln)++(`axt++post):=by
 refine#[`blo,?_];delta Bw.bun;have e:ps=`mA k++ps[k]::`aJB:=by
  rw[← `NN hk,List.take_append_drop]
 have e2:`as_=`bln++(`axt++`blo):=by
  conv=>lhs;rw[e]
  rw[`ui,`cO]
 rw[e2,`be]
def zc1(ps:`aD):Tel (`axu) 0 (`pE):=(Gy0 (pre:=[]) (post:=`as_) rfl rfl)
def Bu0{k:Nat}(hk:`iP):Tel (`axu) (bg ps k) (`axt):=by
 let#[post,ep]:=yo1 hk;exact Gy0 ep (by delta Bw.bg;rw[`S])
def bundled(h:`j8):`a?d/\∃r,Cl ps r/\qt0 [`axu,`b']=`c (web `N9):=by
 refine#[Bw.Ah0 (Go0 h.wb),?_];let#[r,m]:=`blp;refine#[r,m.cl',?_];exact mr0 h.wb h.gs m (zc1 ps) λx hx=>by
  rw[`avx];exact Bu0 `aDX
omit z
def Sy0:`a'v:=by
 intro z;induction z with
 | nil=>intro m _ _;exact `bP
 | cons a l ih=>
  intro m h hs
  apply `ar6;apply `beU;have:=ih (m:=`Sw) h2 λb hb=>by
   have:=`ar7;apply `ar8
   ·exact `ar9
   ·apply `IM
    ·exact `ar'
    ·exact `ar!
  apply `ar?;lia
structure Bk(es:`aI):Prop where
 fl:Fl es
 ma:∀e∈es,∀l∈e.ms,`blq
def Ud0(l:`_)(fs:`e)(fl:`_):`aJy `bO=fs++`bk4:=by
 rw[s80,`au,`M,`M];have e:∀l':`e,l'.map ((λq:`gh=>q.1) ∘ λn=>(n,`kM))=l':=λl'=>p9 l'
 rw[e,e]
section
variable{es:`aI}(B:`n0)(as:`a!)
include B
def yu1{c:Str}(h:Pa n `vT){e:Ent}(he:`nS){fs:`e}(hfs:`bk7):Pa n (`aJx):=by
 have hf:fs.Nodup/\∀s∈fs,`to:=by
  let#[k,rfl]:=hfs
  by_cases hk:k<`oT
  ·apply `a?1
   exact B.ma e he _ `atz
  ·apply `a?2
   exact`blr
 have J:∀s∈`bls,`to:=λs hs=>by
  rcases `axq with z|z
  ·exact hf.2 s z
  ·exact h.nm s (nc0.mp ((Mk.gb0 _ _).mp `biC))
 have M:(`bls).Nodup:=`abk #[hf.1,ro0 fs,λa ha b hb e'=>by
  subst e';exact((ru0 `blt).mp hb).1 ha]
 have O:(`o `sL)<=9:=by
  have:=Sy0 M J;rw[← Ud0,`x] at this;exact `w
 have vb:∀v∈`jz `sL,`blb:=λv hv=>by
  refine`am?
  ·rw[s80,`au,`M,`M] at hv
   have ev:∀s,Vb (eff l `ck s):=λs=>Nx.ij0 (λp hp=>(h.vb p.2 `pM).1) `blt s
   rcases `axp with z|z
   ·let#[s,_,rfl]:=`AC;exact ev s
   ·let#[s,_,rfl]:=`AC;exact ev s
  ·rcases Zj0 (B.fl.nl e he) fs v hv with z|z
   ·exact(h.vb v z).2
   ·rcases z with rfl|⟨i,rfl⟩<;>exact λj e=>nomatch e
 have key:∀p∈`sL,`Z5:=λp hp=>J _ (`bk Ud0 `aaB)
 refine`Kb #[h.ok.1,`U,λp hp=>lx0 _ (D1 _ (key p hp)),`blu p.2,`k Ud0 M] `axv;let#[p,hp,rfl]:=`axw;exact key p hp
def Zo0{p:Pt}(h:`n_):Pa n `Z3:=by
 skip;cases p with
 | text w=>done;exact h
 | row vs=>done;exact h
 | table l=>done;exact h
 | rcd c l=>
  rcases `ahH with e|⟨e,fs,he,_,J,e'⟩
  ·done;rw[e];exact h
  ·done;rw[e'];exact yu1 B h he J
def Ws.new(h:`j8):Ws `uC:=by
 refine#[`k `x `d7,`lK];rw[`x];apply `axr;exact Zo0 B as `blv
omit B in
def Mh0(g:Pt->Pt){k:Nat}(hk:`iP):pq (`c3 g) k=g `Y1:=by
 rw[p90 hk,p90 (by rwa [r8]),`Jh]
def Pt0(h:`j8){k:Nat}(hk:`iP)(j:Nat):j∈A `uC k↔j∈A ps k:=by
 have hp:=`aJA hk;have hq:=Zo0 B as hp;delta A;rw[Mh0 _ hk,Qq0 λv hv=>(hq.vb v hv).1,Qq0 `blw,Ft0 B.fl as hp.ok]
def mh0(h:`j8):Cl `uC L↔`AY:=by
 constructor
 ·intro c
  have lt:∀k∈L,`iP:=`blx `Kc
  exact`bly lt `blz
 ·intro c
  exact`bly (λk hk=>`k `x `Kc) ((Pt0 B as h (`Kc) j).mp hj)
def S70(h:`j8)(c:`AY):(`aaf).map `L7=`e9 `uC L:=by
 delta Km.laid;rw[`M];refine D7 `J9
 have J:=`Kc;show `Cv (rel `dJ `Y1)=rel `dJ (pq `uC k);rw[Mh0 _ J];have hp:=`blm;exact Ik0 B.fl as `dJ `blw
omit z
section
variable{es:`aI}{as:`a!}(h:`X2)
include h
def bt0(hps:`V<=7)(hg:∀p∈ps,`Ye)(g':∀q∈`K9,`blA)(hnm:`ff<=12):vg0 [`iu,`pG,`xI]=`a?':=by
 apply `nQ
 let#[n,J,M]:=Mk.Hw0 (nm:=nm) (ps:=`K9) `em (λp hp=>`cX (g' p hp).2.1) λp hp=>(g' p hp).1.names
 obtain⟨O,hO⟩:∃O:D,O=`aK0:=`al;rw[← hO] at J ⊢;refine `eA (`gd O (`bU [.sh (`iu),.sh (`pG),.sh (`xI),.sh O] `YF))
 ·rw[`As [`iu,Mk.shapes es as] (`k (`aG `a?O) (Mk.mr0 h)),hO]
  exact Mk.Wr0 h `l `baS `baT
 ·rw[yd0 (Mk.e50 `Kd ?_)]
  ·rfl
  ·rw[`X `fP `Ro (`l5 O J)]
   show `cg ((60:Int)<`bm);rw[`ds]
  ·delta ta0
   rw[`fR (b:=`d) (by
    rw[d9 (ds:=[`m (`aE' `auV)]) (`O (w00 (items:=`aKw) (`ax hO) `atE (by
     have key:∀l:`aD,(∀q∈l,`blA)->`blB=`c (`aH `auV):=by
      intro l
      induction l with
      | nil=>intro _;rfl
      | cons p l ih=>
       intro hl;rw[`J];delta wl0;show `XN (oA `ca Mk.te0 `XF) `blB;let#[q1,q2,q3]:=hl p A8;rw[`l',Mk.Nw0 `l q3];simp only[];rw[ih λq hq=>hl q (`D_)];rfl
     exact key _ g')) rfl)]
    apply `aM Ok0;rw[Xj0 (`al')];simp;exact congrArg `lG (List.all_eq_true.mpr `qy))]
   rfl
omit z
def g90{es:`aI}(B:`n0){as:`a!}(h:`blC)(hw:`j8)(h7:`V<=7):vg0 [`ro,`pG,`xI]=`c (web `uC):=(
 bt0 h h7 hw.gp (λq hq=>by
  have:=(hw.new B as).pa q hq;refine`blD;have:=`ahL;have:=Mk.ec0 q;lia) `E)
open Bw (Vb web bun)
open Mk (yy0 Ent ent ap GP GB' GE' Z60)
open Nx (bare nz gm0 nr0 fm0 Q30)
def O50(ps:`aD):Prop:=∀r,`AZ->`a2=`V
def N70(hw:`cD){r:`j}(m:`AZ):O50 `N9:=(λq mq=>by
 have m':=dk0 hw m.cl' m;have h1:=`us m'.nd (m:=q) (m'.sub mq.me mq.cl);rw[`x] at h1;have h2:=mq.cl'.len.2;rw[pr0] at h2 ⊢;lia)
def Hn0{es:`aI}(B:`n0)(as:`a!)(h:`j8)(F:O50 ps):O50 `uC:=(λr m=>by
 let#[r0,m0]:=`blp;have lt:∀k∈r,`iP:=`blx (m.lt k hk)
 have h1:=`us m0.nd (m:=r) (m0.sub m.me λk hk j hj=>m.cl k hk j `blz);have h2:=m.cl'.len.2;have h3:=F r0 m0;rw[`x] at h2 ⊢;lia)
def Yt0{es:`aI}(B:`n0):Bk `pH:=by
 refine#[#[`Aq,`Aq],λe he l hl=>?_]
 ·apply `Yg;exact B.fl.nl e' J
 ·apply `Yg;exact `ahK e' J
 ·apply `Yg
  have hl:l∈[([]:`e)]:=hl;rw[`eb hl];exact`blr
def H80{as:`a!}(hn:`atg)(c:Str):as.reverse.find? `KK=`kU:=by
 have hr:(as.reverse.map `bO).Nodup:=`p5 `ug (`blE hn)
 cases e:`kU with
 | none=>
  rw[List.find?_eq_none] at e ⊢;exact λx hx=>e x `blF
 | some x=>
  have hc:`wS:=`a?4;have:=Mk.nu0 (`X4) hr (Y3.mpr (L6 e));apply `ay hc;exact `w
def Hb0{es:`aI}{as:`a!}(hn:`atg):yy0 es `blG=`aBl:=by
 funext p
 cases p with
 | rcd c l=>delta Mk.yy0;simp only[];rw[H80 hn]
 | _=>rfl
structure As(es:`aI)(as:`a!):Prop where
 gb:`blC
 nm:∀c,c∈`adk↔`Ol
def As.rev{es:`aI}{as:`a!}(h:`hM):As es `blG:=by
 refine#[#[h.gb.es6,h.gb.ge,h.gb.nd,#[`p5 `ug (`blE h.gb.ga.nd),λx hx=>h.gb.ga.it x `blF],`k `es h.gb.as6],`awI];rw[`ug,`bhP];exact h.nm c
section
variable{es:`aI}(B:`n0){as as':`a!}(a:`hM)(a':As es as')
def Ts0(a:`hM){c:Str}{x:`j'}(hx:`X9):`blH:=by
 have hc:`wS:=`s! `agR hx;let#[e,h1,_]:=Z60 a.gb (L6 hx);rw[hc] at h1;exact#[e,h1]
include B a
include a' in
def twice{p:Pt}(hp:∀v∈`dE,`a3):yy0 es as' `Z3=yy0 es as' p:=by
 refine `blI (by rw[h1] at h2;cases h2;rfl);have hm:=nr0.mp #[x,hx];let#[x2,h2]:=`axx ((a'.nm c).mpr ((a.nm c).mp hm));let#[e,he]:=Ts0 a hx;exact#[x2,e,h2,he]
def Ph0{p:Pt}(hp:∀v∈`dE,`a3):yy0 `pH `E7 `Z3=yy0 `pH `E7 p:=by
 refine `blI (by rw[gm0,h1] at h2;cases h2;rfl);let#[e,he]:=Ts0 a hx;have J:`C9:=`s! `axy he;let#[x2,h2]:=`axx (show c∈`pk (`oc nz) by rw[`M];exact `iZ #[e,L6 he,J]);exact#[x2,bare e,h2,`eO gm0 he]
omit z
def N(es:`aI)(as:`a!)(W:`aD):`aD:=`C' `L7
def P(es:`aI)(W:`aD):`aD:=`C' `atS
def cls(es:`aI):D:=`pG
def al(as:`a!):D:=`xI
section
variable{W:`aD}(h:Ws W){es:`aI}(B:`n0)
include h
def Ws.vals:∀p∈W,∀v∈`dE,`a3:=(λp hp v hv=>(`blf).1)
include B
def ei0{as as':`a!}(a:`hM)(a':As es as')(h7:`axz)(c:`Z6):`A_ `ahN as' (web (`blJ)):=by
 apply `Z7;apply `Z8;have hl:Ws (`Dg):=hN.laid c1;have e1:`blK (yy0 es as')=`blJ:=by
  rw[S70 B as' hN c1];congr 1;delta N;rw[`M];exact D7 λp hp=>twice B a a' (`axA)
 have:=g90 B a'.gb hl (by rw[pr0];have:=`ahJ;lia);apply `ay e1;exact `w
def ho0{as:`a!}(a:`hM)(c:`Z6):th0 [`ahN,`kt]=`c (web (`axB)):=by
 apply `Z7;apply `Z8;have hl:Ws (`Dg):=hN.laid c1;have e1:`blK `atS=`axB:=by
  rw[S70 `axC _ hN c1];congr 1;delta N P;rw[`M];exact D7 λp hp=>Ph0 B a (`axA)
 have:=Nx.Th0 a.gb (ps:=`Dg) (`cX hl.len.2) hl.gp;apply `ay e1;exact `w
def L00{as:`a!}(a:`hM):th0 `blL=`c (`axD):=(Nx.Th0 a.gb (`cX `Q0) h.gp)
def Ws.plain:Ws `DP:=(`C1 `axC _)
def Jl0(c:`Z6):Cl `DP L:=((mh0 `axC _ h).mpr c)
omit z
def Q20{a b:D}{X:D}(h1:`axE a)(h2:`axE b)(hX:`Z9):o40 `mO=`f4:=by
 refine `iN;rw[j4 (x:=X) (y:=X) (`l5 a h1) (`l5 b h2)];show `j5 (`Z9/\`Z9) `lG (deq X X);rw[`I #[hX,hX],kb0 X 50 hX]
section
variable{W:`aD}(h:Ws W)(F:O50 W){es:`aI}(B:`n0){as:`a!}(a:`hM)(c:`Z6)
include h B a c
def gh0:o40 [web (`axB),`axD]=`f4:=by
 have hP:=h.plain B;have c1:=Jl0 h B c;let#[r,m]:=do0 hP.wb hP.len.1;let#[i1,i2]:=di0 hP.wb;have e:=ld0 hP.wb i2 m;rw[i1] at e;exact Q20 (ld0 hP.wb c1 m) e (hP.laid m.cl').lean
include F in
def Yc0:∃q:`j,qh0 `blM=`axF/\`axG=`jp:=by
 apply `Z7;apply `Z8;let#[r,m]:=`blN;refine#[`Z1,Je0 `Fs c1 m,?_];have:=Hn0 B as h F r m;rw[`x] at this ⊢;exact `w
def Jw0:∃X:D,vq0 `blM=`aD!/\`axE `Z'/\`Z9:=by
 apply `Z7;apply `Z8;let#[r,m]:=`blN;let#[i1,i2]:=di0 `Fs;have e:=ld0 `Fs i2 m;rw[i1] at e;exact#[_,ld0 `Fs c1 m,e,(hN.laid m.cl').lean]
omit z
def three{W:`aD}(h:Ws W)(h7:`axz){es:`aI}(B:`n0){as0 as1:`a!}(a0:As es as0)(a1:As es as1):
  `A_ `xX as0 (web (`Ke))/\∃(L1 L3:`j) (pk bn:`ai) (X Y:`aD),Cl W L1/\Cl W L3 /\
   Rk.kd0 [web (`Ke)]=`c (`aJC)/\Rk.rs0 `blO=`c (web X)/\`A_ (web X) as1 (web (`axH)) /\
   pw0 [web (`axH)]=`c `aJO/\qt0 [lk bn,`b']=`c (web Y)/\Ws Y/\`A_ (web Y) as0.reverse (web (`e9 (`Ke) L3)):=by
 have hN:Ws (`Ke):=`C1 B as0;have hM:Ws `adM:=`C1 B as1;refine#[g90 B a0.gb h h7,?_];skip;let#[L1,c1,e1,e2]:=wm1 (ps:=`Ke) hN.wf;have cW:=(mh0 B as0 h).mp c1;have cM:Cl `adM L1:=(`blP).mpr cW;let#[e3,r,c2,e4]:=bundled (ps:=`axH) (hM.laid cM);let#[e5,c3]:=Xe0 hM.wb cM c2;have J:=(`blP).mp c3;have hY:=hM.laid c3;rw[e5] at e4;done;refine#[L1,_,_,_,_,_,cW,J,e1,e2,ei0 h B a0 a1 h7 cW,e3,e4,hY,?_];have e6:=ei0 h B a1 a0.rev h7 J;delta N at e6 ⊢;rw[Hb0 a0.gb.ga.nd] at e6;exact e6
open Km (lkd)
open Bw (Vb)
def Yx0(ns:`ai)(k:Int)(h0:0<=k):`a'R:=(Gw.Yx0 ns k h0)
def nw0(ns:`ai)(k:Int)(h0:0<=k)(h1:k<=1000):∃x:Int,wq0 `aIh=`Jm/\0<=x/\x<1000003:=by
 let#[z,hz]:=Yx0 ns k h0;apply `axI;rw[← hS] at hz ⊢;refine#[(`axJ+1)%1000003,`iN,c8 _ `E,t0 _ `E];have e1:o2 `bcL `bcM xm0 `Z!=`lU `aEA:=by
  rw[`X (`h (`aED)) `aIB (`Z? (`X `fG `aLf (`k (`aG [S,`fE]) hz)))];exact Gw.mul_r _ _ `E
 have e2:o2 `bcN `Z xm0 `Z!=`lU (61*k*k):=by
  rw[`X (`h (61*k)) `fE (`k (`l8 61 `fE) `hy)];exact Gw.mul_r _ _ `cK
 have e3:o2 (gc (`h 23)) `Z xm0 `Z!=`c (`blQ):=by
  rw[`l8 23 `fE];exact `hy
 show o2 _ _ _ `Z!=_;rw[j4 (x:=`h (`axJ+1)) (y:=`bcO) (by
  rw[j4 (x:=`h (`axJ)) (y:=`dl) (by
   rw[j4 (x:=`h (`aEa)) (y:=`blQ) (`ax (j4 e1 e2)) e3];rfl) rfl]
  rfl) rfl]
 apply `mU
def big(i:Int)(h:i.natAbs<=1000):i.natAbs<`adh:=(`a!E)
def I70(x m:Int)(hx:0<=x)(hm:`blR):∃v,tw0 `blS=`aX/\`axK:=by
 skip;apply `cq
 have f7:o2 `Q `Rq yx0 `qW=`c (`blT):=by
  apply `blU;apply `Kf
 have J:o2 `Q `aKG yx0 `qW=`lU (x/11):=by
  rw[`Rs 11];apply `Kf
 have a1:o2 `aIC `oo u90 `qW=`c (`blV):=by
  rw[`X (`h (x/7%9)) `od (`Z? (`A0 `Mp f7))];rfl
 have a2:o2 `agW `Z xb0 `qW=`lU (x/7%m):=by
  rw[`A0 `BQ f7];exact `blW
 have a3:o2 `aIE `Z xb0 `qW=`lU (x/11%m):=by
  rw[`A0 `BQ J];exact `blW
 obtain⟨i,hi⟩:∃i:Nat,x/7%m=`hX:=(`blX 7 7);obtain⟨j,hj⟩:∃j:Nat,x/11%m=`bN:=(`blX 11 11);have O:`hX<m:=`bk hi (t0 _ hm.1)
 have Y:`bN<m:=`bk hj (t0 _ hm.1)
 rw[hi] at a2;rw[hj] at a3;obtain⟨L,hL⟩:∃L:`i,L=[`y,`b',`dl,`blV,lkd i,`eZ]:=`al;have ls:=Z30 (gA:=`bcX) (ds:=L) (δ:=`qW) (`k hL (`O rfl (`O rfl (`O rfl (`O a1 (`qO (w70 (`qO rfl a2) `h2) (w70 (`qO rfl a3) `h2))))))) (`tD hL (6<=`R));have e6:`blY `qW:=by
  apply `axL;apply `mU
 done;refine#[`vx `uD `y,`iN,?_]
 ·show o2 _ _ _ `qW=_
  rw[j4 ls e6];show atI L (x%6)=_;exact q50 (xs:=L) `l (`tD hL (x%6<6)) `AB
 ·have M:`uD=0∨`uD=1∨`uD=2∨`uD=3∨`uD=4∨`uD=5:=`U
  rw[hL];rcases M with e|e|e|e|e|e<;>rw[e]
  ·exact`blg
  ·exact`Z4 `blZ
  ·exact`Z4 `bl_
  ·exact`Z4 (`h _ (big _ `l))
  ·exact#[.lk i `l,`bl0]
  ·exact#[.lk j `l,`bl0]
def K90:∀i,i<9->∀j,j<9->`bl1=`xY j ""->i=j:=`aU
def Fn0:∀i,i<9->`bl1∈N9:=`aU
def Fk0(i:Int)(h0:0<=i)(h1:i<9):ixD (`m (`Q1)) `ho=`c (`p (`xY `m9 "")):=by
 show atI (N9.map `bH) i=_;rw[q50 h0 (`k `x h1) `y];have:`m9<N9.length:=`bE (`m9<9)
 simp[`cU,`w]
def Mc0(l:`_):`bl2 `Z=`c (`iy):=by
 rw[u10 `a'p (λd hd=>by
  apply `awv;apply `Yb),`M]
 rfl
def m9L(c:Int):(c%9).toNat<9:=by
 have a:=`axM c `axN;have b:=Int.emod_lt_of_pos c (show `f5<9 by decide);generalize c%9=x at a b;lia
def m9D:∀a,a<7->∀b,b<7->((2*(a:Nat):Int) - 2*(b:Nat))%9=0->a=b:=`aU
def m9N{c:Int}{a b:Nat}(ha:a<7)(hb:b<7)(e:((c+2*`g_)%9).toNat=((c+2*`iY)%9).toNat):a=b:=by
 have p:=`axM (c+2*`g_) `axN;have q:=`axM (c+2*`iY) `axN
 have e1:(c+2*`g_)%9=(c+2*`iY)%9:=by rw[← `_a p,← `_a q,e]
 have e2:=Int.emod_eq_emod_iff_emod_sub_eq_zero.mp e1;rw[Int.add_sub_add_left] at e2;exact m9D a ha b hb e2
def Ci0(x m:Int)(hx:0<=x)(hm:`blR):∃p,q70 `blS=`c (`ia p)/\Pa m.toNat p:=by
 skip;apply `cq
 have hv:∀j:Nat,∃v,tw0 `bl3=`aX/\`axK:=λj=>I70 _ m (by have:=Int.ediv_nonneg hx (`Jq (0<=`bN+2));omega) hm
 let#[V,hV]:=Bn1 hv;obtain⟨n,hn⟩:∃n:Nat,x/6%7=`bm:=#[(x/6%7).toNat,`ch];have Z:n<7:=`ch
 apply `aup `_ (`ans λ(j:Nat)=>`bl4)
 apply `bl5;have J:yh0 1 `ajp `aMW `eW noT `aMX [`dX,`u8,`r2,.un,.un]=`c `ace:=by
  refine w00 (items:=u00 0 `bm) (i30 (`O (by
   rw[`X (`h (x/6)) (`h 7) (by apply `axL;apply `Kf),← hn];apply `mU) rfl) `cK `cK) (`Q2 d90) ?_
  rw[gf0 (λj=>pr `bl4) `qt]
  ·rw[hl,`M,`cF]
   rfl
  ·refine`nM [`nn,`dX,`u8,`r2] (w70 (`O ?_ `FK) `axO)
   ·rw[j4 (x:=NL) (y:=`h (`ahQ%9)) rfl (by
     rw[j4 (x:=`h `ahQ) (y:=`Mp) (by
      rw[j4 (x:=`h (x/5)) (y:=`a!n) (by rw[`Rs 5];apply `Kf) `a!o];rfl) rfl]
     apply `mU),hN]
    exact Fk0 _ `cK `cK
   ·rw[d9 (ds:=`bl3) (`O (by
     rw[j4 (x:=`h (`vM)) (y:=`gn) (by
      apply `bl6;exact `acg _ _ `cK) rfl]
     rfl) `e')]
    exact(hV j).1
 have nm:∀s∈`k1,`to:=λs hs=>by
  rw[hl,`M] at hs;let#[j,_,rfl]:=`axw;exact Fn0 _ `axP
 have nd:`axo:=by
  rw[hl,`M];refine `QQ (`QR (a30 ?_ (B20 (n:=n))));intro a b ha hb Y e;have ha:=`vn ha;have hb:=`vn hb;exact `K (m9N (`bl7 ha Z) (`bl7 hb Z) (K90 _ `axP _ `axP e)) Y
 have vb:∀v∈`iy,`axK:=λv hv=>by
  rw[hl,`M] at hv;let#[j,_,rfl]:=`c2 hv;exact(hV j).2
 have len:`aC=n:=by rw[hl,`x,`d?]
 have ok:PsOk l:=#[`ch,λp hp=>lx0 _ (D1 _ (nm _ `pM)),`blu _,nd];have ek:`blY [`dX,`u8,`r2,.sh `ace,.un]:=by
  apply `axL;apply `mU
 have t:∀i:Int,`Js `cv `anM `Q3=`bs (x%6=i):=λi=>rfl
 have pre:∀{G:GS} {r:`KF},G `Q3=r->(v7 `bcY
   (v7 `bcZ
   (v7 `bc_ G))) [`dX,`u8,.un,.un,.un]=r:=λhG=>p6 `bl8 (`Au J (p6 (yr0 ek) hG))
 by_cases h0:x%6=0
 ·done;refine#[.row (`aH λq:`gh=>q.2),`eA (pre `g2),#[#[`bl9,`bli],vb,`axQ,`axQ]]
  rw[`ma t (`bn h0)];refine `kZ (w70 `ab8 `axO);rw[`cC [`m (`iy)] (`gK `uS (`bl9) (Mc0 l))];rfl
 ·by_cases h1:x%6=1
  ·done;refine#[`n! l,`eA (`bl' `g2),#[ok,vb,nm,`axQ]]
   rw[`ma t `Zm];exact `kZ (w70 `E6 `axO)
  ·obtain⟨c,hc,M⟩:∃c:Str,ixD (`bl!) (`bl?)=`c `rZ/\c∈N3:=by
    have O:`Fv=0∨`Fv=1∨`Fv=2∨`Fv=3:=`ch
    rcases O with e|e|e|e<;>rw[e]
    ·exact`bma
    ·exact#[`rF,rfl,`aU]
    ·exact`bma
    ·exact#["owl",rfl,`aU]
   done;refine#[`i7,`eA (`bl' (p6 (δ':=`Q3) (`ax (`jC t (`bZ h1))) (`kZ (`Lo (`O ?_ `e') (by show 3<=`R;omega))))),#[#[lx0 _ (D4 _ M),ok],vb,nm,λs hs=>`k (`eb hs) M]];rw[`iv `bl! `bl? (`ax (`X `acf `gj rfl))];exact hc
open Mk (Ent ap GE' GB' GA')
def L10(xs:`i)(k:Int)(h:0<=k):cutD xs `g (`f_)=xs.take `eM:=by
 delta cutD;show (`p2 0).take ((`D (k<0) (k+`aTl).toNat (min `eM `aB)) - 0)=_;rw[`auC,`biq,Nat.sub_zero];rcases `amc `eM `aB with q|q
 ·rw[`ag3 q]
 ·rw[`ag4 q,`aiY `bq,`aiY q]
def sel(x:Int):`j:=((`bc 9).filter λ(k:Nat)=>`an (x/(`cS+1)%2=0)).take 6
def mk(x:Int):`e:=(sel x).map λk=>`xY k ""
def U10(x:Int):∀k∈sel x,k<9:=(λk hk=>`vn (`pK (n5 hk)).1)
def wr1(x:Int):(mk x).Nodup/\(∀s∈mk x,`to)/\(`o (mk x))<=6:=by
 refine#[?_,`axv,?_]
 ·have hn:(sel x).Nodup:=A90 (F90 _ B20)
  refine `QQ (`QR (a30 ?_ hn));intro a b ha hb J e;exact J (K90 a (U10 x a ha) b (U10 x b hb) e)
 ·let#[k,hk,rfl]:=`axw
  exact Fn0 k (U10 x k hk)
 ·delta mk sel
  rw[`x,`fb];lia
def Dq0(x:Int):q80 [`kI]=`c (`t `bmb):=by
 apply `cq
 apply `bl5;have hc:=r00 (f:=gN 0) (gt:=`bcP) (ge:=`bcQ) (δ:=[.un,`dX,`r2]) (`QP `gw (`an (x/`ji%2=0))) (`iK `gw (`p (`xY `kW ""))) (items:=`axR) (λd hd=>by
  let#[j,hj,rfl]:=Ry0 hd;refine#[[`nn,`dX,`r2],rfl,?_,`Ic]
  ·refine `fR ?_
   rw[j4 (x:=`h (`Oi%2)) (y:=`b') (by
    rw[j4 (x:=`axS) (y:=`gj) (by
     apply `axT;exact `_b) rfl]
    apply `mU) rfl]
   rfl
  ·rw[`xO NL,hN]
   exact Fk0 _ `l hj)
 have er:`axR=(`bc 9).map λ(k:Nat)=>`de `cS:=`eY
 rw[er,`X1,`M] at hc;rw[← er] at hc;refine `eA (p6 `bl8 `ec);show oA _ wb0 [`dX,`r2]=_;rw[d9 (ds:=[`m `bmb]) `FK]
 ·rfl
 ·delta sk0
  rw[`gK `axR (`bE (9<=`R)) hc];show slA (`eo) `g (`c 6)=_;show `IU (cutD _ `g (`c 6));rw[L10 _ 6 `E];delta mk sel;rw[`M,← `X5];rfl
def F4(x:Int)(j:Nat):D:=[`de 0,`dl,`y,`axU].getD `Kg `y
def Vq0(x:Int)(j:Nat):NL (F4 x j)/\Vb (F4 x j):=by
 have J:`Kg=0∨`Kg=1∨`Kg=2∨`Kg=3:=`U
 delta F4;rcases J with e|e|e|e<;>rw[e]
 ·exact#[`u #[0,rfl],`blZ]
 ·exact#[`u #[1,rfl],`bl_]
 ·exact#[`mi,`y]
 ·exact#[`u #[-5,rfl],`h _ (big _ `E)]
def fl4(x:Int):`_:=[("a",F4 x 0),("c1",F4 x 1),("ff",F4 x 2),("i0",F4 x 3)]
def Cr0(x:Int):`axV `bO=(["a", "c1", "ff", "i0"]:`e):=(rfl)
structure Ce(n:Str)(e:Ent):Prop where
 n:e.n=n
 ge:GE' NN e
 ma:∀l∈e.ms,`blq
 fl:∀p∈`ck,`bmc
 nd:`axW
def en(n:Str)(x:Int):Ent:=.make n (`bmd λ(j:Nat)=>mk `axX) (`Q4)
def Fl0{n:Str}(hn:n∈NN)(x:Int):Ce n (en n x):=by
 have M:∀p∈`Q4,p.1∈NN/\`bmc:=λp hp=>by
  have:=n5 hp;delta fl4 at this;simp only[`it,`axY,`pu] at this;rcases `w with rfl|rfl|rfl|rfl
  ·exact`_c "a" 0
  ·exact`_c "c1" 1
  ·exact`_c "ff" 2
  ·exact`_c "i0" 3
 have J:∀l∈(en n x).ms,`acz/\(∀s∈l,`to)/\`aC<=6:=λl hl=>by
  let#[j,_,rfl]:=`c2 hl;exact wr1 _
 have len:(en n x).ms.length=`aJD:=by show (`o `bme)=_;rw[`x,`d?]
 refine#[rfl,#[hn,`ch,`ch,λl hl=>#[by have:=(`ahR).2.2;omega,λs hs=>D1 _ (`bmf s hs)],?_,λp hp=>#[(M p hp).1,(M p hp).2.2]],λl hl=>#[(`ahR).1,`bmf],λp hp=>(M p hp).2,?_]
 ·have:(`o `Q4)<=4:=`k `fb (D60 _ _)
  exact C3 `w `E
 ·show (`bmg `bO).Nodup
  rw[`X5,Cr0];exact A90 `bf
def KB:GS:=v7 `bcR
 (v7 `bcS
 (v7 `bcT
 (v7 `bcU
 u6)))
def two:`e:=`bmh
def Fm0(S:D)(k:Nat)(hk:k<2)(x:Int)(hx:wq0 `bmi=`Jm)(h0:0<=x)(l:`i)(hl:`aC<=10)(s3 s4 s5:Sl):
  ∃t3 t4 t5,KB [`eJ,`Ea,`jr,s3,s4,s5]=`ac [`eJ,`bb (l++[(`axZ).d]),`jr,t3,t4,t5]:=by
 apply `cq
 obtain⟨M,hM⟩:∃M:D,M=`t ((`axZ).ms.map `aBa):=`al;obtain⟨F,hF⟩:∃F:D,F=`t (`axV pr):=`al;have e4:`bmj `aMR M:=λs4 s5=>by
  rw[d9 (ds:=[`m (`bmd λ(j:Nat)=>`cb (`le (mk `axX)))]) (`O (w00 (items:=u00 0 (2+x%2)) (i30 (`O (by
   rw[`ai0 `gj (x%2) (`Z? (`X `kI `gj rfl))];rfl) rfl) `l `l) `bmk (gf0 _ λj hj=>#[[`nn,`dX],rfl,rfl,by
    rw[d9 (ds:=[`h `axX]) (`O (by
     rw[j4 (x:=`axS) (y:=`h (97*`bN)) (by
      apply `axT;exact `_b) (`k (`l8 97 `gn) `hy)]
     rfl) rfl)]
    exact Dq0 _])) rfl),hM]
  show `auE=`J1 ((`bme).map _);rw[`M];rfl
 have e5:`bmj `aMU F:=λs4 s5=>by
  have hc:=u10 (f:=ux0 0 1) (gt:=noT) (ge:=`aMT) (δ:=[.un,.un,`dX]) (`iK (`t [`gw,s]) (`t [s,F4 x `kW])) (items:=`bml) (λd hd=>by
   let#[j,hj,rfl]:=`gC;have hj:j<4:=`x1;refine`nM [`nn,.sh (([`bH "a",`aii,`aih,`ai1]:`i).getD j `y),`dX] `X0;rw[j4 (x:=`m [`b',`dl,`y,`axU]) (y:=`h (`vM%4)) rfl (by
    rw[j4 (x:=`h (`vM)) (y:=`od) (by
     apply `bl6;exact `_b) rfl]
    apply `mU)]
   show atI [`de 0,`dl,`y,`axU] (`vM%4)=_;rw[q50 `l (`bE (_<(4:Int))) `AB];delta F4;rw[`cF])
  rw[`cC [`m (`axV pr)] (`gK `bml (`bE (4<=`R)) hc),hF];rfl
 refine#[`dX,.sh M,`bd,p6 `bmm (`Au (e4 _ _) (`un (yr0 (e5 _ _)) (`vq (l:=l) (d:=(`axZ).d) rfl (w70 (`O ?_ (`O (`pW (`c M=_) hM) `FK)) `I9) `l)))]
 ·rw[`As `bmi (`ax (`l8 40 `ko))]
  exact hx
 ·rw[`X (`m [`Rp,`O4]) `ko rfl]
  show atI [`bH `oF,`O4] `cS=_;rw[q50 `l (`bE (`cS<2)) `AB,`cF];have:k=0∨k=1:=`U
  apply `bmn
 ·delta sk0
  show `ut (`c F);rw[`s];have e7:o2 `aKF `Rx xb0 `aJF=`lU (x/7%5):=by
   rw[`X `blT (`h 5) (by apply `blU;apply `Kf)];apply `mU
  have e8:`bmo=`z9 (x/7%5):=by
   delta someO;rw[e7];rfl
  show `BN (`bmo) (λh=>slA F `g h)=_;rw[e8,`s,hF];show `J1 (cutD _ `g (`c (x/7%5)))=`J1 (`bmg pr);rw[L10 _ _ `l,`X5]
open Mk (Ent ent ap GE' GB' GA' dkv yy0)
open Nx (eff fil np' df0 Yy0 Y20)
def Ku0{f:`aR}{G:GS}{d v:D}{δ:Ds}(h1:`T?)(h2:`NH=`bmp):`aGi=`bmp:=by
 apply `Ub
 rw[h1,`s,h2]
def El0(ns:`ai):∃x y:Int,md0 [`sC]=`c (cls `bmq):=by
 skip;apply `cq
 let#[x,hx,x0,_]:=`Kh 40;let#[y,hy,y0,_]:=`Kh 41;apply `axI;done;rw[← hS] at hx hy ⊢;skip;let#[a3,a4,a5,e1]:=Fm0 S 0 `E x hx x0 [] `E .un .un .un;let#[b3,b4,b5,e2]:=Fm0 S 1 `E y hy y0 [(`ahS).d] (by show 1<=10;decide) a3 a4 a5;done;refine#[x,y,`eA (`YE (`tp `eJ `et .un) (`gL `bmr ((`Ki (`tp `eJ `et (.sh (`Fw))) e1).trans (`Ki [`eJ,`bb [(`ahS).d],`vm,a3,a4,a5] e2))))];rfl
def LB:GS:=v7 `bdd
 (v7 `bde
 u6)
def asx(x:Int)(e0 e1:Ent):`a!:=[(e0.n,`ax_),(e1.n,`ax0)]
def Gz0(S:D)(k:Nat)(hk:k<2)(x:Int)(hx:wq0 `bms=`Jm)(e0 e1:Ent)(h0:0<`Oj)(h1:0<`Ok)(l:`i)(hl:`aC<=10)(a1 a2 a3 s7 a8 a9 a10 a11 a12:Sl):
  LB (`bmt `Ea s7)=`ac (`bmt (`bb (l++[`bmu])) `dX):=by
 apply `cq
 apply `adN (cls `R9);rw[← hC];have at_:∀j:Nat,j<2->ixD C `oa=`c ((`_d).d):=λj hj=>by
  rw[hC];have:j=0∨j=1:=`U
  apply `bmn
 refine `un `bmm (`vq (l:=l) (d:=`bmu) rfl ?_ `l)
 ·rw[`As `bms (`ax (`l8 50 `ko))]
  exact hx
 ·refine `gK (u00 0 2) `h2 ?_
  rw[gf0 (λj=>`cb [`p (`_d).n,`h (`Oi%((`_d).ms.length:Int))]) `qt]
  ·show `c [`cb [`p e0.n,`h (x/((0:Nat)+1:Int)%(`Oj:Int))],`t [`p e1.n,`h (x/((1:Nat)+1:Int)%(`Ok:Int))]]=`c [`t [`p e0.n,`h (`ak `ax_)],`t [`p e1.n,`h (`ak `ax0)]]
   have q0:=c8 (x/1) (`aZ (`ax1≠0));have q1:=c8 (x/2) (`aZ (`ax2≠0));rw[`_a q0,`_a q1];rfl
  ·have hj:j<2:=`U
   obtain⟨e,he⟩:∃e:Ent,e=`_d:=`al;have hm:0<`oT:=by
    rw[he];have:j=0∨j=1:=`U
    rcases `w with rfl|rfl
    ·exact h0
    ·exact h1
   have ec:=at_ j hj;rw[← he] at ec ⊢;have ev:o2 `Z `Q ixD `bmv=`ats:=by
    rw[`xO C];exact ec
   refine`nM `bmv (w70 (`O ?_ `FK) `h2)
   ·rw[`A0 `b' ev]
    rfl
   ·rw[j4 (x:=`axS) (y:=`h `atx) (by
     apply `axT;exact `_b) (by
     rw[`cC [`IZ] (`ax (`A0 `dl ev))];apply `a?U;rw[`x])]
    exact `ahO _ _ `l
def fv(es:`aI)(c n:Str):`aT (`gh):=(`gp).bind λe=>`_e
def IB:GS:=v7 (ifD `bc3
 (v7 `bc4
 u6)
 u6)
 u6
def FB:GS:=v7 (ifD `bc1
 (v7 (vc0 `bc2 `Fx IB)
 u6)
 u6)
 u6
def fs(C:D)(c n:Str)(s3 s4 s5 s6 s7:Sl):Ds:=[`eh,.sh `rZ,`Aj,s3,s4,s5,s6,s7]
def Eo0(C:D)(c n:Str)(s3 s4 s5:Sl):∀(l:`_) (s6 s7:Sl),(∀p,`E5 (`M0)=`c p->`bmw=`bmx)/\(`E5 (`M0)=`g->∃t6 t7,`bmw=`ac (`aa! t6 t7)):=by
 intro l
 induction l with
 | nil=>exact λs6 s7=>#[`bmy,λ_=>#[s6,s7,rfl]]
 | cons q l ih=>
  intro s6 s7;have t:ob `aLi (`_f)=`bs (q.1=n):=rfl;rw[`pr]
  by_cases e:q.1=n
  ·rw[`H_] at t ⊢
   refine#[λp h=>?_,λh=>`aJH];cases h;exact Ku0 (δ1:=`_f) rfl (W5 (`k (wr0 t) (W5 rfl)))
  ·rw[`ym] at t ⊢
   have st:w90 `Fx IB ((q::l).map pr) `Fy=w90 `Fx IB `kF (`_f):=`Ki `_f `bmz;rw[st];exact ih _ _
def Um0(e:Ent)(es:`aI)(c:Str):ent `gl c=`D `C9 `g3 `gp:=by
 delta Mk.ent;rw[`pr]
 by_cases h:`C9
 ·rw[`eU,`bM]
 ·rw[`fn,`bV]
def Jn0(C:D)(c n:Str):∀(es:`aI),`I7->∀s3 s4 s5 s6 s7:Sl,(∀p,`Q5=`c p->`bmA=`bmx)/\(`bmB->∃t3 t4 t5 t6 t7,`bmA=`ac (fs C c n t3 t4 t5 t6 t7)):=by
 intro es
 induction es with
 | nil=>exact λ_ s3 s4 s5 s6 s7=>#[`bmy,λ_=>#[s3,s4,s5,s6,s7,rfl]]
 | cons e es ih=>
  intro hn s3 s4 s5 s6 s7;rw[`J,`zW] at hn;obtain⟨M,hM⟩:∃M:D,M=`IZ:=`al;have t:ob `aLh `ax3=`c (`adL):=rfl;have d1:mw0 3 4 5 e.d `Fy=`c `ax3:=`ax hM
  by_cases h:`C9
  ·rw[`eU] at t
   have J:`bmC=`_e:=by delta fv;rw[Um0,`bM];rfl
   have O:`bmB:=by
    have:`bmD:=by
     cases q:`gp with
     | none=>rfl
     | some e'=>
      exfalso;have h2:e'.n=c:=`s! `axy q;exact hn.1 (`iZ #[e',L6 q,by rw[h2,h]])
    delta fv;rw[`w];rfl
   let#[i1,i2]:=Eo0 C c n `ah' `ah! `ah? `ck s6 s7;rw[J];refine#[`lK,λhp=>?_]
   ·exact Ku0 d1 (W5 (`k (wr0 t) (W5 (`gL `abc (i1 p hp)))))
   ·let#[t6,t7,e1]:=i2 hp
    have st:`bmE=`ahT (fs C c n `ah' `ah! `ah? t6 t7):=sm0 d1 (`l! (`k (wr0 t) (`l! (`gL `abc e1))));rw[st];exact(`bmF).2 O
  ·rw[`fn] at t
   have J:`bmC=`Q5:=by delta fv;rw[Um0,`bV]
   have st:`bmE=`ahT `ax3:=sm0 d1 `bmz;rw[J,st];exact `bmF
def Hm0(hn:(fl.map `bO).Nodup)(n:Str):`Cw=(`jz (fl.find? `M0)).getD `y:=by
 delta Nx.fil Mk.val;rw[Mk.ev0 fl [] [] (`k `c' (Mk.ed0 (key:=λp:`gh=>p.1) hn)),`c',`c',Mk.get_find `bO `fB n fl]
def Q70{es:`aI}(hn:`I7){c:Str}{e:Ent}(he:`pN)(hf:`axW)(n:Str):u40 [`kt,`dC,`gq]=`c (`_g):=by
 let#[i1,i2]:=Jn0 (`kt) c n es hn .un .un .un .un .un;have J:`Q5=`_e:=by delta fv;rw[he];rfl
 rw[Hm0 hf];cases q:`_e with
 | some p=>exact `eA (W5 (`gL `rl (i1 p (J.trans q))))
 | none=>
  let#[t3,t4,t5,t6,t7,e1]:=i2 (J.trans q);exact `um (`gL `rl e1) `YF
def Qh0:∀(l:`_) (p:`gh) (ks:`a1) (vs:`i),dkv ks vs (l++[p])=(xt0 `axl `vX,xy0 `axl (`Oh).2 `vX p.2):=by
 intro z;induction z with
 | nil=>intro p ks vs;exact rfl
 | cons q l ih=>intro p ks vs;exact ih p (xt0 ks `bmG) (xy0 ks vs `bmG q.2)
def Pa0(l fl:`_)(p:`gh)(n:Str):eff (l++[p]) fl n=`D (n=p.1) p.2 `kM:=by
 have hl:=(Mk.da0 l [] [] rfl).1;have hh:xo0 (xt0 `e8 `vX) `h3=(`BL||`an (n=p.1)):=by
  rw[`ny,`aps,Mk.vl0,Mk.vl0,df0,`z7];exact#[λz=>z.imp id P4,λz=>z.imp id λe=>`aBj]
 delta Nx.eff;rw[Qh0];dsimp only;rw[hh];delta Mk.val;rw[Yy0 hl]
 by_cases e:n=p.1
 ·rw[`cf,`H_,Bool.or_true,`a4,`I4]
  rfl
 ·rw[`bW,`ym,`TE,`bmH]
def td(g:`Ao)(N:`e):D:=`dy (`n `wP) `wQ
def L90{N:`e}{n:Str}:xo0 `wP `h3=`an (n∈N):=by
 rw[`ny,Mk.vl0,`z7];constructor
 ·intro h
  let#[m,hm,e]:=`qC;rw[← `atN];exact hm
 ·exact λh=>`baA
def Ao0{N:`e}{n:Str}(hn:n∈N)(g:`Ao)(v:D):(`ax4 `wQ v:D)=td (λm=>`bmI) N:=by
 delta xt0 xy0 td;rw[L90,`bn hn,`a4,`a4,`Z2,`M];congr 1;refine D7 λm _=>?_
 show (`D (`baz=`dB n) v (g m))=`bmI
 by_cases e:m=n
 ·rw[`cf,`I4]
 ·rw[`bW,`bmH]
def Dp0{N:`e}{n:Str}(hn:n∉N)(g:`Ao):(`ax4 `wQ (g n):D)=td g (N++[n]):=by
 delta xt0 xy0 td;rw[L90,`bZ hn,`cB,`cB,`au,`au];rfl
def T1:GS:=v7 `bc6
 u6
def T2:GS:=v7 `bc7
 u6
def Kh0{a b c s4:Sl}{g:GE}{N:`e}{h:`Ao}{n:Str}{v:D}{δ:Ds}(hδ:δ=[a,b,.ow (td h N),c,s4])(hv:`aA=`aX)(hn:gv 3 δ=`a?y)(hN:`yU<=100):v10 (xk0 g) `aiV δ=`ac [a,b,.ow (`ax4 (`BT h) v),c,s4]:=by
 apply `cq
 delta v10 xk0;rw[hv];show `qQ (`avn 2 `a6 v δ);delta DL.putAt;rw[hn,hδ];show `a?W `aAM;rw[`I `em];rfl
def Qc0{es:`aI}(hn:`I7){c:Str}{e:Ent}(he:`pN)(hf:`axW)(hl:∀p∈l,`Z5):sl0 [`aaw,`kt]=`c (`ax5):=by
 apply `cq
 apply `ax6;have J:∀n,u40 `aJJ=`c (`_g):=λn=>`k hC (Q70 hn he hf n)
 rw[← hC];skip;have n9:N9.length=9:=rfl;have Y:N9.Nodup:=`aU
 let#[δ',l1,s3,s4,rfl]:=u60 (f:=gN 3) (G:=T1) (`bmJ (td `aCF (`FA i))) (`Q1) 0 `bmK (by
  apply `atC;apply `uj;let#[n,M,rfl]:=`Cf hj;rw[`b4];have Z:=(`c9 M).1;have tk:`bmL=`FA j++[n]:=`eO `jB M
  have O:n∉`FA j:=λq=>by
   have:(`bmL).Nodup:=A90 Y;apply `ay tk;exact`atq `w `CU
  refine#[(`ahU (`FA j) `Aj s4),_,rfl,`l! (Kh0 rfl (v:=`_g) ?_ rfl (`bgF)),`Aj,s4,?_]
  ·rw[`bmM]
   exact J n
  ·rw[Dp0 O,tk]) `avq
 apply `I8;let#[δ',l2,t3,t4,rfl]:=u60 (f:=ux0 3 4) (G:=T2) (`bmJ (td (eff (`Lf i) `ck) N9)) `kF 0 (`ahU N9 s3 s4) (by
  apply `atC;apply `uj;apply `auN;rw[`b4];have tk:`asQ=`bmN:=`eO `jB hp
  refine#[[`oX,`eh,.ow (td (eff (`xF) `ck) N9),.sh (`p p.1),.sh p.2],_,rfl,`l! (Kh0 rfl (v:=p.2) rfl rfl (`akm n9)),.sh (`p p.1),.sh p.2,?_];rw[Ao0 (`bai),tk,show (λm=>`D (m=p.1) p.2 (eff (`xF) `ck m))=eff (`bmN) `ck from funext λm=>(Pa0 _ _ _ _).symm]) #[s3,s4,rfl]
 rw[`b4,`x,`oz] at l2;done;exact `gc `bmK rfl (p6 (`gL `Q1 l1) (p6 (`gL `uS l2) `lD))
open Bw (Vb web)
open Mk (Ent ent ap yy0 ac0 o90)
open Nx (eff fil np' Tj0 ij0 nf0 nr0 bz0 nc0 q90)
structure Bl(es:`aI):Prop where
 nd:`I7
 ce:∀e∈es,Ce e.n e
def Bl.bk{es:`aI}(h:Bl es):`n0:=(#[#[λe he p hp=>(`bmO).1,λe he p hp=>(`bmO).2],λe he=>(`ahV).ma])
def iz0{es:`aI}{c:Str}{e:Ent}(h:`pN):`nS:=(L6 h)
def ki0{es:`aI}{c:Str}:(`blH)↔`Ol:=by
 constructor
 ·rintro⟨e,h⟩
  exact `iZ #[e,iz0 h,`s! `axy h]
 ·intro h
  let#[e,he,hc]:=`qC;cases q:`gp with
  | some y=>exact`baK
  | none=>exact `K (E9 hc) (Bd1.mp q e he)
section
variable{es:`aI}(hb:Bl es)
def As.new{as:`a!}(a:`hM){c:Str}{e:Ent}(he:`pN):∃fs:`e,`bk8:=by
 let#[x,hx]:=`axx ((a.nm c).mpr (`ax7));exact#[_,λl=>nf0 hx he]
def As.old{as:`a!}(a:`hM){c:Str}(he:`bmD)(l:`_):`atB:=by
 skip;rcases `ahH with h|⟨e,fs,_,h,_⟩
 ·done;exact h l
 ·rw[he] at h;cases h
def known(es:`aI):D:=`m `bmP
def ae0(es:`aI):`nk `gB `u3=`c `bmP:=by
 rw[u10 (`iK (`t (n::_)) n) (λd hd=>by
  let#[e,_,rfl]:=`gC;apply `Yb),`M,`M]
 rfl
def Uc0(es:`aI)(c:Str):vi0 `q `rZ (`Gh)=`t1 (`ax8):=by
 have hf:`bmQ:=by
  rw[`zF,`gT];exact `qy
 show `j5 (`cV `rZ=`d/\`bmQ) `lG (xor `q (`EE (`aJK).any `rZ));rw[`bmR,bz0,`pv]
def KB2:GS:=v7 `bc8
 (v7 (ifD `bc9
 (v7 (ifD `bc'
 (v7 `l?
 u6)
 u6)
 u6)
 (v7 (ifD `aug
 (v7 `l?
 u6)
 u6)
 u6))
 u6)
def e50{δ:Ds}(h1:`X3)(h2:`a?M):`a?N:=(yj1 h1 h2)
def wa1{g:`Ao}(hg:∀n,Vb (g n))(N:`e):neT (td g N) (td g N)=`ql:=by
 have hl:`ax9:=K22.py0 λx hx=>by
  let#[n,_,rfl]:=`wB;exact Mk.lu0 (hg n) 49
 show `j5 (`wP=`wP/\`ax9/\`ax9) `lG (!un0 `wQ `wQ);rw[`I #[rfl,hl,hl],jb0 _ 50 hl];rfl
include hb in
def zs1{as:`a!}(a:`hM){p:Pt}(hp:`n_){WD F:D}{k:Int}(h1:ixD WD (`fE)=`Jw)(h2:ixD F (`fE)=`c `MR)(s5:Sl):
  KB2 (`Co `k_ s5)=`ac (`Co `k_ `ek):=by
 apply `cq
 apply `ax6;obtain⟨K,hK⟩:∃K:D,K=`Gh:=`al;rw[← hC,← hK];have O:o2 `Q `cv ixD (`aa? s5)=`Jw:=`k (`X WD `fE rfl) h1
 have f4:o2 `Z `cv ixD `FC=`c `MR:=`k (`X F `fE rfl) h2
 have same:`Cu=p->(v7 (ifD `aug
   (v7 `l?
   u6)
   u6)
   u6) `FC=`ac `FC:=λe=>by
  rw[e] at f4;refine `bmS;rw[yd0 (`fR (b:=`q) (`k (`A0 p.d f4) (`Q6 (Mx.Ln0 `uE 46))))];rfl
 refine `Au O `bmS;show `eu `FC=_;cases p with
 | text w=>apply `FN;exact `ax'
 | row vs=>apply `FN;exact `ax'
 | table l=>apply `FN;exact `ax'
 | rcd c l=>
  have tt:ws0 `aLj `aLk `bmT=`c (`ax8):=ac0 `iV (`fR (by
   rw[`X `dC K rfl,hK,Uc0]))
  cases he:`gp with
  | none=>
   rw[`bZ λz=>by let#[e,h]:=ki0.mpr z;rw[he] at h;cases h] at tt;rw[yd0 tt];exact same (a.old he l)
  | some e=>
   rw[`bn (`ax7)] at tt;rw[wr0 tt];have hm:=iz0 he;have ce:=hb.ce e hm;have hl:∀p∈l,`f3:=λq hq=>(hp.vb q.2 `wH).1
   have J:∀p∈`ck,`f3:=λp hp=>(ce.fl p hp).2
   have M:=Zo0 hb.bk as hp;let#[fs,Y]:=a.new he;rw[Y] at f4 M;have n1:∀p∈l,`Z5:=`auK hp.nm
   have n2:∀p∈`sL,`Z5:=`auK M.nm
   have t1:=Qc0 hb.nd he ce.nd n1;have t2:=Qc0 hb.nd he ce.nd n2;rw[show eff (`sL) `ck=`aEb from funext λn=>Tj0 hl J fs n] at t2;rw[← hC] at t1 t2;refine `bU `bmT rfl;rw[yd0 (e50 `Kd `Kd)]
   ·rfl
   ·rw[j4 (x:=`ax!) (y:=`ax!) (by
     delta sk0;rw[f4];rfl) rfl]
    exact `Q6 (by simp[`cI,`ej])
   ·rw[j4 (x:=`ax5) (y:=`ax5) (by
     rw[`cC [(`kv c (`sL)).d,C] f4];exact t2) (by
     rw[`aG [`aaw,C]];exact t1)]
    exact wa1 (λn=>ij0 hl J n) N9
include hb in
def Dn0{as:`a!}(a:`hM){W:`aD}(h:Ws W)(h10:`ax?):me0 [`xX,`Z',`kt]=`f4:=by
 apply `cq
 have O:=`Q0;apply `bmU;obtain⟨F,hF⟩:∃D':D,D'=`Z':=`al;have lw:oA `ca xh0 `Kj=`aya:=by
  rw[`bmV,hW];show `dd (`ak `ayb);rw[`x]
 have lf:oA `d_ xh0 `Kj=`aya:=by
  rw[`aG [F],hF];show `dd (`ak (`o ((`BR).map `ia)));delta N;rw[`x,`x]
 rw[← hW,← hF];let#[δ',l1,s4,s5,rfl]:=u60 (f:=gN 4) (G:=KB2) (`bgC (`Co s4 s5)) (`bmW) 0 `Kj (by
  apply `atu;let#[J,rfl]:=Ev0 hj;rw[`cF] at J;refine#[(`Co `nn s5),_,rfl,zs1 hb a (h.pa W[j] (D6 J)) (`k hW (Rk.Gi0 J)) (by
   rw[hF];have M:j<(`BR).length:=by delta N;rw[`x];exact J
   have:=Rk.Gi0 M;apply `ay (show `vv[j]=`Cv (W[j]) from `Jh _);exact `w) s5,`nn,_,rfl]) `avq
 refine `eA (p6 (δ':=`Kj) (yr0 (`gK `rl `em (ae0 es))) (`bU `Kj (p6 (`Gb `bmW (i30 (`O lw rfl) `l `l)) `YF)));rw[yd0 (`fR (b:=`q) (`k (j4 lf lw) `bmX))];rfl
def M3:`e:=["i0", "a", "d"]
def more(l fl:`_):`_:=(M3.filter λn=>`ayc).map λn=>(n,`Cw)
def flp(es:`aI):Pt->Pt
 | `i7=>match `gp with
  | `g3=>`D `Q7 `bmY `i7
  | `g=>`i7
 | p=>p
def Si0(fl:`_)(n:Str):∀(m l:`_),(∀q∈m,`bmZ)->eff (l++m) fl n=`kM:=by
 intro z;induction z with
 | nil=>intro l _;rw[`du]
 | cons q m ih=>
  intro l h
  have e:∀k,eff `ayd fl k=eff l fl k:=λk=>by
   rw[Pa0]
   by_cases hk:k=q.1
   ·rw[`yH,hk,h q A8]
   ·rw[`GS]
  rw[show l++q::m=`ayd++m by rw[`be];rfl,ih `ayd λp hp=>`k e (h p `PS),e]
def J80(l fl:`_):∀q∈more l fl,`bmZ:=(λq hq=>by
 let#[n,hn,rfl]:=`awt;have J:n∉`k1:=by
  have:=(`pK hn).2;rw[`Wz,`aqM] at this;exact `w
 show `Cw=`kM;delta Nx.eff;rw[`ap λz=>J (nc0.mp (q90.mp z))];rfl)
include hb in
def Du0{as:`a!}(a:`hM)(p:Pt):`Cv (`Nu)=`Cu:=by
 cases p with
 | rcd c l=>
  delta flp;simp only[];cases he:`gp with
  | none=>rfl
  | some e=>
   simp only[];split
   ·let#[fs,J]:=a.new he
    rw[J,J,Nx.Lz0 `bm_ (λn=>Si0 `ck n _ l (J80 l `ck)) fs]
   ·rfl
 | _=>rfl
def T70(l fl:`_):(`o (more l fl))<=3:=by
 delta more;rw[`x];exact Bb1 _ _
include hb in
def Bw0{p:Pt}(hp:`n_):Mk.GP NN (`Nu):=by
 cases p with
 | rcd c l=>
  delta flp;simp only[];cases he:`gp with
  | none=>exact `uE
  | some e=>
   simp only[];split
   ·have ml:=`bm0
    have g:=`uE;refine#[?_,λw e=>(by cases e),`Y_,`axv]
    ·show (`o (`_h `fB))<=20
     rw[`x,`S];lia
    ·have hv:v∈`_h `fB:=hv
     rw[`au] at hv;rcases `axp with q|q
     ·exact g.vals v q
     ·apply `bm1
      let#[k,_,rfl]:=`c2 hr;exact Nx.ig0 `bm_ k
    ·rcases `axq with q|q
     ·have q:s∈`_h `bO:=q
      rw[`au] at q;rcases `c7 q with q|q
      ·exact g.names s (D1 _ q)
      ·apply `bm1
       let#[k,hk,rfl]:=`c2 hr;have:∀k∈M3,k∈NN:=`aU
       exact `w k (`pK hk).1
     ·exact g.names s (D4 _ q)
   ·exact `uE
 | text w=>exact `uE
 | row vs=>exact `uE
 | table l=>exact `uE
def FB2:GS:=v7 (ifD `bc!
 (v7 `bc?
 (v7 `bda
 (v7 `bdb
 u6)))
 u6)
 (v7 `qL
 u6)
def Mw0(l:`_)(n:Str):vi0 `d `rs (`m (`aen `p))=`t1 (`ayc):=by
 have hf:`bm2:=by
  rw[`zF,`gT];exact `qy
 show `j5 (`cV `rs=`d/\`bm2) `lG (xor `d ((`aJL).any `adm));rw[`bmR,bz0,`ng]
include hb in
def zl1(h10:`ax?){p:Pt}(hp:`n_)(WD:D)(acc:`i)(ha:`X'<=100)(s4 s5:Sl):
  ∃t3 t4 t5,FB2 (`Kk `oW `ek)=`ac [`g',`Lw,`X! [(`Nu).d],t3,t4,t5]:=by
 apply `cq
 have J:∀(q:Pt) (s4 s5:Sl),(v7 `qL u6) (`Kk `oW (.sh q.d))=`ac (`Kk (`X! [q.d]) (.sh q.d)):=λq s4 s5=>`l! (`Al acc q.d `l)
 cases p with
 | text w=>exact`_i `aye (`iM)
 | row vs=>exact`_i `aye (`nO)
 | table l=>exact`_i `aye (`n! l)
 | rcd c l=>
  have M:`aC<=12:=`nZ hp.ok.2;apply `ax6;have kc:`IX `RT `gB `_j=`c (`Gh):=w00 (items:=`rl) (`ax hC) `em (ae0 es);have ll:ob `aMY `_j=`bs `Q7:=`fR (by
   rw[j4 (x:=`h `qN) (y:=`Mp) (by
    rw[d9 (ds:=[`I3]) `e'];show `dd (`ak `bm3);rw[`x]) rfl]
   show `cg (`qN<9);congr 2;exact `Zx)
  have tt:ws0 `aLl `aLm `_j=`bs `bm4:=by
   refine ac0 `iV ?_
   by_cases h9:`Q7
   ·rw[`bn h9] at ll
    refine(ac0 ll (`fR (b:=`ax8) (by rw[`iv `dC `Gh kc,Uc0]))).trans ?_;congr 1;exact `wd #[λh=>#[h9,h],λh=>h.2]
   ·rw[`bZ h9] at ll
    rw[o90 ll,`bZ λq=>h9 q.1]
  rw[← hC] at J ⊢
  by_cases hc:`bm4
  ·rw[`bn hc] at tt
   let#[e,he]:=ki0.mpr hc.2;have ce:=`aNg;have ef:`bm5=`bmY:=by delta flp;simp only[];rw[he];simp only[];rw[`I hc.1]
   rw[ef];have ml:=`bm0;obtain⟨T,hT⟩:∃T:D,T=`m (`aen `p):=`al;have c4:yh0 2 [] `aMZ `Fu noT `Q `_j=`c T:=by
    rw[hT];refine `gK `uS `em ?_;show `bl2 `Q=_;rw[u10 (`iK (`t [v,_]) v) (λd hd=>by
     apply `awv;apply `Yb),`M,`M]
    rfl
   have c5:yh0 1 [1,3,4] `aM_ `eW `aM0 `aM1 [`g',`eh,`oW,`oX,.sh T,s5]=`c `bm6:=by
    refine `gK (M3.map `p) `I9 ?_;rw[r00 (`QP `gq `ayc) (`iK `gq (pr (n,`_g))) (λd hd=>by
     apply `atn;refine#[[`Aj,`eh,`oX,.sh T],rfl,`fR ?_,λ_=>`X0]
     ·rw[`X `gq T rfl,hT]
      exact Mw0 l n
     ·rw[`bmM,hC]
      exact Q70 hb.nd he ce.nd n),`X1,`M]
    delta more;rw[`M];rfl
   refine#[_,_,_,`bU [`g',`eh,`oW,.sh `bm7,.sh T,.sh `bm6] (J _ _ _)];rw[wr0 tt];refine `Au c4 (`Au c5 (`gd `bm7 rfl));rw[j4 (x:=`ax!) (y:=`t [`t (`_h pr)]) rfl (w70 (`O (by
    rw[`X `I3 (`t (`Q8)) rfl];show `j5 (`bm3+(`o `Q8)<=`R) `cb (`uS++`Q8);rw[`I `atE,`au]) rfl) `aLp)]
   rfl
  ·rw[`bZ hc] at tt
   have ef:`bm5=`i7:=by
    delta flp;simp only[];cases he:`gp with
    | none=>rfl
    | some e=>
     simp only[];rw[`ap λh=>hc #[h,`ax7]]
   rw[ef];exact`_i (`ax (yd0 tt)) `vT
include hb in
def Kj0(h10:`ax?){W:`aD}(h:Ws W):pm0 `blL=`c (`ayf):=by
 have J:=`Q0;apply `bmU;let#[δ',l1,s3,s4,s5,rfl]:=u60 (f:=gN 3) (G:=FB2) (λi δ=>∃s3 s4 s5:Sl,δ=(`Kk (`bb ((W.take i).map `ai2)) s3)) (`adO) 0 `bm8 (by
  rintro j d δ hj ⟨s3,s4,s5,rfl⟩;apply `uj;apply `auN;rw[`b4];let#[t3,t4,t5,e]:=zl1 hb h10 (h.pa p `Qe) WD `bm9 (`WP) s4 s5;refine#[(`Kk (`bb `bm9) `ek),_,rfl,e,t3,t4,t5,?_];rw[`jB,hp,`au];rfl) #[.un,.un,.un,rfl]
 apply `I8;rw[← hW];apply `cp `bm8 rfl (p6 (`Gb `adO `aMh) `ec);show `bab;rw[`aG [`m (`C' `ai2)]];show `auE=`J1 (`bm' `ia);rw[`M];rfl
include hb in
def R60{as:`a!}(a:`hM){W:`aD}(h:Ws W)(h7:`axz):`A_ `ayf as (`Z'):=by
 have e:`bm' `L7=`BR:=by
  delta N;rw[`M];exact D7 λp _=>Du0 hb a p
 have:=bt0 a.gb (ps:=`adP) (`k `x h7) (λp hp=>by
  apply `axr;exact Bw0 hb `blv) (λq hq=>by
  rw[e] at hq;have:=(`C1 hb.bk as).pa q hq;refine`blD;have:=`ahL;have:=Mk.ec0 q;lia) `E
 apply `ay e;exact `w
omit z
open Km (laid)
open Mk (Ent ent ap GA' GB')
def Bz0(x y:Int):Bl `bmq:=by
 refine#[(`aU:((`bmh:`e)).Nodup),`Aq];simp only[`it,`axY,`pu] at he;rcases he with rfl|rfl
 ·exact Fl0 (n:= `oF) `bf x
 ·exact Fl0 (n:= `rF) `bf y
def M20{e0 e1:Ent}(h:Bl `R9)(x:Int):As `R9 `aJG:=by
 have g0:=(h.ce e0 `az).ge;have g1:=(h.ce e1 `az).ge;have q0:=c8 (x/1) (`_k (`ax1≠0) g0.mk0);have q1:=c8 (x/2) (`_k (`ax2≠0) g1.mk0);have r0:=t0 (x/1) (`_k (`f5<`ax1) g0.mk0);have r1:=t0 (x/2) (`_k (`f5<`ax2) g1.mk0);refine#[#[`bm!,λe he=>(`ahV).ge,`d6,#[`d6,`Th],`bm!],λc=>P8];delta asx at hy;simp only[`it,`axY,`pu] at hy;rcases hy with rfl|rfl
 ·exact#[e0,`a_,rfl,`bE (`ax_<_)]
 ·exact#[e1,`a_,rfl,`bE (`ax0<_)]
def zr1(h:`j8):tr (`ro)=`d:=by
 have tv:∀{v:D},`a3->tr v=`d:=`bgH
 have tl:∀l:`i,(∀v∈l,tr v=`d)->`ZB:=by
  intro l
  induction l with
  | nil=>intro _;rfl
  | cons v l ih=>intro hl;rw[trs,hl v A8,`avr];rfl
 have tp:`atJ (trs `kF):=λl hl=>tl _ λd hd=>by
  apply `axe;show (tr (`r3)&&(tr q.2&&`d))=`d;rw[tv (hl q.2 `wH)];rfl
 show trs `mj=`d;refine tl _ `qK
 apply `Xq;have hv:=`axA;cases p with
 | text w=>rfl
 | row vs=>show (`d&&(trs vs&&`d))=`d;rw[tl vs λv h=>tv (hv v h)];rfl
 | table l=>show `bm?=`d;rw[tp l hv];rfl
 | rcd c l=>show (`d&&`bm?)=`d;rw[tp l hv];rfl
def SB:GS:=v7 (ifD `bdf
 (v7 `l?
 u6)
 u6)
 u6
def Ox0{g:GB}{δ:Ds}(h:`anq):ta0 g δ=`br:=by
 delta ta0;rw[h];rfl
def ws1{WD C V P1 P2:D}{q W:`j}(h1:`bna)(h2:th0 [WD,C]=`c P2)(h3:o40 [P1,P2]=`f4)(h4:qh0 [V,`b']=`axF)(h5:`axG=n)(a0 a1 a2 a5 a6 a7 a8 a9 a10 a11:Sl)(hW:oA `jH xh0 `_l=`atG):
  SB `_l=`ac `_l:=by
 refine `bU `_l rfl;rw[yd0 (e50 `bnb `Kd)]
 ·rfl
 ·rw[d9 (ds:=[P1,P2]) (`qO (`k (`aG [V,C]) h1) (`k `bnc h2))]
  exact h3
 ·rw[j4 (x:=`fP) (y:=`fP) (by
   rw[`cC [`aD?] (`l5 V h4)];show `AD (`o (K22.nd q));rw[K22.qo0,h5]) hW]
  exact `bmX
def H90(ns:`ai)(hl:`jf<=63):`bnd:=by
 skip;apply `cq
 let#[x0,c9,e7,_]:=`Kh 0;obtain⟨m,hm⟩:∃m:Nat,1+x0%6=`oY:=#[(1+x0%6).toNat,`U];have e6:1<=m/\m<=6:=`U
 have hp:∀k:Nat,∃p:Pt,k<7->∃x:Int,wq0 [`sC,`bne]=`Jm/\q70 `bnf=`Jw/\Pa m p:=λk=>by
  by_cases hk:k<7
  ·let#[x,hx,x0,_]:=nw0 ns (1+`cS) `l `l
   let#[p,h1,h2]:=Ci0 x `oY x0 `l;rw[`cF] at h2;exact#[p,λ_=>#[x,hx,h1,h2]]
  ·exact#[.row [],λh=>`K h hk]
 let#[Q,hQ]:=Bn1 hp;obtain⟨ps,b5⟩:∃ps:`aD,ps=(`bc m).map Q:=`al;have pl:`V=m:=by rw[b5,`x,`d?]
 have w0:`j8:=#[`U,λp hp=>by
  rw[pl];rw[b5] at hp;apply `YZ;let#[_,_,_,h]:=hQ k (`cX `H!);exact h]
 let#[r,mt]:=do0 w0.wb w0.len.1;have dr:=Zq0 w0.wb mt λx hx=>Sa0 (mt.lt x hx)
 have hW:Ws `N9:=w0.laid mt.cl';have hF:=N70 w0.wb mt;have h7:(`o `Cx)<=7:=by rw[pr0];have:=mt.cl'.len.2;lia
 done;generalize hWe:`Cx=W at dr hW hF h7;skip;let#[bx,by',O]:=El0 ns;have bl:=Bz0 bx by'
 have g0:=(`bng `M1);have g1:=(`bng `M2);let#[y0,e1,_]:=`Kh 50;let#[y1,c6,_]:=`Kh 51;have a0:=M20 bl y0;have a1:=M20 bl y1;apply `axI;done;rw[← hS] at c9 hQ O e1 c6 ⊢;have b6:=λa1 a2 a3 s7 a8 a9 a5 b4 a6=>Gz0 S 0 `E y0 e1 `_m `_n g0 g1 [] `E a1 a2 a3 s7 a8 a9 a5 b4 a6
 have c2:=λl hl a1 a2 a3 s7 a8 a9 a5 b4 a6=>Gz0 S 1 `E y1 c6 `_m `_n g0 g1 l hl a1 a2 a3 s7 a8 a9 a5 b4 a6
 generalize hA0:asx y0 `_m `_n=M at a0 b6;generalize hA1:asx y1 `_m `_n=J at a1 c2;have b7:[`M1,`M2].length<=10:=`bE (2<=10)
 generalize `aJM=es at O bl a0 a1 b6 c2 b7;skip;have B:=bl.bk;let#[b1,L1,L3,pk,bn,X,Y,c1,c3,p1,p2,b2,d1,d2,hY,b3]:=three hW h7 B a0 a1;have cI:=(di0 hW.wb).2;have eI:∀as:`a!,`e9 `vv `bnh=`BR:=λas=>by
  have:=(di0 (hW.new B as).wb).1;apply `ay `x;exact `w
 let#[DR,b0,c4,dl]:=Jw0 hW B a0 c3;have pw:=L00 hW B a0;have pA:=ho0 hW B a0 cI;have pB:=ho0 hW B a1 c1;have pC:=ho0 hW B a0 c3;have sA:=gh0 hW B a0 cI;have sB:=gh0 hW B a0 c1;have sC:=gh0 hW B a0 c3;let#[qA,mA,nA]:=Yc0 hW hF B a0 cI;let#[qB,mB,nB]:=Yc0 hW hF B a1 c1;let#[qC,mC,nC]:=Yc0 hW hF B a0 c3;rw[eI] at pA mA;have kp:=Dn0 bl a0 hW b7;have fl:=Kj0 bl b7 hW;have bf:=R60 bl a1 hW h7;have bw:=g90 B a1.gb hW h7;have Z:`FE `bni:=(hW.new B J).lean;have bw:`A_ `xX J `bni:=bw;have lw:`ayb=`jp:=r8 _;have d4:=zr1 hY;have e4:`bnj=`m (`jk (M.map ap)):=by delta al;rw[`ug]
 obtain⟨WD,d3⟩:∃D':D,D'=`xX:=`al;have c5:xh0 [WD]=`aya:=by rw[d3];show `AD `ayb;rw[lw]
 rw[← d3] at dr b1 pw kp fl bw;done;generalize `jp=n at nA nB nC c5;generalize web `bnk=O1 at b1 p1 c4 pA mA kp;generalize web (`e9 `aE6 L1)=O2 at b2 d1 pB mB;generalize web (`e9 `bnk L3)=O3 at b3 b0 pC mC;generalize `aJN=O4 at bf bw Z;generalize `axD=PW at pw sA sB sC;generalize `ayg `bnh=PA at pA sA;generalize `ayg L1=PB' at pB sB;generalize `ayg L3=PC at pC sC;generalize `ayf=FW at fl bf;generalize web X=XD at p2 b2;generalize web Y=YD at d2 b3 d4;generalize `kt=C at *;have p0:yh0 1 [0,2] (t70 `b3) `eW noT `bdc `bnl=`c (`m `mj):=by
  refine w00 (items:=u00 0 `oY) (i30 `e' `l `l) `bmk ?_;rw[gf0 (λk=>(Q k).d) `J9]
  ·rw[b5,`M,`cF]
   rfl
  ·let#[x,h1,h2,_]:=hQ k `l
   refine`nM [`jr,`eJ,`g9] ?_;rw[d9 (ds:=`bnf) (`O (by
    rw[`As [S,`bne] (`ax (`X `dl `ko rfl))];exact h1) `e')]
   exact h2
 obtain⟨LL,a4⟩:∃L:D,L=`ayh:=`al;have e3:ixD LL `q2=`c (al M):=`bnm
 have a7:ixD LL `Bd=`c (al J):=`bnm
 refine z70 rfl (p6 (δ':=(`Q9 .un .un)) (yr0 (`k (`aG [S,`b']) c9)) (p6 (δ':=`bnl) (yr0 (by
  rw[`ai0 `dl (x0%6) (`Z? (`l8 x0 (`h 6))),← hm];rfl)) ?_))
 refine p6 (δ':=(`Q9 `g9 `xH)) (yr0 (by
  rw[`cC [`m `mj] p0];rfl)) ?_
 refine p6 (δ':=(`Q9 `g9 `g')) (yr0 (by
  rw[`aG [`ro]];exact dr)) ?_
 refine p6 (δ':=(`A1 .un .un .un)) (yr0 (by
  rw[`aG [S]];exact O)) ?_
 refine `eB (`A1 `et .un .un) ?_;refine p6 (δ':=(`A1 (.ow (`ayh)) `vm `Li)) (`gL `bmr ((`Ki (`A1 `et (.sh (`Fw)) .un) (b6 _ _ _ _ _ _ _ _ _)).trans (`Ki (`A1 (`bb [al M]) `vm (.sh (`h y0))) (c2 [al M] (`bE (1<=10)) _ _ _ _ _ _ _ _ _)))) ?_;refine `bU [`eJ,`Lh,`g9,`g',`eh,`aAK,`vm,`Li,`aAL,.un,.un,.un,.un] ?_
 ·rw[a4]
  show z00 _ _ (`A1 (.sh (`ayh)) `vm `Li)=_;rw[← a4];refine yr0 ?_;rw[`bnn M (`qO rfl (`k `bno e3))];exact b1
 refine p6 (δ':=(`xZ .un .un .un)) (yr0 (by
  rw[d9 (ds:=[XD,C,al J]) (`O (by
   rw[`cC `blO (`k `bnp p1)];exact p2) `ayi)]
  exact b2)) ?_
 refine p6 (δ':=(`xZ `bnq .un .un)) (yr0 (by
  rw[`aG [O2]];exact d1)) ?_
 refine p6 (δ':=(`xZ `bnq `FD .un)) (yr0 (by
  rw[d9 (ds:=[YD,C,`bnj]) (`O (by
   show `ut (`bnr (`o (`aJ? `de)));rw[`x,show `bnr bn.length=`c YD from d2,`s,`I d4]) (`O rfl (`O (by
   show `ut (o2 `cw `cT ixD _);rw[`bno,e3,e4];rfl) rfl)))]
  exact b3)) ?_
 obtain⟨BN,e5⟩:∃B:D,B=`aE7:=`al;rw[← e5];refine `bU (`xZ `ahW `FD .un) ?_
 ·rw[yd0 (e50 `Kd `bnb)]
  ·rfl
  ·rw[j4 (x:=DR) (y:=DR) (`l5 O3 b0) (`k `bnp c4)]
   exact `Q6 dl
  ·rw[`aG [O3,O1]]
   exact Q20 b0 c4 dl
 have sb:∀{V P1:D} {q:`j},`bna->o40 [P1,PW]=`f4->qh0 [V,`b']=`axF->`axG=n->SB `bns=`ac `bns:=λh1 h2 h3 h4=>ws1 (W:=[]) h1 pw h2 h3 h4 _ _ _ _ _ _ _ _ _ _ (`k `bmV c5)
 refine p6 (δ':=`bnt) (`gL [O1,O2,O3] ((sm0 rfl (sb pA sA mA nA)).trans ((sm0 rfl (sb pB sB mB nB)).trans (sm0 rfl (sb pC sC mC nC))))) ?_;refine `bU `bnt ?_
 ·rw[yd0 (Ox0 (`fR (b:=`d) (`k (`aG [WD,O1,C]) kp)))]
  rfl
 apply `l7;rw[j4 (x:=O4) (y:=O4) (by
  rw[`Ky [FW,C,al J] (`k `bnc fl) `ayi];exact bf) (by
  rw[`bnn J `ayi];exact bw)]
 show `j5 (`bnu/\`bnu) `lG (deq O4 O4);rw[`I #[Z,Z],kb0 O4 50 Z]
omit Qw
namespace Qw
open L2 DL Rk
def top(i:Nat):`a0:=PySem.Challenge.pw_graphpack_k56_whole_makes_through_packs.main.body.getD i `bnv
def b_all:`gr "all"=`c `aX7:=`aU
def b_bool:`Wq `zp `zp:=`aU
def b_dict:`aqB:=`aU
def b_int:`Wq `jU `jU:=`aU
def b_list:`a12:=`aU
def b_ord:`gr "ord"=`c `aRe:=`aU
def b_sorted:`a52:=`aU
def b_str:`Wq `jT `jT:=`aU
def b_tuple:`a9N:=`aU
def b_zip:`gr `oQ=`c `Ih:=`aU
structure Txt(mg:`cd):Prop where
 b_all:mg "all"=`g
 b_bool:mg `zp=`g
 b_dict:mg `ij=`g
 b_enumerate:mg `pw=`g
 b_int:mg `jU=`g
 b_isinstance:mg `zr=`g
 b_len:mg `v8=`g
 b_list:mg `eV=`g
 b_ord:mg "ord"=`g
 b_range:mg `v2=`g
 b_reversed:mg `r'=`g
 b_set:mg `kQ=`g
 b_sorted:mg `o2=`g
 b_str:mg `jT=`g
 b_tuple:mg `dg=`g
 b_zip:mg `oQ=`g
 c_BASE:`A2 "BASE" `h 128
 c_MOST_NAMES:∃t,mg `bnw=`bnx
 c_MOST_NAME_SIGNS:`A2 `bny `h 8
 c_MOST_PARTS:∃t,mg `bnz=`bnx
 c_MOST_VALUES:`A2 `bnA `h 12
 c_MOST_WORD_SIGNS:`A2 `bnB `h 20
 c_NAME_SIGNS:`A2 `bnC `p `vZ
 c_WORD_SIGNS:`A2 `bnD `p `Ec
open B
def meth(i k:Nat):`a0:=match top i with
 | .ClassDef _ _ _ `dm _ _ _ _ _ _ _=>body.getD k `bnv
 | s=>s
def fsc{N P:`e}(a:`aR!)(b:`aR?)(c:`aSa)(d:`aSb)(e:`Gx/\(∀x∈P,`ake)/\∀y∈`Td,`aSc):`ar N P sc:=(#[a,b,c,e.1,d,e.2.1,e.2.2])
def cok{N:`e}(a:`aUu)(b:`am0=n+`xb)(c:(∀y∈`ht,`aUv)/\(∀y∈`ht,`aUw)/\(∀y∈`ht,`aUx)/\N'.Nodup/\∀k∈`aUy,`aUz):`HV:=(#[a,c.1,c.2.1,c.2.2.1,c.2.2.2.1,b,c.2.2.2.2])
def tgN:`G->`e
 | `dA x _=>[x]
 | `lB es _ _=>es.flatMap λe=>match e with|`dA x _=>[x]|_=>[]
 | _=>[]
def cN'(N:`e)(tg:`G)(caps:`j):`e:=tgN tg++`ae' λi=>N.getD i ""
def ndC{cl:`qh}{N:`e}{s:`v}{ex:`aw}(h:`Gx):(`aaM N).N.Nodup:=(h)
section
variable{N ps:`e}{f:`aR}
def J3(S:`ayj)(ok:`ayk)(hi:`j0)(hg:`ayl)(ht:`aym)(he:`ayn)(hc:`fv)(hsc:`t!)(hN:`t?)(hs:`f8):`aoj:=(`bnE d80)
def R6(S:`ayj)(ok:`ayk)(hi:`j0)(hg:`ayl)(ht:`aym)(he:`ayn)(hc:`fv)(hsc:`t!)(hN:`t?)(hs:`f8):`aoe:=(`bnE Jf0)
def U8(i:Nat)(S:`ayj)(ok:`ayk)(hi:`j0)(hg:`ayl)(ht:`aym)(he:`ayn)(hc:`fv)(hsc:`t!)(hN:`t?)(hiN:`HI)(hy:`nG)(hsw:`T5)(hs:`f8)(hf:`lT):`aol:=(Ut0 i S.nd ok `aJP hi hg ht he hc hsc hN hiN hy hsw hs hf)
omit z
section
variable{P:`av}{w:`T}
def cn0:`ar br0 `qM (n6 `ayo):=(`Y)
def Rp0(F:`ab `_o `_o `ayo)(T:`W)  : `fw `qM p40:=(
 `fx Z50 cn0 (`af cn0))
def fb0:`qX we0 `ayp:=(`Y)
def Ww0(F:`ab `M3 `M3 `ayp)(T:`W)  : `A3 1 xi0:=(
 `A4 uo0 fb0 (`af fb0))
def iw0:`ar pq0 `n1 (n6 `ayq):=(`Y)
def Zp0(F:`ab `_p `_p `ayq)(T:`W)(C_pair_names:`_q):`gV `n1 s90:=(
 `hN pk0 iw0 (`af iw0))
def Wt0:`qX nq0 `ayr:=(`Y)
def Nt0(F:`ab `Q' `Q' `ayr)(T:`W)  : `A3 1 `E1:=(
 `A4 m00 Wt0 (`af Wt0))
def il0:`ar sd0 `ays (n6 `ayt):=(`Y)
def X20(F:`ab `_r `_r `ayt)(T:`W)(C_pair_names:`_q):`gV `ays ua0:=(
 `hN s70 il0 (`af il0))
def Sp0:`qX d40 `ayu:=(`Y)
def Hz0(F:`ab `Q! `Q! `ayu)(T:`W)(C_values:`bnF):`A3 2 ut0:=(
 `_s dw0 Sp0 (`af Sp0))
def Mo0:`ar Gt0 `na (n6 `A5):=(`Y)
def Mg0(F:FunV K `no `no `A5 fa fd dV)(T:`W)(C_met_but:FnN P w K mg `aJ `_t 3 `ayv j60):`bt 4 `na (spN K qh0):=(
 vg1 (k:=3) (G:=Gv0) F Mo0 (`af Mo0) `ou)
def bx0:`ar Xc0 `ayv (n6 `ayw):=(`Y)
def Pq0(F:`ab `_t `_t `ayw)(T:`W)(C_links:`bnG):`bt 3 `ayv (spN K j60):=(
 okN (k:=2) (G:=Xb0) F bx0 (`af bx0) `ou)
def cd0:`ar lf0 `ayx (n6 `ayy):=(`Y)
def Rf0(F:`ab `_u `_u `ayy)(T:`W)(C_values:`bnF)(C_with_values:`gE `_r `ays ua0):`uF `ayx ow0:=(
 `uG lm0 cd0 (`af cd0))
def Te0:`ar P40 `na (n6 `A6):=(`Y)
def Uw0(F:FunV K `m? `m? `A6 fa fd dV)(T:`W)(C_met:`bnH P)(C_relinked:`uH `_u `ayx ow0):`bt 5 `na (spD K vq0):=(
 vb1 (k:=4) (G:=Qd0) F Te0 (`af Te0) `j!)
def aw0:`ar Xq0 `ayz (n6 `ayA):=(`Y)
def Px0(F:`ab `_v `_v `ayA)(T:`W)(C_count_names:`gE `_p `n1 s90)(C_is_within:`gE `_w `cj te0)(C_shaped:`bnI)(C_wanted_shapes:`abv `_x `ayB sh0):`uF `ayz vg0:=(
 `uG Xg0 aw0 (`af aw0))
def Ul0:`ar dd0 `I! (n6 `ayC):=(`Y)
def Ga0(F:`ab `_y `_y `ayC)(T:`W)(C_shaped:`bnI):`uF `I! th0:=(
 `uG dh0 Ul0 (`af Ul0))
def kk0:`ar qd0 `ayB (n6 `ayD):=(`Y)
def b70(F:`ab `_x `_x `ayD)(T:`W)  : `bt 1 `ayB (spN K sh0):=(
 `A4 qg0 kk0 (`af kk0))
def Wa0:`ar ng0 `ahX (n6 `ayE):=(`Y)
def Lk0(F:`ab `Q? `Q? `ayE)(T:`W)(C_shaped_pairs:`fc `_z `ayF vo0):`gV `ahX rz0:=(
 `hN nv0 Wa0 (`af Wa0))
def kz0:`ar tm0 `ayF (n6 `ayG):=(`Y)
def ax0(F:`ab `_z `_z `ayG)(T:`W)  : `fw `ayF vo0:=(
 `fx tj0 kz0 (`af kz0))
def e20:`qX m40 `ayH:=(`Y)
def Sm0(F:`ab `_w `_w `ayH)(T:`W)(C_pair_names:`_q):`gV `cj te0:=(
 `hN mc0 e20 (`af e20))
def jk0:`_A ti0 `ayI:=(`Y)
def Z40(F:`ab `L0 `L0 `ayI)(T:`W)  : `bt 1 `e! (spN K yc0):=(
 `A4 tg0 jk0 (`af jk0))
def Xt0:`_A nz0 `ayJ:=(`Y)
def K40(F:`ab `Re `Re `ayJ)(T:`W)  : `fw `e! tp0:=(
 `fx n90 Xt0 (`af Xt0))
def ci0:`_A lg0 `ayK:=(`Y)
def Ri0(F:`ab `Rf `Rf `ayK)(T:`W)  : `fw `e! t90:=(
 `fx lp0 ci0 (`af ci0))
def Za0:`ar Wd0 `qM (n6 `ayL):=(`Y)
def On0(F:`ab `_B `_B `ayL)(T:`W)(C_is_whole:`fc `_o `qM p40):`gV `qM qs0:=(
 `hN Wj0 Za0 (`af Za0))
def az0:`ar ks0 `ach (n6 `ayM):=(`Y)
def Os0(F:`ab `M4 `M4 `ayM)(T:`W)  : `fw `ach vk0:=(
 `fx ku0 az0 (`af az0))
def er0:`ar c70 `Yi (n6 `ayN):=(`Y)
def Sf0(F:`ab `_C `_C `ayN)(T:`W)  : `fw `Yi pf0:=(
 `fx cu0 er0 (`af er0))
def jc0:`ar p20 `FF (n6 `ayO):=(`Y)
def Z70(F:`ab `Rg `Rg `ayO)(T:`W)  : `fw `FF v90:=(
 `fx qx0 jc0 (`af jc0))
def ea0:`ar m70 `DQ (n6 `ayP):=(`Y)
def Uy0(F:`ab `Oq `Oq `ayP)(T:`W)(C_made_pairs:`fc `_D `Jf u70):`gV `DQ wk0:=(
 `hN m90 ea0 (`af ea0))
def gz0:`ar o30 `Jf (n6 `ayQ):=(`Y)
def Wz0(F:`ab `_D `_D `ayQ)(T:`W)  : `fw `Jf u70:=(
 `fx or0 gz0 (`af gz0))
def a90:`ar Xh0 `ah1 (n6 `ayR):=(`Y)
def Ov0(F:`ab `Rk `Rk `ayR)(T:`W)  : `fw `ah1 sf0:=(
 `fx Xx0 a90 (`af a90))
def Qt0:`ar ao0 `n1 (n6 `ayS):=(`Y)
def Bl0(F:`ab `_E `_E `ayS)(T:`W)(C_held_items:`bnJ)(C_is_new:`bnK)(C_item_bytes:FnN P w K mg `aJ `_F 3 `ayT um0):`bt 4 `n1 (spN K kd0):=(
 okN (k:=3) (G:=by0) F Qt0 (`af Qt0) `ou)
def W50:`ar n80 `lw (n6 `ayU):=(`Y)
def Ml0(F:`ab `Rb `Rb `ayU)(T:`W)  : `fw `lw ui0:=(
 `fx g80 W50 (`af W50))
def f60:`ar oj0 `ayT (n6 `ayV):=(`Y)
def Wy0(F:`ab `_F `_F `ayV)(T:`W)(C_is_new:`bnK)(C_known_head:`gE `_G `lw uq0)(C_name_bytes:FnN P w K mg `aJ `_H 2 `I? su0)(C_number_bytes:`Kl)(C_part_number:`bnL)(C_text_bytes:`bnM):`bt 3 `ayT (spN K um0):=(
 okN (k:=2) (G:=o70) F f60 (`af f60) `ou)
def f50:`ar oh0 `I? (n6 `ayW):=(`Y)
def Vc0(F:`ab `_H `_H `ayW)(T:`W)(C_number_bytes:`Kl)(C_sign_bytes:`ayX):`bt 2 `I? (spN K su0):=(
 `_s ou0 f50 (`af f50))
def gx0:`ar sz0 `wR (n6 `ayY):=(`Y)
def Vd0(F:`ab `On `On `ayY)(T:`W)  : `bt 1 `wR (spN K wf0):=(
 `A4 ss0 gx0 (`af gx0))
def im0:`qX sa0 `ayZ:=(`Y)
def Zu0(F:`ab `Rc `Rc `ayZ)(T:`W)(K_KINDS:`_I):`fw `cj v70:=(
 `fx sb0 im0 (`af im0))
def f90:`qX rc0 `ay_:=(`Y)
def Wx0(F:`ab `Rd `Rd `ay_)(T:`W)(C_sign_bytes:`ayX):`A3 2 vh0:=(
 `_s sv0 f90 (`af f90))
def f70:`ar ov0 `lw (n6 `ay0):=(`Y)
def V20(F:`ab `_G `_G `ay0)(T:`W)(C_folded:`bnN):`gV `lw uq0:=(
 `hN ob0 f70 (`af f70))
def fe0:`qX rf0 `ay1:=(`Y)
def V70(F:`ab `Ra `Ra `ay1)(T:`W)  : `A3 1 wy0:=(
 `A4 rh0 fe0 (`af fe0))
def cc0:`ar Zc0 [`m4] (n6 `ay2):=(`Y)
def Rh0(F:`ab `_J `_J `ay2)(T:`W)(M_Reader:`bnO P)(C_Reader_give:FnT P w K mg `aJ `bv "give" 7 `ay3 W7 pl0)(C_Reader_web:`Rj `ee 3 o80):`bt 8 [`m4] (spD K rs0):=(
 okD (k:=7) (G:=av0) F cc0 (`af cc0) `j!)
def Wo0:`ar gp0 `n1 (n6 `ay4):=(`Y)
def Lt0(F:`ab `_K `_K `ay4)(T:`W)(C_number_bytes:`Kl)(C_part_bytes:`wf `_L 4 sy0):`bt 5 `n1 (spN K pw0):=(
 okN (k:=4) (G:=g50) F Wo0 (`af Wo0) `ou)
def f20:`qX oq0 `ay5:=(`Y)
def V10(F:`ab `_L `_L `ay5)(T:`W)(C_held_bytes:`uH `_M `IR tu0)(C_held_items:`bnJ)(C_number_bytes:`Kl)(C_part_number:`bnL)(C_text_bytes:`bnM):`A3 4 sy0:=(
 okN (k:=3) (G:=od0) F f20 (`af f20) `ou)
def gy0:`ar o60 `IR (n6 `ay6):=(`Y)
def Wv0(F:`ab `_M `_M `ay6)(T:`W)(C_number_bytes:`Kl)(C_sign_bytes:`ayX)(C_value_number:`gE `_N `IQ tf0):`uF `IR tu0:=(
 `uG oc0 gy0 (`af gy0))
def jm0:`ar p10 `IQ (n6 `ay7):=(`Y)
def Z10(F:`ab `_N `_N `ay7)(T:`W)(C_folded:`bnN):`gV `IQ tf0:=(
 `hN qz0 jm0 (`af jm0))
def l80:`_A rr0 `ay8:=(`Y)
def c40(F:`ab `_O `_O `ay8)(T:`W)(C_unfolded:`bnP):`gV `e! uf0:=(
 `hN rm0 l80 (`af l80))
def Xm0:`ar Su0 `A7 (n6 `ay9):=(`Y)
def M50(F:`ab `_P `_P `ay9)(T:`W)(C_drawn:`bnQ P)(C_links:`bnG)(C_part_at:FnD P w K mg `aJ `_Q 4 `ay' tb0)(C_part_starts:`gE `_R `A7 pp0):`bt 6 `A7 (spD K qt0):=(
 okD (k:=5) (G:=Tv0) F Xm0 (`af Xm0) `j!)
def ef0:`ar m80 `adS (n6 `ay!):=(`Y)
def To0(F:`ab `Oo `Oo `ay!)(T:`W)  : `fw `adS v00:=(
 `fx m50 ef0 (`af ef0))
def iu0:`ar fc0 `A7 (n6 `ay?):=(`Y)
def Y90(F:`ab `_R `_R `ay?)(T:`W)(C_number_at:`aza):`gV `A7 pp0:=(
 `hN f40 iu0 (`af iu0))
def Z90:`ar j80 `ay' (n6 `azb):=(`Y)
def Pz0(F:`ab `_Q `_Q `azb)(T:`W)(K_KINDS:`_I)(C_item_at:`uH `_S `azc td0)(C_made_part:`azd)(C_number_at:`aza)(C_wanted_items:`bnR):`bt 4 `ay' (spD K tb0):=(
 okD (k:=3) (G:=je0) F Z90 (`af Z90) `j!)
def Z00:`ar j50 `azc (n6 `aze):=(`Y)
def Ob0(F:`ab `_S `_S `aze)(T:`W)(C_name_at:`gE `_T `Jj o20)(C_number_at:`aza)(C_numbered_value:`gE `_O `e! uf0)(C_sign_of:`_U):`uF `azc td0:=(
 `uG j30 Z00 (`af Z00))
def a80:`ar kx0 `Jj (n6 `azf):=(`Y)
def Nn0(F:`ab `_T `_T `azf)(T:`W)(C_sign_of:`_U):`gV `Jj o20:=(
 `hN jf0 a80 (`af a80))
def Qe0:`ar K00 `Yt (n6 `azg):=(`Y)
def Bg0(F:`ab `_V `_V `azg)(T:`W)(Cd_drawn:`bnS):`bt 6 `Yt (spD K o40):=(
 okD (k:=5) (G:=M80) F Qe0 (`af Qe0) `j!)
def j10:`ar qw0 `np (n6 `azh):=(`Y)
def ag0(F:`ab `_W `_W `azh)(T:`W)  : `fw `np ug0:=(
 `fx p30 j10 (`af j10))
def f00:`ar fy0 `np (n6 `azi):=(`Y)
def V80(F:`ab `Rh `Rh `azi)(T:`W)(C__law_cell_at:`fc `_W `np ug0):`gV `np wq0:=(
 `hN fj0 f00 (`af f00))
def fo0:`ar cj0 [`kn] (n6 `azj):=(`Y)
def Vy0(F:`ab `_X `_X `azj)(T:`W)  : `fw [`kn] q80:=(
 `fx ct0 fo0 (`af fo0))
def fn0:`ar ca0 `A8 (n6 `azk):=(`Y)
def Sw0(F:`ab `_Y `_Y `azk)(T:`W)(C__law_make:`fc `_X [`kn] q80)(C__law_mixed:`bnT):`uF `A8 md0:=(
 `uG c60 fn0 (`af fn0))
def ff0:`ar em0 `uq (n6 `azl):=(`Y)
def Va0(F:`ab `_Z `_Z `azl)(T:`W)  : `fw `uq tw0:=(
 `fx fx0 ff0 (`af ff0))
def op0:`ar ma0 `uq (`azm):=(`Y)
def T60(F:`ab `__ `__ `adT)(T:`W)(C__law_value:`fc `_Z `uq tw0):`gV `uq q70:=(
 okD (k:=1) (G:=cf0) F op0 (λcdv A outer s H E hr=>(j5 (W9 (zh0 (o4 Q4 (o4 Q4 (o4 Q4 (o4 Q4 (o4 Q4 `bnU)))))) (z9 2 op0.nd))
   (j5 (Ut0 3 op0.nd (sc:=`azm) (N:=ma0) (N':=`bnV) (n:=1) (caps:=`ajp) `Km `E (c7 `yj (o4 (z60 (Q6 `jF W8) W8) d8)) (`_0 `bnV) `_1 (`r4 (z20 (`pX (M7 `x0 (z60 (Q0 (Q6 `ns W8) (M6 W8 `jF)) W8)) (z40 C__law_value hr `E (o4 (Q0 (Q6 `ns `bnW) `jF) `_2))))))
   (j5 (W9 (z60 `jF W8) (z9 4 op0.nd))
   (j5 (z50 `bnX
   (j5 (R8 (z20 (`pX Q4 (`R0 (o4 (d80 (sc:=`azm) (N:=ma0) (N':=`bnY) (n:=2) (caps:=[]) `Km `E (V4 `x0) (`r4 (o7 0 1 (`aU:(`bnY:`e).Nodup) `E)) `_1 (`r4 `ns)) d8)))))
   Z7)
   Z7)
   (j5 (z50 `bnX
   (j5 (R8 (z20 (o4 Q4 `bnZ)))
   Z7)
   Z7)
   (j5 (R8 (z20 (o4 Q4 (o4 (M7 (zh0 `bnU) (zo0 `FG W8)) `bnZ))))
   Z7))))))) `j!)
def ep0:`ar cq0 `ah_ (n6 `azn):=(`Y)
def Td0(F:`ab `Ri `Ri `azn)(T:`W)  : `fw `ah_ u40:=(
 `fx ce0 ep0 (`af ep0))
def e90:`ar cp0 `azo (n6 `azp):=(`Y)
def U90(F:`ab `_3 `_3 `azp)(T:`W)(C__law_fill:`bn_):`bt 2 `azo (spN K sl0):=(
 `_s cm0 e90 (`af e90))
def e70:`ar co0 `azq (n6 `azr):=(`Y)
def Sn0(F:`ab `_4 `_4 `azr)(T:`W)(C__law_told:FnN P w K mg `aJ `_3 2 `azo sl0):`uF `azq me0:=(
 `uG cr0 e70 (`af e70))
def i70:`ar f10 `azs (n6 `azt):=(`Y)
def X40(F:`ab `_5 `_5 `azt)(T:`W)(C__law_fill:`bn_):`gV `azs pm0:=(
 `hN f80 i70 (`af i70))
def si0:`ar Vs0 `A8 (`Rl):=(`Y)
def Aw0{Pt:`f}(F:FunL K `nq `nq `CC fa fd c0)(C:`aqY)(hB:`WH)(T:`W)(C__law_book:`uH `_Y `A8 md0)(C__law_filled:`gE `_5 `azs pm0)(C__law_kept:`uH `_4 `azq me0)(C__law_mixed:`bnT)(C__law_part:`gE `__ `uq q70)(C_brought:`uH `_v `ayz vg0)(C_bundle:FnN P w K mg `aJ `_K 5 `n1 pw0)(C_pack:FnN P w K mg `aJ `_E 4 `n1 kd0)(C_plain:`uH `_y `I! th0)(C_same:FnD P w K mg `aJ `_V 6 `Yt o40)(C_unpacked:FnD P w K mg `aJ `_J 8 [`m4] rs0)(C_wanted:FnD P w K mg `aJ `_P 6 `A7 qt0)(Cd_drawn:`bnS)(Cd_met:`bn0 P):`bt 9 `A8 `bn1:=(
 vj1 (k:=8) (G:=Gq0) F si0 (λA outer s H E hT hr=>(j5 (`qY (`mc `azu `jF `azv) 1)
   (j5 (`qY (Q0 W8 (z60 `ns W8)) 2)
   (j5 (W9 (`R0 (o4 (d80 (sc:=`Rl) (N:=Vs0) (N':=`bn2) (n:=1) (caps:=[0,2]) `Km `E (c7 `yj `_2) (`_0 `bn2) `_1 (`r4 (z40 C__law_part hr `E (o4 (`mc `azu `ns (o4 (Q0 W8 `jF) d8)) `_2)))) d8)) `bn3)
   (j5 (W9 (`azw `ajA) `bn3)
   (j5 (`qY (`mc C__law_book `jF d8) 4)
   (j5 (N6 5 (N7 d8) `BF)
   (j5 (p7 A0 rfl (c7 `yj `azv) (z9 6 `BF)
   (j5 (`qY (`mc `azu `jF (o4 (Q0 W8 (d7 6)) d8)) 7)
   (j5 (Z8 (zk0 5 (d80 (sc:=`Rl) (N:=Vs0) (N':=`bn4) (n:=1) (caps:=[4,7]) `Km `E (c7 `yj `azv) (`_0 `bn4) `_1 (`r4 (z20 (`pX `bn5 (z60 (Q6 `aci `bnW) (zc0 `nt (o4 `bn5 d8)))))))))
   Z7)))
   (j5 (V5 5 (`qY `bn6 8))
   (j5 (`qY (`RL (o4 (z40 C_unpacked hr `E (o4 (zg0 C_pack hr `E `azx) d8)) `ajB)) 9)
   (j5 (`qY (zg0 C_bundle hr `E (o4 (d7 9) d8)) 10)
   (j5 (`qY (`RL (o4 (yh1 10 C_wanted hr `E hT C hB rfl (λc hc=>I80 rfl _ c hc) (λc pm J cd=>#[_,_,_,rfl,rfl,rfl,rfl,rfl,rfl,yr1,rfl,rfl,rfl,`aU,`aU,`aU,λu=>rfl]) rfl rfl) (`pX `FG (Aq0 `aNh (V3 (zn0 W8)))))) 11)
   (j5 (z50 (`R5 (zb0 (z7 (zf0 `r5) O5 (`azw (o4 (d7 11) d8)) (`azw `azx)) (Q8 (P0 (Q7 (`mc C_same (d7 11) `azx))))))
   (j5 `azy
   Z7)
   Z7)
   (j5 (p7 A0 rfl (O9 (z20 (o4 `adU (`pX (d7 9) (d7 11))))) (z9 12 `BF)
   (j5 (z50 (`R5 (zb0 (P0 (Q7 (z40 C_same hr `E (`pX (`mc C_plain (d7 12) `ai3) (z40 C_plain hr `E `bn7))))) (Q8 (z7 (zf0 `r5) O5 (zc0 `nt (o4 (Co0 Cd_met hr `E (o4 (d7 12) d8)) d8)) (zc0 `nt `ajA)))))
   (j5 `azy
   Z7)
   Z7)
   Z7))
   (j5 (z50 (P0 (Q7 (`mc C__law_kept `x0 (o4 `adU `ai3))))
   (j5 `azy
   Z7)
   Z7)
   (j5 (R8 (v8 `ajC m7 (`RL (o4 (z40 C__law_filled hr `E `bn7) `ajB)) `bn6))
   Z7)))))))))))))))) `j!)
def mt0:`Kn l60 `azz:=(`Y)
def eq0(F:`ab `aeT `bn8 `azz)(T:`W)(CN_Reader:`fy):`Ko 1 t10:=(
 `Kp l70 mt0 (`af mt0))
def iv0:`ar fa0 `ay3 (n6 `azA):=(`Y)
def X00(F:`ab "give" `bn9 `azA)(T:`W)(CN_Reader:`fy)(C_Reader_end_parts:`Rj `azB 1 ul0)(C_Reader_takes:`Kq `azC 6 wn0)(C_is_byte:`gE `_B `qM qs0):`bt 7 `ay3 (spB K 0 pl0):=(
 okB (k:=6) (G:=l40) F iv0 (`af iv0) `h7)
def j70:`Kn ik0 `azD:=(`Y)
def ar0(F:`ab `ah0 `bn' `azD)(T:`W)(CN_Reader:`fy):`Ko 1 vm0:=(
 `Kp nn0 j70 (`af j70))
def V90:`Kn kl0 `_6:=(`Y)
def V60(F:`ab `ee `bn! `_6)(T:`W)(CN_Reader:`fy)(C_Reader_whole:`bn?)(C_made_part:`azd):`Ko 3 o80:=(
 okB (k:=2) (G:=ka0) F V90 (λcdv A outer s H E hr=>(Z0 (M4 (M5 (N5 (Z9 0 C_Reader_whole hr `E)))
   (Z0 (za0 Y0)
   W6)
   W6)
   (Z0 (Q9 (Iz0 0 `L3 `L4 (sc:=n6 `_6) (N:=kl0) (N':=`cj) (n:=1) (caps:=[]) `Km `E `uI (`_0 `cj) (`r4 (`mc C_made_part `boa (o4 `boa d8)))))
   W6))) `h7)
def j00:`Kr if0 `azE:=(`Y)
def au0(F:`ab `azC `bob `azE)(T:`W)(CN_Reader:`fy)(C_Reader_takes_digit:`Kq `azF 4 vn0)(C_Reader_takes_letter:`Kq `azG 2 ve0)(C_Reader_takes_name_number:`Kq `azH 5 wm0)(C_Reader_takes_sign:`Kq `azI 2 ud0)(C_Reader_whole:`bn?):`Ks 6 wn0:=(
 okB (k:=5) (G:=sw0) F j00 (`af j00) `h7)
def px0:`Kr oe0 `azJ:=(`Y)
def jy0(F:`ab `azF `boc `azJ)(T:`W)(CN_Reader:`fy)(C_Reader_goes_on:FnT P w K mg `aJ `bv `azK 1 `Yh W7 tv0)(C_Reader_takes_head:FnT P w K mg `aJ `bv `azL 3 `azM W7 va0):`Ks 4 vn0:=(
 okB (k:=3) (G:=t80) F px0 (`af px0) `h7)
def l50:`ar kp0 `Yh (n6 `azN):=(`Y)
def c20(F:`ab `azK `bod `azN)(T:`W)(CN_Reader:`fy):`bt 1 `Yh (spB K 0 tv0):=(
 `Kp pt0 l50 (`af l50))
def oa0:`ar oz0 `azM (n6 `azO):=(`Y)
def g70(F:`ab `azL `boe `azO)(T:`W)(CN_Reader:`fy)(K_KINDS:`_I)(C_Reader_hold:`Kt)(C_Reader_takes_part:FnT P w K mg `aJ `bv `azP 2 `azQ W7 tz0)(C_unfolded:`bnP):`bt 3 `azM (spB K 0 va0):=(
 okB (k:=2) (G:=s40) F oa0 (`af oa0) `h7)
def oo0:`ar ox0 `azQ (n6 `azR):=(`Y)
def hh0(F:`ab `azP `bof `azR)(T:`W)(CN_Reader:`fy)(C_Reader_hold:`Kt)(C_most_held:`fc `_C `Yi pf0)(C_wanted_items:`bnR):`bt 2 `azQ (spB K 0 tz0):=(
 okB (k:=1) (G:=qb0) F oo0 (λcdv A outer s H E hr=>(Z0 (zl0 (`R5 (zb0 (z7 yl0 zm0 `aci (`mc C_most_held `ns d8)) (Q8 (z7 b8 j6 (O7 `nt `uI) (v6 T.c_MOST_PARTS)))))
   (Z0 (Q9 (O6 yk0))
   W6)
   W6)
   (Z0 (za0 (Z8 (V0 0 C_Reader_hold hr `E (o4 (z20 (`pX Q4 (O7 `nt `uI))) d8))))
   (Ti0 0 3 `E (Pp0 0 3 oo0.nd `ns) (bq0 0 3 `uI) (bq0 0 3 `uI)
   (Z0 (za0 (Z8 (N8 `uI Q4)))
   (Z0 (za0 (Z8 (De0 `uI (PDF.pd (V1 `R3 `aNk (`mc C_wanted_items `ns `_2))))))
   (Z0 (Q9 (O6 yk0))
   W6))))))) `h7)
def i40:`ar f30 `L2 (n6 `azS):=(`Y)
def Yp0(F:`ab `abx `bog `azS)(T:`W)(CN_Reader:`fy):`bt 1 `L2 (spB K 0 xv0):=(
 `Kp l00 i40 (`af i40))
def n00:`Kn mf0 `azT:=(`Y)
def fg0(F:`ab `azB `boh `azT)(T:`W)(CN_Reader:`fy):`Ko 1 ul0:=(
 `Kp qn0 n00 (`af n00))
def on0:`Kr n60 `azU:=(`Y)
def gw0(F:`ab `azI `boi `azU)(T:`W)(C_Reader_hold:`Kt)(C_sign_of:`_U):`Ks 2 ud0:=(
 okB (k:=1) (G:=qc0) F on0 (`af on0) `h7)
def rj0:`Kr q60 `azV:=(`Y)
def mi0(F:`ab `azH `boj `azV)(T:`W)(CN_Reader:`fy)(C_Reader_takes_known_name:FnT P w K mg `aJ `bv `azW 4 `azX W7 u20)(C_is_left:`bok):`Ks 5 wm0:=(
 okB (k:=4) (G:=vy0) F rj0 (`af rj0) `h7)
def q30:`ar qe0 `azX (n6 `azY):=(`Y)
def l20(F:`ab `azW `bol `azY)(T:`W)(CN_Reader:`fy)(C_Reader_hold:`Kt)(C_Reader_names_here:`Rj `azZ 3 ue0):`bt 4 `azX (spB K 0 u20):=(
 okB (k:=3) (G:=t60) F q30 (`af q30) `h7)
def og0:`Kn oy0 `az_:=(`Y)
def gi0(F:`ab `azZ `bom `az_)(T:`W)(CN_Reader:`fy)(C_made_part:`azd)(C_pair_names:`_q):`Ko 3 ue0:=(
 okB (k:=2) (G:=ty0) F og0 (`af og0) `h7)
def pd0:`Kr pz0 `az0:=(`Y)
def ju0(F:`ab `azG `bon `az0)(T:`W)(CN_Reader:`fy)(C_Reader_hold:`Kt)(C_is_left:`bok)(C_sign_of:`_U):`Ks 2 ve0:=(
 okB (k:=1) (G:=uu0) F pd0 (`af pd0) `h7)
omit z
theorem us1:∀{us:`aV},`o8=1->∃a,us=[a]
 | [a],_=>#[a,rfl]
def us2{us:`aV}(h:`o8=2):∃a b,us=`mO:=by
 cases us with
 | nil=>cases h
 | cons a t=>let#[b,rfl]:=us1 `az1;exact#[a,b,rfl]
def us3{us:`aV}(h:`o8=3):∃a b c,us=[a,b,c]:=by
 cases us with
 | nil=>cases h
 | cons a t=>let#[b,c,rfl]:=us2 `az1;exact#[a,b,c,rfl]
def us4{us:`aV}(h:`o8=4):∃a b c d,us=[a,b,c,d]:=by
 cases us with
 | nil=>cases h
 | cons a t=>let#[b,c,d,rfl]:=us3 `az1;exact#[a,b,c,d,rfl]
def Hm(K:`C)(c:`f)(x q:Str)(st:`a0):Prop:=∃f fd,`aEg/\`boo/\`GQ/\`qc
def Hd(K:`C)(x:Str)(st:`a0):Prop:=∃f fd,`ack/\`bop
def wt1{st:`a0}{f:`f}{kV:`A}(a:`bop)(l:`G_ `FH)(c:`rJ K cdv x=`d)(k:`qc):Hd K x st:=(#[f,_,Se0 l c k,a])
section
variable(P9:`av)(w9:`T)(b9:`aa){h:`aa}{st:`a0}{ps:`e}{m:`r}(X9:K.In h)(G9:`arS)(h9:Hd K x st)
include X9 G9 h9
def cD1(o:`az2)(hl:`V=1)(b:`boq):`az3:=by
 apply `uJ;exact`bor
def cD2(o:`az2)(hl:`V=2)(b:`bos):`az3:=by
 apply `uJ;exact`bot
def cD3(o:`az2)(hl:`V=3)(b:`bou):`az3:=by
 apply `uJ;exact`bov
def cN1(o:`_7)(hl:`V=1)(b:`boq):`_8:=by
 apply `uJ;exact`bor
def cN2(o:`_7)(hl:`V=2)(b:`bos):`_8:=by
 apply `uJ;exact`bot
def cN3(o:`_7)(hl:`V=3)(b:`bou):`_8:=by
 apply `uJ;exact`bov
def cN4(o:`_7)(hl:`V=4)(b:∀(kV doc pm:`A) (an:`cY) (cdv ct u v w y:`A),`sM `FH #[[u,v,w,y],[]]=`bD (`rI [u,v,w,y])):`_8:=by
 apply `uJ;exact#[f,fd,o F9,`aCI,`aCJ,`O0 (by let#[u,v,w,y,rfl]:=us4 `O1;exact b _ _ _ _ _ _ _ _ _ _)]
omit z
section
variable(P9:`av)(w9:`T)(b9:`aa){st:`a0}{ps:`e}{m:`bX}{q c:Str}{C:`f}{Fl:`e}(aT:`pq)(bT:Sb0 K C Fl=`d)(h9:Hm K C x q st)
include aT bT h9
def cT1(o:`az4)(hl:`V=1)(b:`aJS `_9)(hm:`az5):`az6:=by
 apply `az7;exact`az8 `aJT
def cT2(o:`az4)(hl:`V=2)(b:`aJU `_9)(hm:`az5):`az6:=by
 apply `az7;exact`az8 `aJV
def cT3(o:`az4)(hl:`V=3)(b:`aJW `_9)(hm:`az5):`az6:=by
 apply `az7;exact`az8 `aJX
omit z
def wn1{c:`f}{q:Str}{st:`a0}{f:`f}{kV:`A}(a:`boo)(l:`G_ `_9)(d:`rJ K cdv q=`d)(k:`qc)(i:`GQ):Hm K c x q st:=(#[f,_,Se0 l d k,a,i,k])
def all_mk{l:W.OpenLaw}{w:`T}{h:`aa}(X:K.In h)(G:`arS)(hfa:mg `nq=`OO)
  {f6 f9 f58:`f}
  {od6 an6 od9 an9 od58 an58:`cY} {sl6 sl9 sl58:`hz} {oc6 kV6 dc6 pm6 cd6 ct6 oc9 kV9 dc9 pm9 cd9 ct9 oc58 kV58 dc58 pm58 ct58:`A}
  {cL Pt:`f}
  {t_BASE t_MOST_NAMES t_MOST_NAME_SIGNS t_MOST_PARTS t_MOST_VALUES t_MOST_WORD_SIGNS t_NAME_SIGNS t_WORD_SIGNS:Tok}
  {cT_Reader:`f} (aT_Reader:`_' `bv `ea) (bT_Reader:Sb0 K `ea W7=`d)
  (h0:Hd K `_o `ayo)
  (h1:Hd K `M3 `ayp)
  (h2:Hd K `_p `ayq)
  (h3:Hd K `Q' `ayr)
  (h4:Hd K `_r `ayt)
  (h5:Hd K `Q! `ayu)
  {T6:`f} {tc6:`A} {td6:`cY} {tn6:Nat} {ts6:`hz} {tt6_0:Tok}
  (a6:`_' `no f6) (l6:`hq f6=`c #[oc6,od6,`ry (`B1 `no `no (wv0 `A5) (xx0 `A5) (n6 `A5) (`ag T6) kV6 dc6 pm6 an6 cd6 ct6),sl6]) (c6:`rJ K cd6 `no=`d) (k6:`u4 (`ag f6))
  (t6:`hq T6=`c #[tc6,td6,`fi ⟨`bow⟩ tn6,ts6])
  (h7:Hd K `_t `ayw)
  (h8:Hd K `_u `ayy)
  {T9:`f} {tc9:`A} {td9:`cY} {tn9:Nat} {ts9:`hz} {tt9_0:Tok}
  (a9:`_' `m? f9) (l9:`hq f9=`c #[oc9,od9,`ry (`B1 `m? `m? (wv0 `A6) (xx0 `A6) (n6 `A6) (`ag T9) kV9 dc9 pm9 an9 cd9 ct9),sl9]) (c9:`rJ K cd9 `m?=`d) (k9:`u4 (`ag f9))
  (t9:`hq T9=`c #[tc9,td9,`fi ⟨`box⟩ tn9,ts9])
  (h10:Hd K `_v `ayA)
  (h11:Hd K `_y `ayC)
  (h12:Hd K `_x `ayD)
  (h13:Hd K `Q? `ayE)
  (h14:Hd K `_z `ayG)
  (h15:Hd K `_w `ayH)
  (h16:Hd K `L0 `ayI)
  (h17:Hd K `Re `ayJ)
  (h18:Hd K `Rf `ayK)
  (h19:Hd K `_B `ayL)
  (h20:Hd K `M4 `ayM)
  (h21:Hd K `_C `ayN)
  (h22:Hd K `Rg `ayO)
  (h23:Hd K `Oq `ayP)
  (h24:Hd K `_D `ayQ)
  (h25:Hd K `Rk `ayR)
  (h26:Hd K `_E `ayS)
  (h27:Hd K `Rb `ayU)
  (h28:Hd K `_F `ayV)
  (h29:Hd K `_H `ayW)
  (h30:Hd K `On `ayY)
  (h31:Hd K `Rc `ayZ)
  (h32:Hd K `Rd `ay_)
  (h33:Hd K `_G `ay0)
  (h34:Hd K `Ra `ay1)
  (h35:Hd K `_J `ay2)
  (h36:Hd K `_K `ay4)
  (h37:Hd K `_L `ay5)
  (h38:Hd K `_M `ay6)
  (h39:Hd K `_N `ay7)
  (h40:Hd K `_O `ay8)
  (h41:Hd K `_P `ay9)
  (h42:Hd K `Oo `ay!)
  (h43:Hd K `_R `ay?)
  (h44:Hd K `_Q `azb)
  (h45:Hd K `_S `aze)
  (h46:Hd K `_T `azf)
  (h47:Hd K `_V `azg)
  (h48:Hd K `_W `azh)
  (h49:Hd K `Rh `azi)
  (h50:Hd K `_X `azj)
  (h51:Hd K `_Y `azk)
  (h52:Hd K `_Z `azl)
  (h53:Hd K `__ `adT)
  (h54:Hd K `Ri `azn)
  (h55:Hd K `_3 `azp)
  (h56:Hd K `_4 `azr)
  (h57:Hd K `_5 `azt)
  (a58:`dv `nq=`c (`c `boy)) (l58:`hq f58=`c #[oc58,od58,`ry (`boz),sl58]) (c58:`rJ K (`ag cL) `nq=`d) (k58:`u4 `boy)
  (h59:Hm K `ea `aeT `bn8 `azz)
  (h60:Hm K `ea "give" `bn9 `azA)
  (h61:Hm K `ea `ah0 `bn' `azD)
  (h62:Hm K `ea `ee `bn! `_6)
  (h63:Hm K `ea `azC `bob `azE)
  (h64:Hm K `ea `azF `boc `azJ)
  (h65:Hm K `ea `azK `bod `azN)
  (h66:Hm K `ea `azL `boe `azO)
  (h67:Hm K `ea `azP `bof `azR)
  (h68:Hm K `ea `abx `bog `azS)
  (h69:Hm K `ea `azB `boh `azT)
  (h70:Hm K `ea `azI `boi `azU)
  (h71:Hm K `ea `azH `boj `azV)
  (h72:Hm K `ea `azW `bol `azY)
  (h73:Hm K `ea `azZ `bom `az_)
  (h74:Hm K `ea `azG `bon `az0)
  (z_all:`dv "all"=`cN)
  (z_bool:`dv `zp=`cN)
  (z_dict:`dv `ij=`cN)
  (z_enumerate:`dv `pw=`cN)
  (z_int:`dv `jU=`cN)
  (z_isinstance:`dv `zr=`cN)
  (z_len:`dv `v8=`cN)
  (z_list:`dv `eV=`cN)
  (z_ord:`dv "ord"=`cN)
  (z_range:`dv `v2=`cN)
  (z_reversed:`dv `r'=`cN)
  (z_set:`dv `kQ=`cN)
  (z_sorted:`dv `o2=`cN)
  (z_str:`dv `jT=`cN)
  (z_tuple:`dv `dg=`cN)
  (z_zip:`dv `oQ=`cN)
  (y_BASE:`A9 "BASE" 128 t_BASE)
  (y_MOST_NAMES:`A9 `bnw 60 t_MOST_NAMES)
  (y_MOST_NAME_SIGNS:`A9 `bny 8 t_MOST_NAME_SIGNS)
  (y_MOST_PARTS:`A9 `bnz 60 t_MOST_PARTS)
  (y_MOST_VALUES:`A9 `bnA 12 t_MOST_VALUES)
  (y_MOST_WORD_SIGNS:`A9 `bnB 20 t_MOST_WORD_SIGNS)
  (y_NAME_SIGNS:`dv `bnC=`z9 (`p `vZ t_NAME_SIGNS))
  (y_WORD_SIGNS:`dv `bnD=`z9 (`p `Ec t_WORD_SIGNS))
  {kA_KINDS:`f} {kn_KINDS:Nat} {ks_KINDS:`hz} {kt_KINDS_0 kt_KINDS_1 kt_KINDS_2 kt_KINDS_3:Tok}
  (kN_KINDS:`_' "KINDS" kA_KINDS) (kL_KINDS:`hq kA_KINDS=`c #[`mu,`g,`fi ⟨`p `i5 kt_KINDS_0,`p `g! kt_KINDS_1,`p `g1 kt_KINDS_2,`p `hU kt_KINDS_3⟩ kn_KINDS,ks_KINDS])
  : ∃fd:`f0,(∀(s:`v) (v:`A),`P_ s fd #[[v],[]] [(`uY,v)])/\∀base:`aa,`akc->`Sn->`Dy `aJ cL Pt->`WH->`me `j9 w K mg `aJ CX0 9 fa fd `A8 `bn1:=by
 skip;have e:=hfa.symm.trans (D5 X G a58);cases e;have T:`W:=#[E1 X G z_all,E1 X G z_bool,E1 X G z_dict,E1 X G z_enumerate,E1 X G z_int,E1 X G z_isinstance,E1 X G z_len,E1 X G z_list,E1 X G z_ord,E1 X G z_range,E1 X G z_reversed,E1 X G z_set,E1 X G z_sorted,E1 X G z_str,E1 X G z_tuple,E1 X G z_zip,(`qZ y_BASE),(`qZ y_MOST_NAMES),(`qZ y_MOST_NAME_SIGNS),(`qZ y_MOST_PARTS),(`qZ y_MOST_VALUES),(`qZ y_MOST_WORD_SIGNS),(`qZ y_NAME_SIGNS),(`qZ y_WORD_SIGNS)];have e4:`_I:=#[_,_,_,_,D5 X G kN_KINDS,kL_KINDS,rfl,rfl,rfl,(by show 4<=`R;decide),`aE `al (`aE `al (`aE `al (`aE `al (`ah))))];have F6:=P50 (x:= `no) (st:=`A5) l6 c6 k6;have F9:=P50 (x:= `m?) (st:=`A6) l9 c9 k9;have r3:=Se0 (x:= `nq) (st:=`CC) l58 c58 k58;let#[q7,r1,q5,r0,q6,r2]:=h59;have J:`fy:=Cu0 `KD `KE;done;refine#[`boz,λs v=>.of_eq rfl,λbase _ _ q9 q8=>?_];have n0:=`A' h0 Rp0;have Y:=`Ku h1 Ww0;have j1:=`Ku h3 Nt0;have d2:=`b8 cN2 h12 (b70 F T);have e1:=`b8 cD3 h14 (ax0 F T);have M:=`Ku h16 Z40;have j2:=`A' h17 K40;have d3:=`A' h18 Ri0;have a3:=`A! h20 Os0;have m0:=`A' h21 Sf0;have a8:=`A! h22 Z70;have f4:=`A' h24 Wz0;have e8:=`b8 cD3 h25 (Ov0 F T);have f7:=`A! h27 Ml0;have a2:=`Ku h30 Vd0;have b2:=`A? h31 Zu0 e4;have b7:=`Ku h34 V70;have a5:=`A! h42 To0;have e3:=`A! h48 ag0;have m1:=`A' h50 Vy0;have g4:=`A! h52 Va0;have c4:=`b8 cD3 h54 (Td0 F T);have o1:`bnO `j9:=#[#[`ea,q7,_,eq0 q5 T J,`KD,#[(ko0 `KE).2.2.1,r0,q6,(ko0 `KE).2.2.2],q5.binds (ps:=`mJ) λ_ _ _ _ _ _ us hl=>by let#[_,rfl]:=us1 hl;rfl,D5 X G `KD]];have a7:=`gg cT1 h61 (ar0 F T J);have c5:=`gg cT2 h65 (c20 F T J);have O:=`gg cT2 h68 (Yp0 F T J);have c2:=`gg cT1 h69 (fg0 F T J);have f1:=`A? h2 Zp0 Y;have e9:=`md h4 X20 Y;have m6:=`b8 cN1 h5 (Hz0 F T j1);have g3:=`md h13 Lk0 e1;have l0:=`A? h15 Sm0 Y;have n7:=`A? h19 On0 n0;have a4:=`md h23 Uy0 f4;have k4:=`b8 cN2 h29 (Vc0 F T M a2);have c1:=`b8 cN1 h32 (Wx0 F T a2);have g6:=`md h33 V20 j2;have e6:=`A? h39 Z10 j2;have d1:=`A? h40 c40 d3;have f2:=`md h43 Y90 a5;have n3:=`b8 cD3 h46 (Nn0 F T a3);have c3:=`md h49 V80 e3;have l4:=`md h53 T60 g4;have m2:=`b8 cN2 h55 (U90 F T c4);have f0:=`md h57 X40 c4;have b4:=`gg cT3 h67 (hh0 F T J O m0 a8);have b3:=`gg cT2 h70 (gw0 F T O a3);have b0:=`gg cT2 h74 (ju0 F T J O e8 a3);have e7:=`b8 cN3 h7 (Pq0 F T m6);have d4:=`b8 cD2 h8 (Rf0 F T j1 e9);have n2:=`b8 cD3 h10 (Px0 F T f1 l0 g3 d2);have q1:=`md h11 Ga0 g3;have f5:=`b8 cN4 h28 (Wy0 F T f7 g6 k4 M b2 c1);have i9:=`b8 cD1 h38 (Wv0 F T M a2 e6);have n4:=`b8 cD3 h45 (Ob0 F T n3 a5 d1 a3);have l3:=`b8 cD1 h51 (Sw0 F T m1 c3);have k5:=`b8 cD3 h56 (Sn0 F T m2);have k3:=`gg cT1 h62 (V60 F T J a7 a4);have b5:=`gg cT2 h66 (g70 F T J e4 O b4 d3);have b6:=`gg cT1 h73 (gi0 F T J a4 Y);have p4:`bnH `j9:=#[f6,_,`boA,D5 X G a6,k6,`boB `boC];have q4:`bn0 `j9:=#[f6,_,[`bow],[`b'],`boA,D5 X G a6,k6,`boD `boC,`boE,`boF];have q3:=`b8 cN1 h26 (Bl0 F T b7 f7 f5);have i0:=`b8 cN1 h37 (V10 F T i9 b7 M b2 c1);have n8:=`b8 cD2 h44 (Pz0 F T e4 n4 a4 a5 a8);have b1:=`gg cT2 h64 (jy0 F T J c5 b5);have a1:=`gg cT2 h72 (l20 F T J O b6);have q0:`bnQ `j9:=#[f9,_,`boG,D5 X G a9,k9,`boB `boH];have h6:`aJQ `j9:=#[f9,_,[`box],[`b'],`boG,D5 X G a9,k9,`boD `boH,`boE,`boF];have o3:=`b8 cN1 h36 (Lt0 F T M i0);have Z:=`gg cT2 h71 (mi0 F T J a1 e8);have n9:=`b8 cD2 h41 (M50 F T q0 m6 n8 f2);have q2:=`md h47 Bg0 h6;have e5:=`gg cT2 h63 (au0 F T J b1 b0 Z b3 a7);have f3:=`gg cT2 h60 (X00 F T J c2 e5 n7);have n1:=`b8 cD1 h35 (Rh0 F T o1 f3 k3);exact Aw0 #[#[_,_,_,_,_,_,_,_,rfl,l58,c58]] q9 q8 T l3 f0 k5 c3 l4 n2 o3 q3 q1 q2 n1 n9 h6 q4
def Uu0{B:BS}:∀ns:`ai,`nE `ajh `xv:=by
 intro z;induction z with
 | nil=>rw[`hE,`hE,ze0]
 | cons n ns ih=>rw[`J,`J,O8];exact`hD `B2 ih
def M30{a:`f}{ns:`ai}(hK:`aqS)(hS:`a6N)(hm:`bnd):spD K dv0 `gH H `aqZ `xw:=by
 refine#[`Lm,[`sC],`n',`a8v,?_,hm,λv H' _ r=>`aGt];rw[O8];refine`Ul _ ?_;rw[w80];exact#[a,`aAI,rfl,script_at hK hS,Uu0 ns]
omit Qw
open PySem.W PyProof.Rows
end
set_option maxRecDepth 100000 in
theorem PySem.Challenge.cw_graphpack_k56_whole_makes_through_packs_holds : PySem.Challenge.rw_graphpack_k56_whole_makes_through_packs.Holds := by
 refine opn ?_
 k_fill
 refine L2.Ge0 (l:=PySem.Challenge.rw_graphpack_k56_whole_makes_through_packs) (n:=63) (k:=9) (x := "_law_script") (c0:=?cL) (q:=(("law" : Str) ++ ".<locals>." ++ "<lambda>")) (CX:=L2.CX0) (sp:=λK=>DL.spD K Qw.dv0) rfl (by decide) rfl ⟨rfl,by decide,by decide⟩ ?KP ?HC ?F ?S ?C
 case F =>
  intro w mg fa h KX G hmg;refine' Qw.all_mk KX G hmg ?aT_Reader ?bT_Reader ?h0 ?h1 ?h2 ?h3 ?h4 ?h5 ?a6 ?l6 ?c6 ?k6 ?t6 ?h7 ?h8 ?a9 ?l9 ?c9 ?k9 ?t9 ?h10 ?h11 ?h12 ?h13 ?h14 ?h15 ?h16 ?h17 ?h18 ?h19 ?h20 ?h21 ?h22 ?h23 ?h24 ?h25 ?h26 ?h27 ?h28 ?h29 ?h30 ?h31 ?h32 ?h33 ?h34 ?h35 ?h36 ?h37 ?h38 ?h39 ?h40 ?h41 ?h42 ?h43 ?h44 ?h45 ?h46 ?h47 ?h48 ?h49 ?h50 ?h51 ?h52 ?h53 ?h54 ?h55 ?h56 ?h57 ?a58 ?l58 ?c58 ?k58 ?h59 ?h60 ?h61 ?h62 ?h63 ?h64 ?h65 ?h66 ?h67 ?h68 ?h69 ?h70 ?h71 ?h72 ?h73 ?h74 ?z_all ?z_bool ?z_dict ?z_enumerate ?z_int ?z_isinstance ?z_len ?z_list ?z_ord ?z_range ?z_reversed ?z_set ?z_sorted ?z_str ?z_tuple ?z_zip ?y_BASE ?y_MOST_NAMES ?y_MOST_NAME_SIGNS ?y_MOST_PARTS ?y_MOST_VALUES ?y_MOST_WORD_SIGNS ?y_NAME_SIGNS ?y_WORD_SIGNS ?kN_KINDS ?kL_KINDS
  case aT_Reader|a6|l6|c6|k6|t6|a9|l9|c9|k9|t9|a58|l58|c58|k58|z_all|z_bool|z_dict|z_enumerate|z_int|z_isinstance|z_len|z_list|z_ord|z_range|z_reversed|z_set|z_sorted|z_str|z_tuple|z_zip|y_BASE|y_MOST_NAMES|y_MOST_NAME_SIGNS|y_MOST_PARTS|y_MOST_VALUES|y_MOST_WORD_SIGNS|y_NAME_SIGNS|y_WORD_SIGNS|kN_KINDS|kL_KINDS=>k_is
  case bT_Reader=>kernel_rfl
  case h0|h1|h2|h3|h4|h5|h7|h8|h10|h11|h12|h13|h14|h15|h16|h17|h18|h19|h20|h21|h22|h23|h24|h25|h26|h27|h28|h29|h30|h31|h32|h33|h34|h35|h36|h37|h38|h39|h40|h41|h42|h43|h44|h45|h46|h47|h48|h49|h50|h51|h52|h53|h54|h55|h56|h57=>exact Qw.wt1 (by k_is) (by k_is) (by k_is) (by k_is)
  case h59|h60|h61|h62|h63|h64|h65|h66|h67|h68|h69|h70|h71|h72|h73|h74=>exact Qw.wn1 (by k_is) (by k_is) (by k_is) (by k_is) (by k_is)
 case KP=>exact λP=>rfl
 case HC=>exact λP=>by kernel_rfl
 case S=>exact λw H a ns hl hS=>Qw.M30 (by kernel_rfl) hS (Qw.H90 ns hl)
 case C=>exact λ_ _ _ _ z=>z
#print axioms PySem.Challenge.cw_graphpack_k56_whole_makes_through_packs_holds
