/- The chapter's two examples, reckoned. -/
import Derived.Test.YtejhhkhaoekkiaaDoorSha
namespace Go.Proofs.YtejhhkhaoekkiaaDoor.Ck
open Go.RowKit
set_option maxRecDepth 100000
theorem sha_none : (sha []).take 6 = [0xe3, 0xb0, 0xc4, 0x42, 0x98, 0xfc] := by decide +kernel
def jefe : List Int := [74, 101, 102, 101]
def want28 : List Int := [119, 104, 97, 116, 32, 100, 111, 32, 121, 97, 32, 119, 97, 110, 116, 32, 102, 111, 114, 32, 110, 111, 116, 104, 105, 110, 103, 63]
theorem hmac_jefe : (hmac jefe want28).take 6 = [0x5b, 0xdc, 0xc1, 0x46, 0xbf, 0x60] := by decide +kernel
end Go.Proofs.YtejhhkhaoekkiaaDoor.Ck
