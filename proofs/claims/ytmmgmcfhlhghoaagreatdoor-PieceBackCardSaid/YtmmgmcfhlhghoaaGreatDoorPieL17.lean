/- All that the landed calls of layer 17 answer. -/
import Derived.Test.YtmmgmcfhlhghoaaGreatDoorPieB17
import Derived.Test.YtmmgmcfhlhghoaaGreatDoorPieC17
namespace Go.Proofs.YtmmgmcfhlhghoaaGreatDoor
open Go.RowKit
namespace L17
theorem pie : Pie :=
  ⟨fun WA wl n d b w hs hn hd hm hok => stands_all WA wl n d b w hs hn hd hm hok,
   fun WA wl n d a b w hs hn hd hm hok => pieces_any WA wl n d a b w hs hn hd hm hok,
   fun A l n c B ends m d w hs hn h1 hk hm h2 hcp hz => whole_any A l n c B ends m d w hs hn h1 hk hm h2 hcp hz⟩
end L17
end Go.Proofs.YtmmgmcfhlhghoaaGreatDoor

