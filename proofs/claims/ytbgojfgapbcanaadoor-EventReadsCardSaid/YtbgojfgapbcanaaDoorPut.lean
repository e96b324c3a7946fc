/- varint's add, Put and Texts. -/
import Derived.Test.YtbgojfgapbcanaaDoorPutN
import Derived.Test.YtbgojfgapbcanaaDoorPutT
