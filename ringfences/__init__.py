"""Ringfences: where threads with store buffers need fences."""
